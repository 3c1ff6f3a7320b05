import PyProof.Rows.All
import Wide.All
import OpenK.AllK
import Wide.FinOn
import Lean
import PyProof.EqAt
import PyProof.EqKinds
import PyProof.TupleCall
import PySem.Syntax
import PySem.Builtin.Str.Common
import PyProof.ReprReads
import PyProof.Rows.SetFrom
import PyProof.SetRoads
import PyProof.TupleKey
import PyProof.CollectIter
import KE.KSortTup
import PyProof.Rows.SortWalk
import PyProof.DictRoadsH
import PyProof.DictWalks
import PyProof.DictUpdate
import PyProof.AttrMissHeap
import KE.KDictOf
import PyProof.NeKinds
import PyProof.StrLaws
import PyProof.ReprRoads
import PyProof.FitsInt
import KE.KIsAll
import PyProof.ZipIter
import PyProof.StrWalks
import PyProof.EnumFor
import PyProof.EnumStmt
import PyProof.DictTable
import PyProof.ListNew
import PyProof.Rows.Range3
import PySem.Challenge.RW_handpromise_k77_what_a_program_comes_to
set_option compiler.extract_closed false
set_option compiler.postponeCompile true
set_option genSizeOf false
set_option genInjectivity false
set_option bootstrap.genMatcherCode false
set_option Elab.async false
set_option linter.all false
noncomputable section
open PySem renaming wpAny_bind->Aa,wpAny_pure->Ac,Shared->Ad,model->A1,Expr->A2,Program->A3,World->AG,wpAny_newObj_type->AM,wpAny_holding->AR,starEach->AT,wpAny_call_entry->AV,sizeLine_eq->Bf,wpAny_callSpecial?_slot->Bg,Around->Bh,mainGlobals->Bu,wpAny_setField_rec->B4,mem_of_lookup->B6,wpAny_field->B7,wpAny_seqItems->BB,codeAny_builtin->BF,wpAny_Call_Name_kw->BG,wpAny_setState_of->BN,compareOp->BR,Builtin->BX,wpAny_typeOf->BY,rawInt->BZ,wpAny_truthy_bool->Ca,foldedSetIterable->Cb,wpAny_dictEntries->Cg,NameKind->Ck,bootBuiltins->Co,IsPair->Cr,DictEntry->Cs,Stmt->Cu,wpAny_passesOwn->C2,cLine->C5,sysModules->CB,wpAny_mono->CC,plainId_quiet->CH,binaryOp->CN,wpAny_isInstance->CU,wpAny_typeNameOfWhole_keyiter->CY,intKind->Da,assignEach->Db,ofAClassStatement->Dj,wpAny_pyIter_list->Dl,eval->Dn,Scope->Dp,firstArgMember->Dr,wpAny_rule->Ds,tupleKind->Dw,wpAny_forIn_list->D1,wpAny_askSetting->D2,backTo->D7,pyNext->D8,wpAny_specialOf->DJ,sliceBounds->DQ,Paired->DT,carriedByValue->DX,builtinLookup_eq_fast->Ed,wpAny_notOrdered_dict->Ee,call_meets->Ei,codeAny->Eo,wpAny_attempt->Er,FuncData->Et,wpAny_updateSeq_pair->Ew,wpAny_execs_nil->Ex,letOwnedTupleGo->Ey,wpAny_dictEpoch->E3,wpAny_setEntries_of->E8,codeAny_mono->EA,Pos->EJ,isSubtype_type->EV,wpAny_setField->EX,IsZip->EZ,holding->Ff,wpAny_pyIter_slot->Fj,atKey_none_of_get->Fk,wpAny_comprehension_free->Ft,wpAny_onRaise->Fu,noFill_tuple_add->F2,assign->F9,wpAny_pyNext_list_item->FA,concat_meets->FD,IsPart->FE,getItem->FF,wpAny_Call_method_late->FH,callerA->FI,valueAt->FO,typeLookup_type->FS,importedModules->FV,wpAny_pyNext_list_end->FW,wpAny_eqIsQuiet_tuple->FX,wpAny_isOneOf_keyiter->Gb,GenState->Gg,hashByValue->Gm,wpAny_of_eq->Gp,wpAny_runValue->Gq,wpAny_fieldsOf->Gs,isSubtype_stop->Gv,codeAny_extend_loopS->Gw,ItemsAre->Gx,PassesOwn->G5,Arguments->G6,wpAny_standAt->GH,behindInMarks->GI,seq_tuple_add->GJ,attributeBase->GL,setSearchFrom->GN,wpAny_handled->GO,wpAny_newList->GP,dictSetHashed->GQ,builtinsNs->GV,pyIter->GW,Result->GX,wpAny_pyHash_tuple->Hg,wpAny_pyIter_tuple->Hj,getattributeRaised->Hk,spliced->Hr,wpAny_assign_Name->Ht,wpAny_sequenceKey->Hv,seqIndex_neg->Hw,slot_list_getitem->Hx,list_append->Hy,searchCouldBeSeen->H0,wpAny_storeSet_of->HA,atKey_of_get->HG,ZipApart->HI,wpAny_eqBool_int->HP,entryFor_of_tree->HX,wpAny_pyIter_zip->Ic,treeTable->Id,seqIndex_of->Il,wpAny_throw->Io,storedH_new->Iq,storedH_old->Ir,wpAny_letGo->Iu,codeAny_of_tree->IA,Keyword->IJ,relabel->IL,OsState->IM,entryOfKey->IN,wpAny_Name->IP,wpAny_load->IQ,recursionLimit->IR,bindArgs->IS,bindL->IT,bindC->IU,typeIs_int->IY,call->IZ,entryFor->Jc,entryFor_alias->Jd,setsByText->Je,newExc->Jf,wpAny_newTuple->Jg,field->Jl,Thread->Jn,intBits_le_64->Jw,evalPart_none->Jy,call_list_seq->J0,fenceModules?->JA,swapsWith->JD,lastMarks->JF,cellsFrom->JG,seqItems?->JJ,BindsTo->JM,setAddHashed->JP,setNext->JQ,collect->JR,newList->JS,denote->JY,Env->Ke,interactive->Kf,IsRangeIter->Kg,subscripted->Ki,keywordEach->Kj,slotArgs->Km,newTuple->Kn,raiseNew->Ko,compEnvC->Ks,wpAny_BinOp->Kt,argsOk->K8,Params->KC,hashStr->KF,standAt->KG,storedH->KJ,Sem->KR,table->KU,Meets->KY
open PySem.Heap renaming get?_push_of_some->Ab,get?_push_size->Al,lt_size->Am,SameBut->B5,get?_update_self->B9,size_push->BC,get?_update_ne->CL,get?_update_other->De,get?_none_of_le->Gf,ExtBut->Gu
open List renaming replicate->Ae,getElem?_eq_getElem->Af,mem_cons_of_mem->Ag,getElem?_set_ne->Ah,mem_cons_self->Ai,size_toArray->Aj,mem_singleton->Ap,getElem?_map->Ar,mem_cons->As,getElem?_eq_some_iff->Au,length_set->Ax,getElem?_set_self->Ay,getElem?_append_right->Az,mem_map->A0,getElem?_append_left->A4,mem_append_right->A5,range->A9,mem_append_left->AE,take_length->AF,append_nil->AH,map_map->AJ,getElem_mem->AO,getD_eq_getElem?_getD->AU,mem_append->AY,nodup_cons->AZ,zip_cons_cons->Ba,replicate_succ->Bb,all_eq_true->Bc,map_append->Bd,length_replicate->Be,length_take->Bl,foldl_cons->Bm,mem_range->Bn,take_succ_eq_append_getElem->Bp,mem_of_mem_take->Bw,length_singleton->B1,mem_filterMap->B3,flatten_cons->B8,not_mem_nil->BI,getElem_map->BJ,getElem?_zip_eq_some->BP,mem_iff_getElem?->BQ,pairwise_cons->BU,getElem?_replicate->Cc,append_assoc->Cd,length_range->Ce,pairwise_singleton->Cf,filterMap_cons->Cj,getElem?_eq_none->Cz,getElem?_toArray->C0,pairwise_map->C7,foldl_append->CA,getElem?_take_of_lt->CF,length_drop->CT,mem_filter->Df,nil_append->Dg,take_zero->Du,drop_length->D4,drop_eq_getElem_cons->D6,map_congr_left->DB,all_cons->DF,length_append->DM,length_eq_zero_iff->DR,lookup->DS,take_of_length_le->DY,take_append_drop->Ec,isEmpty_nil->Ek,mem_flatMap->El,length_dropLast->Eu,of_mem_zip->Ez,filterMap_map->EN,getElem?_drop->EU,pairwise_iff_getElem->Fb,nodup_append->Fl,map_inj_left->Fo,zip_nil_left->Fq,sum_cons->F1,nodup_range->F3,lookup_cons->F5,range'_succ->F6,pairwise_lt_range->FJ,length_map->FQ,forIn_cons->FT,filterMap_append->Ge,pairwise_append->Gn,take_succ->Go,nodup_nil->Gr,forIn_nil->Gy,mem_of_mem_drop->G1,foldl_nil->G2,getElem?_range->GC,toList_toArray->GD,flatMap_append->GE,length_pos_iff->GG,foldl->GZ,getElem?_take->Hf,take_sublist->Hu,ext_getElem?->HC,getElem?_inj->HE,zipIdx_cons->Ia,cons_append->Ig,length->Ik,range'->Iv,filter_map->Iz,find?_cons->IF,sum_append->IG,zipIdx_nil->IH,map_take->J3,map_drop->J4,set->Ky,Nodup->K5
open Nat renaming le_refl->Ak,ne_of_lt->Aw,lt_of_lt_of_le->A7,zero_le->AA,lt_irrefl->AC,le_trans->AI,lt_or_ge->AS,add_sub_cancel_left->AW,lt_succ_of_lt->Br,lt_succ_self->Bz,ne_of_gt->BE,not_lt_zero->Ci,«repeat»->Dv,le_of_lt->Dy,le_add_right->Dz,mul_comm->D3,not_lt->DN,le_succ->Ev,lt_trans->EB,succ_pos->EC,sub_zero->EE,mul_succ->EF,mod_lt->EQ,lt_trichotomy->Fh,le_antisymm->FR,mul_le_mul_right->G4,mul_le_mul_left->GF,lt_of_le_of_lt->Hb,succ_mul->Hz,le_succ_of_le->HH,le_of_not_lt->HV,mul_le_mul->Jq,pow_succ->JO,div_one->Kl
open Option.some renaming inj->An,injEq->C9
open PySem.W renaming Frag->Aq,boot_heap->BV,kia_one->C4,keepIn->CQ,methodObj->Fd,cellsFrom_some->FB,fnOf->FC,SharedT->G7,boot_drawn->Hl,boot_toks->Ie,OpenLaw->II,codeIn->IV,namesBound->Jo,staticsOk->JL,kas_rev->JT,stepOk->JZ,gensDone->Kv,laidKept->Kw,openGood->Kx,OpenLaw->KH,through->KK,stepT->KL,topStub->KM,topFrom->KN,LeftO->KZ
open Array renaming length_toList->A6,getD_eq_getD_getElem?->A8,getElem?_eq_getElem->AD,getElem?_toList->AL,getElem?_eq_some_iff->Cv,replicate->E1,getElem?_eq_none_iff->ES,forIn_toList->ET,perm_iff_toList_perm->EW,size_append->Fm,getElem?_eq_none->FK,toList_filter->GA,isEmpty_iff->HK,toList_inj->HW,mk->Jp
open PySem.Value renaming ref->AB,none->Bj,bool->CZ,type->Eg,int->EH,isInt->Ih,isStrOf->Ju,str->JC
open PySem.Builtin.SmallTypes renaming nextOf->AK,ownedTupleIsFree->BD,ownedTupleHandOut->DC
open PySem.Heap.SameBut renaming update->AQ,refl->Fi
open PySem.NameKind renaming free->AX
open Classical renaming byContradiction->Bk
open PyProof.Rows renaming slot_tuple_getitem->Bq,callWith_type1->BK,callWith_builtin1->BS,seqObj->Cq,listUpdate_at->Di,get?_update_seq->DK,AllBare->Fe,subscriptTail_builtinR->FG,envOfC->Gi,entry_tuple_getitem->G8,args_tuple_getitem->GY,size_push'->Hi,slot_str_getitem->HS,seqEpoch_at->Ip,entry_list_sort->ID,IntsAre->IK,slicePart_none->IW,slot_list_sort->Jh,args_list_sort->Ji,sortedHeap_old->Jj,tupleItemsOf_->Jx,subscriptTail->Jz,sortedHeap_at->J7,plain_sorted->JU,entry_sorted->JV,args_sorted1->JW,kind_sorted->Kr,boot_sorted->Ku,tuples'->KI
open Int renaming toNat_natCast->Bt,toNat_of_nonneg->CM,natCast_mul->DL,mul_le_mul_of_nonneg_right->Em,natCast_add->E7,emod_lt_of_pos->He,natCast_nonneg->Hq,le_trans->HM,one_mul->Iw,emod_nonneg->Iy
open PySem.Around renaming under_plainId->Bv
open Option renaming map_eq_some_iff->Bx,isSome_iff_exists->DD,getD_none->Eh,map_some->E2,isSome->GU,none->Kk
open PySem.Obj renaming mapSeq->B0,data_mapDictKeys->Dt,data_mapFields->DO,isFreed_of_dict->E9,isFreed_of_fields->Gc,cls_mapFields->HF,data_mapDict->HY,mapFields->J8,putSet->K6
open PySem.Builtin.Str renaming strSliceIndices->B2,occurrences->CO,occurrences->Im,tooLong->K0
open PySem.Builtin.List renaming listTooLong->BA,listExtendWith->Cp,listSameRef->CJ,listLengthHint->ED,listFitsIndex->EY,listTouch->FL
open PySem.F renaming called_set->BH,slot_dict_keyiterator_next->Cw,slot_tuple_iterator_next->Cy,plainAttrs_list->CW,args_tuple_add_2->DE,slot_list_getattribute->DH,entry_tuple_add->DP,slot_tuple_add->DV,plain_list_iadd->Ea,slot_dict_iter->Eb,args_tuple_iterator_next_1->E4,slot_zip_next->E5,entry_tuple_iterator_next->EG,slot_dict_update->Fx,slot_list_extend->Fy,slot_list_append->Fz,type_list_append->F0,slot_set_iter->FY,entry_proto_collect->FZ,plain_proto_collect->Ga,slot_int_rmul->Gd,args_list_append_2->Gk,entry_list_append->G9,plain_extend_loop->GB,slot_list_append->Ha,entry_list_iadd->HD,args_zip_next_1->HJ,entry_zip_next->Ib,plain_set_new->IB
open False renaming elim->BL
open List.Pairwise renaming nil->BM,filterMap->F4
open Sum renaming inr->BO,inl->F8
open PySem.Challenge renaming rw_handpromise_k77_what_a_program_comes_to->BW,pw_handpromise_k77_what_a_program_comes_to->En
open PySem.StrLaws renaming sliceText->Ch
open PyProof.Rows.F renaming plain_set_update_loop->Cm,entry_set_update_loop->DA
open PySem.Builtin.Slice renaming slicePlaces->C1,sliceAdjust->D5,sliceApplied->EM,slicePartIndex->Ix,sliceFields->Jr
open Bool renaming or_eq_true->C3,or_true->C8,not_true->CI,not_eq_true'->Dm,and_true->DG,false_ne_true->EI,not_false->Fa,false_and->Gh,or_eq_false_iff->G3,or_false->GK,and_eq_true->HR,and_false->Jm,true_and->J9
open PySem.Str renaming ofString->C6,length->IX,join->KT
open PySem.Builtin.Tuple renaming tupleExact->CG,tupleItemsOf->EO,tupleHashOf->HN,tupleIsExact->Jk
open Prod.mk renaming injEq->CK
open PySem.Builtin.Dict renaming updateFrom->CV,showsAll->Ef,entriesForEmpty->E6,addKeywords->Fv,selfAndRest->Fw,mergeDict->FP,quietEq->Gz,dictSlotNone->Js,readDirectly->Jt,pairItems->JX,merge->K9
open PySem.Calls renaming spliced_cons->Dc,spliced_nil->DU,callWith_builtin->DW,Name_function_global->EK,call_function_entry->Fc,evalArgs_plain->Gj
open ForInStep renaming yield->Dh
open PySem.SetTable renaming below->Dq,advance->Ej,fill->GM,insertAt->H9,slot->J1,fits->J2,sameMemory->Kz,gaveWay->KP,tooFull->KQ
open PySem.List renaming filterMap_getElem?_range_length->D9
open Ne renaming symm->DI
open List.Perm renaming refl->DZ,append_left->Kb,of_eq->KS,swap->KW
open PySem.Shared renaming TypeIs->Ep
open Function renaming comp_def->Fp
open PySem.AutoSeq1 renaming sub_list_list->FM,idx_int->HZ,sub_list_tuple->JK
open True renaming intro->FN
open PySem.PassesOwn renaming never->FU
open Std.Legacy.Range renaming forIn_eq_forIn_range'->G0,size->Kd
open PySem.W.Fast renaming te10156331382660048174->GR,te11892475500146522536->GS,te14364793385576792824->GT,te6613529449190102663->Hm,te4187177175401517315->Hn,te5923862056798008813->Ho,sEq->HL,sEq_iff->Ka
open PySem.pickOrder renaming go->HB
open PySem.Data renaming cell->HQ,fields->Ij,seq->Ja
open PySem.IsL renaming update->HU
open Sum.inr renaming inj->Ii
open PySem.Builtin.Frozenset renaming updateFrom->IC,newClass->Jb,addrOf->J5,sizeOf->J6,slot0->JI
open PySem.Builtin.Dict_items renaming ownsTuple->IE
open PySem.Paired renaming length->Jv
open List.cons renaming inj->JB
open PySem.Builtin.Range renaming rangeSize->JE
open PyProof.Rows.IsTup renaming new->JH
open PySem.MeetsSeq renaming list_pop_last->JN
open PySem.AutoListH renaming joined_fits->Kc
open Prod renaming ext->Kh
open PySem.ItemsOf renaming nil->Kq
open PySem.SeqAt.EqAt renaming int_str->K1,str_int->K2
open PySem.Heap.IsSliceOf renaming new->K3
open PySem.W.WShape renaming has->K4
open PySem.Walks renaming list->K7
open PySem.ScopeKind renaming function->KB
open PySem.W.WData renaming int->KO
def Ao:=@decide_eq_true
def Av:=@decide_eq_false
def AN:=@decide_eq_true_eq
def F7:=@decide_eq_false_iff_not
theorem nf{p:Prop}(h:false=true):p:=absurd h EI
def gS:=@List.getElem?_cons_succ.{0}
def gZ:=@List.getElem?_cons_zero.{0}
def lS:=@List.set_cons_succ.{0}
def lZ:=@List.set_cons_zero.{0}
def bF:=@Bool.false_eq_true
def lC:=@List.length_cons.{0}
def lN:=@List.length_nil.{0}
def lA:=@List.length_append.{0}
def mC:=@List.map_cons.{0,0}
def mN:=@List.map_nil.{0,0}
def lM:=@List.length_map.{0,0}
def mG:=@List.mem_of_getElem?.{0}
def bN:=@Bool.false_ne_true
def bA:=@Bool.and_eq_true
noncomputable section
set_option maxRecDepth 100000
namespace L2
open PySem PySem.Spec PyProof.Rows
abbrev Key:=Sum Int Str
def vW:Key->Value->Bool
 | .inl k,v=>Ih k v|.inr x,v=>Ju x v
def aOt(w:AG):Key->Int
 | .inl k=>hashInt k|.inr x=>KF w x
theorem keyIs_shape:∀{k:Key} {v:Value},vW k v=true->(∃i t,k=F8 i/\v=EH i t)\/(∃x t,k=BO x/\v=JC x t)
 | .inl i,v,h=>by obtain⟨t,e⟩:=Value.isInt_shape (k:=i) (v:=v) h;exact .inl ⟨i,t,rfl,e⟩|.inr x,v,h=>by obtain⟨t,e⟩:=Value.isStrOf_shape (x:=x) (v:=v) h;exact .inr ⟨x,t,rfl,e⟩
theorem aBO(x:Str)(t:Tok):vW (.inr x) (.str x t)=true:=by simp[vW,Ju]
theorem aId(a b:Int):decide ((F8 a:Key)=F8 b)=(a==b):=by by_cases e:a=b;subst e;simp;have h:¬ (F8 a:Key)=F8 b:=λq=>e (Sum.inl.inj q);rw[Av h];exact(beq_eq_false_iff_ne.mpr e).symm
theorem aIe(a b:Str):decide ((BO a:Key)=BO b)=decide (a=b):=by by_cases e:a=b;subst e;simp;have h:¬ (BO a:Key)=BO b:=λq=>e (Ii q);rw[Av h,Av e]
theorem aIf(a:Int)(b:Str):decide ((F8 a:Key)=BO b)=false:=Av (λq=>nomatch q)
theorem aIg(a:Str)(b:Int):decide ((BO a:Key)=F8 b)=false:=Av (λq=>nomatch q)
def fU(prog:A3)(w:AG):PySem.KeyKind prog w Key where
 is:=vW
 hash:=aOt w
 inj:=λv a b ha hb=>by
  rcases keyIs_shape ha with⟨i,t,rfl,rfl⟩|⟨x,t,rfl,rfl⟩
  rcases keyIs_shape hb with⟨j,u,rfl,e⟩|⟨y,u,rfl,e⟩
  injection e with e1 _;rw[e1]
  exact nomatch e;rcases keyIs_shape hb with⟨j,u,rfl,e⟩|⟨y,u,rfl,e⟩
  exact nomatch e;injection e with e1 _;rw[e1]
 byValue:=λk v h=>by rcases keyIs_shape h with⟨i,t,rfl,rfl⟩|⟨x,t,rfl,rfl⟩ <;> rfl
 pyHash:=λhv h=>by
  rcases keyIs_shape hv with⟨i,t,rfl,rfl⟩|⟨x,t,rfl,rfl⟩
  exact wpAny_pyHash_int h;exact wpAny_pyHash_str h
 eqBool:=λhu hv h=>by
  rcases keyIs_shape hu with⟨i,t,rfl,rfl⟩|⟨x,t,rfl,rfl⟩
  rcases keyIs_shape hv with⟨j,u,rfl,rfl⟩|⟨y,u,rfl,rfl⟩
  rw[aId] at h;exact HP h;rw[aIf] at h;exact K1 i t y u _ _ _ _ h;rcases keyIs_shape hv with⟨j,u,rfl,rfl⟩|⟨y,u,rfl,rfl⟩
  rw[aIg] at h;exact K2 x t j u _ _ _ _ h;rw[aIe] at h;exact wpAny_eqBool_str h
 «strs»:=λk x t v h=>by
  rcases keyIs_shape h with⟨i,u,rfl,e⟩|⟨y,u,rfl,e⟩
  exact nomatch e;injection e with e1 _
  subst e1;cases v <;> rfl
set_option genInjectivity true in
inductive V where
 | non|bl (b:Bool)|int (i:Int)|str (x:Str)|byt (b:Array UInt8)|flt (b:UInt64)|ref (a:Addr)|ty (n:String)
 deriving DecidableEq
def bJ:V->Value->Prop
 | .non,u=>u=Bj|.bl b,u=>u=CZ b|.int i,u=>∃t,u=EH i t|.str x,u=>∃t,u=JC x t|.byt b,u=>∃t,u=Value.bytes b t|.flt b,u=>∃t,u=Value.float b t|.ref a,u=>u=AB a|.ty n,u=>u=Eg n
abbrev aS:List V->List Value->Prop:=DT bJ
theorem aS.length{xs:List V}{us:List Value}(r:aS xs us):xs.length=us.length:=Jv r
theorem aS.get:∀{xs:List V} {us:List Value} {i:Nat} {x:V},aS xs us->xs[i]? = some x->∃u,us[i]? = some u/\bJ x u
 | _,_,_,_,.nil,e=>by simp at e|_,_,0,_,.cons r _,e=>by simp at e;subst e;exact⟨_,rfl,r⟩|_,_,i+1,x,.cons _ t,e=>by obtain⟨u,B,G⟩:=aS.get (i:=i) (x:=x) t (by simpa using e);exact⟨u,by simpa using B,G⟩
theorem aS.set(r:bJ x u):∀{xs:List V} {us:List Value} (i:Nat),aS xs us->aS (xs.set i x) (us.set i u)
 | _,_,_,.nil=>.nil|_,_,0,.cons _ t=>.cons r t|_,_,i+1,.cons q t=>.cons q (aS.set r i t)
theorem aS.append:∀{xs B:List V} {us ws:List Value},aS xs us->aS B ws->aS (xs++B) (us++ws)
 | _,_,_,_,.nil,s=>s|_,_,_,_,.cons r t,s=>.cons r (aS.append t s)
theorem aS.take:∀{xs:List V} {us:List Value} (n:Nat),aS xs us->aS (xs.take n) (us.take n)
 | _,_,0,_=>.nil|_,_,_+1,.nil=>.nil|_,_,n+1,.cons r t=>.cons r (aS.take n t)
theorem aS.drop:∀{xs:List V} {us:List Value} (n:Nat),aS xs us->aS (xs.drop n) (us.drop n)
 | _,_,0,r=>r|_,_,_+1,.nil=>.nil|_,_,n+1,.cons _ t=>aS.drop n t
def aLc:Option V->Option Value->Prop
 | some v,some u=>bJ v u|none,none=>True|_,_=>False
def KV{κ:Type}:List (κ×V)->List (κ×Value)->Prop:=DT λ(p:κ×V) (q:κ×Value)=>p.1=q.1/\bJ p.2 q.2
def kV:Key->V
 | .inl i=>.int i|.inr x=>.str x
inductive HO where
 | lst (xs:List V)
 | tup (xs:List V)
 | dK (kvs:List (Key×V))|dT (kvs:List (List Key×V))
 | set (S:Int->Bool) (n:Nat)
 | ins (C dx:Addr) (fs:List (Str×V))
 | own (x:Addr)
 | xd (fs:List (Str×V))
 | met (f x:Addr)
 | rng (lo hi:Int)
 | frz (o:Obj) (u:HO)
 | tbl (ps:Array Value)
 | ext (φ:Heap->Prop)
abbrev Hp:=Addr->Option HO
def upd(H:Hp)(a:Addr)(o:HO):Hp:=λb=>if b=a then some o else H b
theorem aR:upd H a o a=some o:=by unfold upd;rw[if_pos rfl]
theorem upd_ne(h:b≠a):upd H a o b=H b:=by unfold upd;rw[if_neg h]
theorem bB{H:Hp}{a b:Addr}{o:HO}(h:H a=some o)(h':H b=none):a≠b:=by intro e;subst e;rw[h] at h';cases h'
section
variable (P:A3) (w:AG)
def dL(H:Hp)(h:Heap)(a:Addr):HO->Prop
 | .lst xs=>xs.length<=sizeLine/\∃(its:List Value) (n:Nat),aS xs its/\h.get? a=some { cls:=.type "list",data:=.seq its.toArray n }|.tup xs=>xs.length<=sizeLine/\∃its:List Value,aS xs its/\IsTup h a its.toArray|.dK kvs=>kvs.length<=sizeLine/\(a==CB)=false/\∃vs,KV kvs vs/\h.DictOf (fU P w) a vs|.dT kvs=>kvs.length<=sizeLine/\(a==CB)=false/\∃xs:List (List Key×Addr×Value),
  DT (λ(p:List Key×V) (q:List Key×Addr×Value)=>p.1=q.1/\H q.2.1=some (.tup (p.1.map kV))/\bJ p.2 q.2.2) kvs xs /\
  ∃o es ep,h.get? a=some o/\o.ExactDict/\o.data=.dict es ep/\es.toList=xs.map (IN (Dw (fU P w)))/\(xs.map (·.1)).Nodup
 | .set S n=>h.SetOf (Da P w) a S n|.ins C dx fs=>H dx=some (.own a)/\fs.length<=1000/\dx≠a/\h.get? a=some (PySem.W.instObj C dx) /\
  ∃mA,h.Ns1 dx mA/\(∀f,aLc (fs.lookup f) (mA f))/\PySem.Within mA (fs.map (·.1))
 | .own _=>∃o,h.get? a=some o|.xd fs=>∃mA,h.Ns1 a mA/\∀f,aLc (fs.lookup f) (mA f)|.rng lo hi=>∃t u v,h.get? a=some { cls:=.type "range",data:=.fields #[.int lo t,.int hi u,.int 1 v] }|.frz o u=>h.get? a=some o/\dL H h a u|.tbl ps=>h.get? a=some { cls:=.none,data:=.fields ps }|.met f x=>h.get? a=some (Fd (.ref f) (.ref x))|.ext φ=>φ h/\(∃o,h.get? a=some o)/\∀h1 h2:Heap,φ h1->(∀o,h1.get? a=some o->h2.get? a=some o)->φ h2
def HOk(H:Hp)(h:Heap):Prop:=∀a o,H a=some o->dL P w H h a o
end
section
variable {P:A3} {w:AG} {H H':Hp} {h h':Heap} {a:Addr} {o:HO}
theorem dL.lt(x:dL P w H h a o):a<h.objs.size:=by
 cases o with
 | lst xs=>obtain⟨_,_,_,_,e⟩:=x;exact Am e|tup xs=>obtain⟨_,_,_,p⟩:=x;exact p.lt|dK kvs=>obtain⟨_,_,_,_,o,_,_,e,_⟩:=x;exact Am e|dT kvs=>obtain⟨_,_,_,_,o,_,_,e,_⟩:=x;exact Am e|set S n=>obtain⟨o,_,_,_,e,_⟩:=x;exact Am e|ins C dx fs=>obtain⟨_,_,_,e,_⟩:=x;exact Am e|own y=>obtain⟨_,e⟩:=x;exact Am e|xd fs=>obtain⟨_,⟨_,_,_,e,_⟩,_⟩:=x;exact Am e|rng lo hi=>obtain⟨_,_,_,e⟩:=x;exact Am e|frz B u=>obtain⟨e,_⟩:=x;exact Am e|tbl ps=>exact Am (show h.get? a=some _ from x)|met f y=>exact Am (show h.get? a=some _ from x)|ext φ=>obtain⟨_,⟨_,e⟩,_⟩:=x;exact Am e
theorem Paired.mapP{α B:Type}{F G:α->B->Prop}:∀{l₁:List α} {l₂:List B},DT F l₁ l₂->(∀a b,F a b->G a b)->DT G l₁ l₂
 | _,_,.nil,_=>.nil|_,_,.cons r t,f=>.cons (f _ _ r) (Paired.mapP t f)
theorem dL.stay(x:dL P w H h a o)(k:∀b u,(b=a\/H b=some (.own a))->h.get? b=some u->h'.get? b=some u)
 (L:∀b,H b=some (.own a)->H' b=some (.own a)) (M:∀b xs,H b=some (.tup xs)->H' b=some (.tup xs)):dL P w H' h' a o:=by
 induction o with
 | lst xs=>obtain⟨z,its,n,r,e⟩:=x;exact⟨z,its,n,r,k _ _ (.inl rfl) e⟩|tup xs=>obtain⟨z,its,r,B,e,c⟩:=x;exact⟨z,its,r,B,k _ _ (.inl rfl) e,c⟩|dK kvs=>obtain⟨z,y,vs,r,B,es,ep,e,c⟩:=x;exact⟨z,y,vs,r,B,es,ep,k _ _ (.inl rfl) e,c⟩|dT kvs=>obtain⟨z,y,xs,r,B,es,ep,e,c⟩:=x;exact⟨z,y,xs,Paired.mapP r λp q z=>⟨z.1,M _ _ z.2.1,z.2.2⟩,B,es,ep,k _ _ (.inl rfl) e,c⟩|set S n=>obtain⟨B,es,ep,t,e,c⟩:=x;exact⟨B,es,ep,t,k _ _ (.inl rfl) e,c⟩|ins C dx fs=>obtain⟨d,z,ne,e,G,⟨od,es,ep,I,c⟩,r⟩:=x;exact⟨L _ d,z,ne,k _ _ (.inl rfl) e,G,⟨od,es,ep,k _ _ (.inr d) I,c⟩,r⟩|own y=>obtain⟨B,e⟩:=x;exact⟨B,k _ _ (.inl rfl) e⟩|xd fs=>obtain⟨G,⟨od,es,ep,e,c⟩,r⟩:=x;exact⟨G,⟨od,es,ep,k _ _ (.inl rfl) e,c⟩,r⟩|rng lo hi=>obtain⟨t,u,v,e⟩:=x;exact⟨t,u,v,k _ _ (.inl rfl) e⟩|frz B u U=>obtain⟨e,q⟩:=x;exact⟨k _ _ (.inl rfl) e,U q⟩|tbl ps=>have e:h.get? a=some { cls:=.none,data:=.fields ps }:=x;show h'.get? a=some { cls:=.none,data:=.fields ps };exact k a _ (.inl rfl) e|met f y=>have e:h.get? a=some (Fd (.ref f) (.ref y)):=x;show h'.get? a=some (Fd (.ref f) (.ref y));exact k a _ (.inl rfl) e|ext φ=>obtain⟨p,⟨o,e⟩,st⟩:=x;exact⟨st _ _ p λo q=>k _ _ (.inl rfl) q,⟨o,k _ _ (.inl rfl) e⟩,st⟩
theorem HOk.lt(x:HOk P w H h)(e:H a=some o):a<h.objs.size:=(x a o e).lt
theorem HOk.fresh(x:HOk P w H h)(e:h.objs.size<=a):H a=none:=by
 cases q:H a with
 | none=>rfl|some u=>exact absurd (A7 (x.lt q) e) (AC _)
theorem HOk.kept(x:HOk P w H h)(k:∀b u,h.get? b=some u->h'.get? b=some u):HOk P w H h':=λa o e=>(x a o e).stay (λb u _ q=>k b u q) (λ_ q=>q) λ_ _ q=>q
theorem HOk.laid(x:HOk P w H h)(k:∀b u,h.get? b=some u->h'.get? b=some u)(I:h.objs.size<=a)(new:dL P w (upd H a o) h' a o):HOk P w (upd H a o) h':=λb u e=>by have G:=x.fresh I;by_cases B:b=a;subst B;rw[aR] at e;cases e;exact new;rw[upd_ne B] at e;exact(x b u e).stay (λc v _ q=>k c v q) (λc q=>by rw[upd_ne (bB q G)];exact q) λc xs q=>by rw[upd_ne (bB q G)];exact q
end
def Rd(H:Hp)(a:Addr)(u:HO):Prop:=H a=some u\/∃o,H a=some (.frz o u)
theorem Rd.ok(r:Rd H a u)(x:HOk P w H h):dL P w H h a u:=by
 rcases r with r|⟨o,r⟩
 exact x a u r;obtain⟨_,q⟩:=x a _ r;exact q
def Mut:Option HO->Prop
 | some (.lst _)=>True|some (.dK _)=>True|some (.dT _)=>True|some (.set _ _)=>True|some (.ins _ _ _)=>True|some (.ext _)=>True|_=>False
section
variable {P:A3} {w:AG} {H:Hp} {h h':Heap} {x e:Addr} {o':HO}
theorem HOk.write(ok:HOk P w H h)(U:Mut (H x))(he:e=x\/H e=some (.own x))(k:∀b u,b≠e->h.get? b=some u->h'.get? b=some u)(W:∃u,h'.get? e=some u)
 (new:dL P w (upd H x o') h' x o'):HOk P w (upd H x o') h':=λb u q=>by
 have G:∀c y,H c=some (.own y)->c≠x:=λc y r z=>by subst z;rw[r] at U;exact U
 have I:∀c xs,H c=some (.tup xs)->c≠x:=λc xs r z=>by subst z;rw[r] at U;exact U
 by_cases L:b=x;subst L;rw[aR] at q;cases q;exact new;rw[upd_ne L] at q;by_cases B:b=e;have q':H b=some (.own x):=by rcases he with z|z;exact absurd (B.trans z) L;rw[B];exact z
 rw[q] at q';cases q';obtain⟨v,hv⟩:=W;exact⟨v,by rw[B];exact hv⟩;refine(ok b u q).stay (λc v M r=>k c v ?_ r) (λc r=>by rw[upd_ne (G c b r)];exact r) λc xs r=>by rw[upd_ne (I c xs r)];exact r
 rcases M with rfl|M;exact B;rintro rfl;rcases he with z|z;exact G c b M z;rw[M] at z;cases z;exact L rfl
end
structure Un (fs ex:List Addr) (H H':Hp) (h h':Heap):Prop where
 keep:∀b o,h.get? b=some o->H b=none->b∉fs->b∉ex->h'.get? b=some o
 slot:∀b o,h.get? b=some o->H b=none->b∈fs->b∉ex->∃sl,h'.get? b=some { o with slots:=sl }
 free:∀b o,h.get? b=some o->H b=none->b∉ex->H' b=none
 there:∀b o,h.get? b=some o->b∉ex->∃o',h'.get? b=some o'
 tups:∀b xs,H b=some (.tup xs)->H' b=some (.tup xs)
 frzs:∀b o u,H b=some (.frz o u)->H' b=some (.frz o u)
 tbls:∀b ps,H b=some (.tbl ps)->∃more,H' b=some (.tbl (ps++more))
section
variable {fs fs' ex ex':List Addr} {H H1 H2:Hp} {h h1 h2 h':Heap} {a x e:Addr} {o:HO}
theorem Un.any(u:Un fs ex H H1 h h1)(q:h.get? b=some ob)(n:H b=none)(G:b∉ex):∃sl,h1.get? b=some { ob with slots:=sl }:=by by_cases B:b∈fs;exact u.slot b ob q n B G;exact⟨ob.slots,u.keep b ob q n B G⟩
theorem Un.kept(k:∀b u,h.get? b=some u->h'.get? b=some u):Un fs ex H H h h':=
 ⟨λb B q _ _ _=>k b B q,λb B q _ _ _=>⟨B.slots,k b B q⟩,λ_ _ _ n _=>n,λb B q _=>⟨B,k b B q⟩,λ_ _ q=>q,λ_ _ _ q=>q,λ_ ps q=>⟨#[],by rw[q];simp⟩⟩
theorem Un.refl:Un fs ex H H h h:=Un.kept λ_ _ q=>q
theorem Un.laid(k:∀b u,h.get? b=some u->h'.get? b=some u)(G:h.objs.size<=a)(B:H a=none):Un fs ex H (upd H a o) h h' where
 keep:=λb u q _ _ _=>k b u q
 slot:=λb u q _ _ _=>⟨u.slots,k b u q⟩
 free:=λb u q n _=>by rw[upd_ne (Aw (A7 (Am q) G))];exact n
 there:=λb u q _=>⟨u,k b u q⟩
 tups:=λb xs q=>by rw[upd_ne (bB q B)];exact q
 frzs:=λb u xs q=>by rw[upd_ne (bB q B)];exact q
 tbls:=λb ps q=>⟨#[],by rw[upd_ne (bB q B),q];simp⟩
theorem Un.write(G:Mut (H x))(W:e=x\/H e=some (.own x))(k:∀b u,b≠e->h.get? b=some u->h'.get? b=some u)(I:∃u,h'.get? e=some u):Un fs ex H (upd H x o) h h':=by
 have U:∀b,H b=none->b≠x:=λb n z=>by subst z;rw[n] at G;exact G
 have M:∀b,H b=none->b≠e:=λb n z=>by subst z;rcases W with r|r;exact U b n r;rw[n] at r;cases r
 have L:∀b u,H b=some u->¬ Mut (some u)->b≠x:=λb u q nm z=>by subst z;rw[q] at G;exact nm G
 refine⟨λb u q n _ _=>k b u (M b n) q,λb u q n _ _=>⟨u.slots,k b u (M b n) q⟩,λb u q n _=>by rw[upd_ne (U b n)];exact n,λb u q _=>?_,
  λb xs q=>by rw[upd_ne (L b _ q λz=>z)];exact q,λb u xs q=>by rw[upd_ne (L b _ q λz=>z)];exact q,λb ps q=>⟨#[],by rw[upd_ne (L b _ q λz=>z),q];simp⟩⟩
 by_cases B:b=e;subst B;exact I;exact⟨u,k b u B q⟩
end
def trk(h:Heap)(H:Hp):List Addr:=(A9 h.objs.size).filter λa=>(H a).isSome
def tK(h:Heap)(H:Hp):Heap:=PySem.W.hideAll h (trk h H)
theorem aBP(h:Heap)(H:Hp):(tK h H).objs.size=h.objs.size:=PySem.W.hideAll_size _ _
theorem aCU{h:Heap}(e:h.get? b=some o)(n:H b=none):(tK h H).get? b=some o:=
 PySem.W.hideAll_get _ e λB=>by have q:(H b).isSome=true:=(Df.mp B).2;rw[n] at q;simp at q
theorem aFx{h:Heap}(e:(tK h H).get? b=some o):h.get? b=some o/\H b=none:=by
 have B:h.get? b=some o:=PySem.W.of_hideAll (trk h H) e;refine⟨B,?_⟩;cases q:H b with
 | none=>rfl|some x=>have G:b∈trk h H:=Df.mpr ⟨Bn.mpr (Am B),by simp[q]⟩;have z:(tK h H).get? b=none:=PySem.W.hideAll_none (trk h H) G;rw[z] at e;cases e
def aFy(g h:Heap)(L:Addr):List (Addr×Obj):=(A9 h.objs.size).filterMap λa=>if a=L\/(g.get? a).isSome=true then none else (h.get? a).map λo=>(a,o)
def rest(g h:Heap)(L d:Addr):List (Addr×Obj):=(aFy g h L).filter λp=>decide (p.1≠d)
structure Mod (K:Aq) (mg:Str->Option Value) (base:Heap):Prop where
 kin:K.In base
 glob:base.Ns Bu mg
 blt:∃mb,base.Ns GV mb/\∀x:Str,x ≠ "__name__" -> mb x=Co x
 nolimit:base.NoLimit
set_option genInjectivity true in
structure Cx where
 prog:A3
 w:AG
 K:Aq
 mg:Str->Option Value
 base:Heap
 A:Bh
 N:List Str
 s₀:Ad
 H₀:Hp
 env:Ke
 outer:List Ke
 stack:List Ke
 ex:List Addr
 fn:Str->Bool
 calm:Bool
 pn:List (Addr×Obj)
 xe:Value->Ad->Prop
def frs(l:List Ke):List Addr:=l.filterMap (·.frame)
abbrev Cx.fs(X:Cx):List Addr:=frs X.outer
def Vis(sc:Dp)(x:Str):Prop:=sc.names.lookup x=some .local\/sc.names.lookup x=some .cell\/sc.names.lookup x=some .free
def Loc(sc:Dp)(x:Str):Prop:=sc.names.lookup x=some .local\/sc.names.lookup x=some .cell
def aOu(env:Ke)(h:Heap)(m:Str->Option Value)(x:Str)(u:Value):Prop:=
 (env.kindOf x=some .local/\m x=some u)\/((env.kindOf x=some .cell\/env.kindOf x=some .free)/\∃c,env.cells.lookup x=some c/\h.IsCell c (some u))
structure Cx.Ok (X:Cx):Prop where
 mod:Mod X.K X.mg X.base
 kind:X.env.scope.kind=.function
 glob:X.env.globals=Bu
 blt:X.env.builtins=GV
 above:X.s₀.heap.objs.size<=X.env.locals
 inj:∀x y c,X.env.cells.lookup x=some c->X.env.cells.lookup y=some c->x=y
 has:∀x,(X.env.kindOf x=some .cell\/X.env.kindOf x=some .free)->∃c,X.env.cells.lookup x=some c
 cab:∀x c,X.fn x=true->X.env.cells.lookup x=some c->X.s₀.heap.objs.size<=c
 hd:X.calm=true->X.A.handled=none
 frames:X.A.frames=some X.stack
 stk:X.stack=X.outer\/(X.stack=X.env::X.outer/\X.env.frame=some X.env.locals)
 exf:∀b∈X.ex,b≠X.env.locals/\∀x c,X.env.cells.lookup x=some c->c≠b
 bs:∀b o,X.base.get? b=some o->X.s₀.heap.get? b=some o/\X.H₀ b=none
 bsz:X.base.objs.size<=X.s₀.heap.objs.size
 noex:∀b o,X.base.get? b=some o->b∉X.ex
 exfs:∀b∈X.ex,b∉X.fs
 funs:X.s₀.heap.FunFrames X.base X.outer
 frf:∀b∈X.fs,X.H₀ b=none
structure Inv (X:Cx) (pins:List (Addr×Obj)) (Z:List (Option V)) (H:Hp) (s:Ad):Prop where
 ok:X.Ok
 os:s.os=X.s₀.os
 bare:Fe s.gens
 base:Un X.fs X.ex X.H₀ H X.s₀.heap s.heap
 loc:∃m,s.heap.Ns X.env.locals m/\∀(i:Nat) (x:Str) (v:V),X.N[i]? = some x->Z[i]? = some (some v)->Vis X.env.scope x->∃u,bJ v u/\aOu X.env s.heap m x u
 cell:∀x c,X.env.cells.lookup x=some c->∃v,s.heap.IsCell c v
 free:H X.env.locals=none
 freeC:∀x c,X.env.cells.lookup x=some c->H c=none
 pin:∀p∈X.pn++pins,s.heap.get? p.1=some p.2/\H p.1=none/\p.1≠X.env.locals/\p.1∉X.fs/\∀v,p.2.data≠.cell v
 hok:HOk X.prog X.w H s.heap
 len:Z.length=X.N.length
section
variable {X:Cx} {pins:List (Addr×Obj)} {Z:List (Option V)} {H H':Hp} {s:Ad} {h':Heap}
theorem Cx.Ok.nofr(ok:X.Ok)(e:X.base.get? b=some o):b∉X.fs:=λB=>by have:=(ok.funs.mem B).1;rw[e] at this;cases this
theorem Inv.bs(I:Inv X pins Z H s):∀b o,X.base.get? b=some o->s.heap.get? b=some o/\H b=none:=λb o e=>⟨I.base.keep b o (I.ok.bs b o e).1 (I.ok.bs b o e).2 (I.ok.nofr e) (I.ok.noex b o e),I.base.free b o (I.ok.bs b o e).1 (I.ok.bs b o e).2 (I.ok.noex b o e)⟩
theorem Inv.bk(I:Inv X pins Z H s):∀b o,X.base.get? b=some o->s.heap.get? b=some o:=λb o e=>(I.bs b o e).1
theorem Inv.mod(I:Inv X pins Z H s):Mod X.K X.mg X.base:=I.ok.mod
theorem Inv.kIn(I:Inv X pins Z H s):X.K.In s.heap:=I.ok.mod.kin.keeps I.bk
theorem Inv.lt(I:Inv X pins Z H s):X.env.locals<s.heap.objs.size:=let ⟨_,hn,_⟩:=I.loc;hn.lt
theorem Inv.sz(I:Inv X pins Z H s):X.s₀.heap.objs.size<=s.heap.objs.size:=AI I.ok.above (Dy I.lt)
theorem Inv.nofs(I:Inv X pins Z H s)(h:s.heap.objs.size<=a):a∉X.fs:=λB=>by obtain⟨_,o,G,_⟩:=I.ok.funs.mem B;exact absurd (A7 (Am G) (AI I.sz h)) (AC _)
theorem Inv.cne(I:Inv X pins Z H s):∀x c,X.env.cells.lookup x=some c->c≠X.env.locals:=λx c e z=>by obtain⟨v,o,L,hd⟩:=I.cell x c e;obtain⟨m,⟨o',es,ep,G,B,_⟩,_⟩:=I.loc;rw[z,G] at L;cases L;rw[B] at hd;cases hd
theorem Inv.funs(I:Inv X pins Z H s):s.heap.FunFrames X.base X.outer:=by
 have all:∀(l:List Ke),(∀b∈frs l,b∈X.fs)->X.s₀.heap.FunFrames X.base l->s.heap.FunFrames X.base l:=by
  intro l
  induction l with
  | nil=>intro _ _;trivial|cons env r ih=>intro hs W;obtain⟨U,⟨L,o,M,hn,ho,hd⟩,hr⟩:=W;have B:L∈X.fs:=hs L (by unfold frs;rw[Cj,M];exact Ai);obtain⟨sl,e⟩:=I.base.slot L o ho (I.ok.frf L B) B λz=>I.ok.exfs L z B;exact⟨U,⟨L,_,M,hn,e,hd⟩,ih (λb G=>hs b (by unfold frs;rw[Cj,M];exact Ag _ G)) hr⟩
 exact all X.outer (λ_ G=>G) I.ok.funs
theorem Inv.stack(I:Inv X pins Z H s):s.heap.FunFrames X.base X.stack:=by
 rcases I.ok.stk with e|⟨e,B⟩
 rw[e];exact I.funs;rw[e];obtain⟨m,G,_⟩:=I.loc;refine .cons (by rw[I.ok.kind];decide) B G ?_ I.funs;exact Gf (AI I.ok.bsz I.ok.above)
theorem Inv.stkSub(I:Inv X pins Z H s):∀b∈frs X.stack,b∈X.env.locals::X.fs:=λb B=>by
 rcases I.ok.stk with e|⟨e,G⟩
 rw[e] at B;exact Ag _ B;rw[e] at B;unfold frs at B;rw[Cj,G] at B;exact B
theorem Inv.stkFree(I:Inv X pins Z H s):∀b∈frs X.stack,H b=none:=λb B=>by rcases As.mp (I.stkSub b B) with e|B;rw[e];exact I.free;obtain⟨_,o,G,_⟩:=I.ok.funs.mem B;exact I.base.free b o G (I.ok.frf b B) λz=>I.ok.exfs b z B
theorem Inv.step{g':Array Gg}{t':Nat}{d':Drawn}{ch:List Addr}(I:Inv X pins Z H s)
 (L:∀b∈ch,(b∈X.ex\/X.s₀.heap.objs.size<=b)/\b≠X.env.locals/\(∀x c,X.env.cells.lookup x=some c->c≠b)/\∀p∈X.pn++pins,p.1≠b)
 (keep:∀b o,b≠X.env.locals->b∉X.fs->b∉ch->s.heap.get? b=some o->H b=none->h'.get? b=some o)
 (slot:∀b o,b≠X.env.locals->b∈X.fs->b∉ch->s.heap.get? b=some o->H b=none->∃sl,h'.get? b=some { o with slots:=sl }) (free:∀b o,b∉ch->s.heap.get? b=some o->H b=none->H' b=none)
 (there:∀b o,b∉ch->s.heap.get? b=some o->∃o',h'.get? b=some o')
 (tups:∀b xs,H b=some (.tup xs)->H' b=some (.tup xs)) (frzs:∀b o u,H b=some (.frz o u)->H' b=some (.frz o u)) (tbls:∀b ps,H b=some (.tbl ps)->∃more,H' b=some (.tbl (ps++more)))
 (ns:∀m,s.heap.Ns X.env.locals m->h'.Ns X.env.locals m) (hok:HOk X.prog X.w H' h') (hg:Fe g') :
 Inv X pins Z H' { s with heap:=h',gens:=g',drawn:=d',toks:=t' }:=by
 have q0:∀b o,X.s₀.heap.get? b=some o->b≠X.env.locals:=λb o e=>Aw (A7 (Am e) I.ok.above);have W:∀b o,X.s₀.heap.get? b=some o->b∉X.ex->b∉ch:=λb o e B hb=>by rcases(L b hb).1 with z|z;exact B z;exact absurd (A7 (Am e) z) (AC _)
 have G:∀x c,X.env.cells.lookup x=some c->∀v,s.heap.IsCell c v->h'.IsCell c v:=λx c e v ⟨o,ho,hd⟩=>by have M:c∉ch:=λz=>(L c z).2.2.1 x c e rfl;by_cases hc:c∈X.fs;obtain⟨sl,q⟩:=slot c o (I.cne x c e) hc M ho (I.freeC x c e);exact⟨_,q,hd⟩;exact⟨o,keep c o (I.cne x c e) hc M ho (I.freeC x c e),hd⟩
 refine⟨I.ok,I.os,hg,⟨λb o e n hb B=>?_,λb o e n hb B=>?_,λb o e n B=>?_,λb o e B=>?_,λb xs e=>tups b xs (I.base.tups b xs e),λb o xs e=>frzs b o xs (I.base.frzs b o xs e),λb ps e=>?_⟩,?_,λx c e=>?_,?_,λx c e=>?_,λp hp=>?_,hok,I.len⟩;exact keep b o (q0 b o e) hb (W b o e B) (I.base.keep b o e n hb B) (I.base.free b o e n B);obtain⟨sl,U⟩:=I.base.slot b o e n hb B;obtain⟨q1,e2⟩:=slot b _ (q0 b o e) hb (W b o e B) U (I.base.free b o e n B);exact⟨q1,e2⟩;obtain⟨o',U⟩:=I.base.there b o e B;exact free b o' (W b o e B) U (I.base.free b o e n B);obtain⟨o',U⟩:=I.base.there b o e B;exact there b o' (W b o e B) U;obtain⟨m1,U⟩:=I.base.tbls b ps e;obtain⟨m2,e2⟩:=tbls b _ U;exact⟨m1++m2,by rw[e2,Array.append_assoc]⟩;obtain⟨m,hn,hl⟩:=I.loc;refine⟨m,ns m hn,λi x v U e2 e3=>?_⟩;obtain⟨u,r,l⟩:=hl i x v U e2 e3;refine⟨u,r,?_⟩;rcases l with l|⟨k,c,e,z⟩
 exact .inl l;exact .inr ⟨k,c,e,G x c e _ z⟩;obtain⟨v,z⟩:=I.cell x c e;exact⟨v,G x c e v z⟩;obtain⟨m,⟨o,_,_,ho,_⟩,_⟩:=I.loc;exact free _ o (λz=>(L _ z).2.1 rfl) ho I.free;obtain⟨v,o,ho,hd⟩:=I.cell x c e;exact free c o (λz=>(L c z).2.2.1 x c e rfl) ho (I.freeC x c e);obtain⟨e,n,ne,nf,d⟩:=I.pin p hp;have M:p.1∉ch:=λz=>(L p.1 z).2.2.2 p hp rfl;exact⟨keep p.1 p.2 ne nf M e n,free p.1 p.2 M e n,ne,nf,d⟩
theorem Inv.un{t':Nat}(I:Inv X pins Z H s)(u:Un X.fs [] H H' s.heap h')(hok:HOk X.prog X.w H' h'):Inv X pins Z H' { s with heap:=h',toks:=t' }:=by
 obtain⟨m,⟨o,es,ep,U,r⟩,_⟩:=id I.loc;obtain⟨sl,W⟩:=u.any U I.free (by simp);exact I.step (g':=s.gens) (d':=s.drawn) (ch:=[]) (λ_ z=>nomatch z) (λb o _ M _ e n=>u.keep b o e n M (by simp)) (λb o _ M _ e n=>u.slot b o e n M (by simp)) (λb o _ e n=>u.free b o e n (by simp)) (λb o _ e=>u.there b o e (by simp)) u.tups u.frzs u.tbls (λm' hm=>by
  obtain⟨o',L,G,B,r'⟩:=hm;rw[U] at B;cases B;exact⟨_,L,G,W,r'⟩) hok I.bare
theorem Inv.call{g':Array Gg}{t':Nat}{d':Drawn}{ch:List Addr}(I:Inv X pins Z H s)(u:Un (frs X.stack) ch H H' s.heap h')(hok:HOk X.prog X.w H' h')(hg:Fe g')
 (G:∀b∈ch,(b∈X.ex\/X.s₀.heap.objs.size<=b)/\b≠X.env.locals/\(∀x c,X.env.cells.lookup x=some c->c≠b)/\∀p∈X.pn++pins,p.1≠b) :
 Inv X pins Z H' { s with heap:=h',gens:=g',drawn:=d',toks:=t' }:=by
 obtain⟨m,⟨o,es,ep,ho,r⟩,_⟩:=id I.loc;obtain⟨sl,W⟩:=u.any ho I.free λz=>(G _ z).2.1 rfl;exact I.step (ch:=ch) G (λb o W hb B e n=>u.keep b o e n (λz=>(As.mp (I.stkSub b z)).elim W hb) B) (λb o _ _ B e n=>u.any e n B) (λb o B e n=>u.free b o e n B) (λb o B e=>u.there b o e B) u.tups u.frzs u.tbls (λm' hm=>by
  obtain⟨o',U,M,L,r'⟩:=hm;rw[ho] at L;cases L;exact⟨_,U,M,W,r'⟩) hok hg
theorem Inv.turned{t':Nat}{it:Addr}(I:Inv X pins Z H s)(k:∀b o,b≠it->s.heap.get? b=some o->h'.get? b=some o)(hn:H it=none)(L:it≠X.env.locals)
 (M:it∈X.ex\/X.s₀.heap.objs.size<=it) (U:∀x c,X.env.cells.lookup x=some c->c≠it) (W:∀p∈X.pn++pins,p.1≠it):Inv X pins Z H { s with heap:=h',toks:=t' }:=by
 have G:∀b u,H b=some u->b≠it:=λb u e z=>by rw[z,hn] at e;cases e
 refine I.step (g':=s.gens) (d':=s.drawn) (ch:=[it]) (λb hb=>?_) (λb o _ _ B e _=>k b o (λz=>B (by simp[z])) e) (λb o _ _ B e _=>⟨o.slots,k b o (λz=>B (by simp[z])) e⟩) (λ_ _ _ _ n=>n)
  (λb o B e=>⟨o,k b o (λz=>B (by simp[z])) e⟩) (λ_ _ e=>e) (λ_ _ _ e=>e) (λb ps e=>⟨#[],by rw[e];simp⟩) (λm hm=>?_) (λb u e=>?_) I.bare
 have e:b=it:=by simpa using hb
 subst e;exact⟨M,L,U,W⟩;obtain⟨o,es,ep,ho,r⟩:=hm;exact⟨o,es,ep,k _ o (DI L) ho,r⟩;refine(I.hok b u e).stay (λc v B q=>k c v ?_ q) (λ_ q=>q) λ_ _ q=>q;rcases B with z|z;rw[z];exact G b u e;exact G c _ z
theorem Inv.tok(I:Inv X pins Z H s)(t:Nat):Inv X pins Z H { s with toks:=t }:=I.un (h':=s.heap) (t':=t) Un.refl I.hok
theorem Inv.kept{t':Nat}(I:Inv X pins Z H s)(k:∀b u,s.heap.get? b=some u->h'.get? b=some u):Inv X pins Z H { s with heap:=h',toks:=t' }:=I.un (Un.kept k) (I.hok.kept k)
theorem Inv.laid{t':Nat}(I:Inv X pins Z H s)(k:∀b u,s.heap.get? b=some u->h'.get? b=some u)(B:s.heap.objs.size<=a)(new:dL X.prog X.w (upd H a o) h' a o) :
 Inv X pins Z (upd H a o) { s with heap:=h',toks:=t' }:=I.un (Un.laid k B (I.hok.fresh B)) (I.hok.laid k B new)
theorem Inv.write{t':Nat}(I:Inv X pins Z H s)(L:Mut (H x))(G:e=x\/H e=some (.own x))(k:∀b u,b≠e->s.heap.get? b=some u->h'.get? b=some u)(B:∃u,h'.get? e=some u)
 (new:dL X.prog X.w (upd H x o) h' x o):Inv X pins Z (upd H x o) { s with heap:=h',toks:=t' }:=I.un (Un.write L G k B) (I.hok.write L G k B new)
theorem Inv.pins_of(I:Inv X pins Z H s)(h:∀p∈pins',s.heap.get? p.1=some p.2/\H p.1=none/\p.1≠X.env.locals/\p.1∉X.fs/\∀v,p.2.data≠.cell v):Inv X pins' Z H s:=
 ⟨I.ok,I.os,I.bare,I.base,I.loc,I.cell,I.free,I.freeC,λp B=>(AY.mp B).elim (λz=>I.pin p (AE _ z)) (h p),I.hok,I.len⟩
theorem vX{N:List Str}(I:N.Nodup){i j:Nat}{x:Str}(a:N[i]? = some x)(b:N[j]? = some x):i=j:=by obtain⟨L,B⟩:=Au.mp a;obtain⟨M,G⟩:=Au.mp b;exact(List.getElem_inj I).mp (B.trans G.symm)
theorem rJ{M:Model}{A:Bh}{E:Value->Ad->Prop}{i:Nat}{x:Str}{v:V}{u:Value}{Q:Unit->Ad->Prop}(I:Inv X pins Z H s)(hN:X.N.Nodup)(hi:X.N[i]? = some x)(U:Loc X.env.scope x)(r:bJ v u)
 (h:∀s',Inv X pins (Z.set i (some v)) H s'->(∃a,B5 a s.heap s'.heap/\(a=X.env.locals\/X.env.cells.lookup x=some a))->Q () s') (hf:X.fn x=true\/X.env.scope.names.lookup x=some .local:=by first|exact .inl rfl|exact .inr rfl|assumption):wpAny M A (storeName X.env x u) Q E s:=by
 obtain⟨m,hn,hl⟩:=id I.loc;have q3:(X.env.scope.kind==.class||(X.env.scope.kind==.module&&X.env.locals != X.env.globals))=false:=by rw[I.ok.kind];rfl
 have q4:i<Z.length:=by rw[I.len];exact(Au.mp hi).1
 have cne:=I.cne;have G:∀{a:Addr} {h':Heap},(∃o,s.heap.get? a=some o/\H a=none)->B5 a s.heap h'->HOk X.prog X.w H h':=λ{a h'} ha hs b ob e=>by obtain⟨_,_,W⟩:=ha;refine(I.hok b ob e).stay (λc w' L q=>(hs.2 c ?_).trans q) (λ_ q=>q) λ_ _ q=>q;rintro rfl;rcases L with rfl|L;rw[W] at e;cases e;rw[W] at L;cases L
 rcases U with hk|hk;refine wpAny_storeName_local hk hn (λh' q7 hs=>?_) q3;obtain⟨oL,_,_,q8,_⟩:=id hn;refine h _ ⟨I.ok,I.os,I.bare,⟨λb o e n hb U=>?_,λb o e n hb U=>?_,I.base.free,λb o e U=>?_,I.base.tups,I.base.frzs,I.base.tbls⟩,⟨_,q7,λj y v' B e2 e3=>?_⟩,λy c e=>?_,I.free,I.freeC,λp hp=>?_,G ⟨oL,q8,I.free⟩ hs,by simpa using I.len⟩ ⟨_,hs,.inl rfl⟩;exact(hs.2 b (Aw (A7 (Am e) I.ok.above))).trans (I.base.keep b o e n hb U);obtain⟨sl,B⟩:=I.base.slot b o e n hb U;exact⟨sl,(hs.2 b (Aw (A7 (Am e) I.ok.above))).trans B⟩;obtain⟨o',B⟩:=I.base.there b o e U;exact⟨o',(hs.2 b (Aw (A7 (Am e) I.ok.above))).trans B⟩;by_cases hj:j=i;subst hj;rw[hi] at B;cases B;rw[Ay q4] at e2;cases e2;exact⟨u,r,.inl ⟨hk,by simp⟩⟩;rw[Ah (DI hj)] at e2;obtain⟨u',r',q⟩:=hl j y v' B e2 e3;refine⟨u',r',?_⟩;rcases q with⟨k,e⟩|⟨k,c,e,z⟩
 refine .inl ⟨k,?_⟩;have:y≠x:=λe=>hj (vX hN B (e▸hi));simp[this,e];exact .inr ⟨k,c,e,z.sameBut hs (cne y c e)⟩;obtain⟨w',z⟩:=I.cell y c e;exact⟨w',z.sameBut hs (cne y c e)⟩;obtain⟨e,n,ne,nf,d⟩:=I.pin p hp;exact⟨(hs.2 p.1 ne).trans e,n,ne,nf,d⟩;have q0:X.fn x=true:=by rcases hf with z|z;exact z;rw[z] at hk;cases hk
 obtain⟨c,L⟩:=I.ok.has x (.inl hk);obtain⟨w',z⟩:=I.cell x c L;refine wpAny_storeName_cell I.ok.kind hk L z (λh' q1 hs=>?_);obtain⟨oc,q5,q6⟩:=id z;refine h { s with heap:=h' } ⟨I.ok,I.os,I.bare,⟨λb o e n hb U=>?_,λb o e n hb U=>?_,I.base.free,λb o e U=>?_,I.base.tups,I.base.frzs,I.base.tbls⟩,⟨m,hn.sameBut hs (DI (cne x c L)),λj y v' B e2 e3=>?_⟩,λy c' e=>?_,I.free,I.freeC,λp hp=>?_,G ⟨oc,q5,I.freeC x c L⟩ hs,by simpa using I.len⟩ ⟨c,hs,.inr L⟩;exact(hs.2 b (Aw (A7 (Am e) (I.ok.cab x c q0 L)))).trans (I.base.keep b o e n hb U);obtain⟨sl,B⟩:=I.base.slot b o e n hb U;exact⟨sl,(hs.2 b (Aw (A7 (Am e) (I.ok.cab x c q0 L)))).trans B⟩;obtain⟨o',B⟩:=I.base.there b o e U;exact⟨o',(hs.2 b (Aw (A7 (Am e) (I.ok.cab x c q0 L)))).trans B⟩;by_cases hj:j=i;subst hj;rw[hi] at B;cases B;rw[Ay q4] at e2;cases e2;exact⟨u,r,.inr ⟨.inl hk,c,L,q1⟩⟩;rw[Ah (DI hj)] at e2;obtain⟨u',r',q⟩:=hl j y v' B e2 e3;refine⟨u',r',?_⟩;rcases q with q|⟨k,c',e,z'⟩
 exact .inl q;refine .inr ⟨k,c',e,z'.sameBut hs ?_⟩;rintro rfl;exact hj (vX hN B (I.ok.inj _ _ _ e L▸hi));by_cases q2:c'=c;subst q2;exact⟨_,q1⟩;obtain⟨w2,z2⟩:=I.cell y c' e;exact⟨w2,z2.sameBut hs q2⟩;obtain⟨e,n,ne,nf,d⟩:=I.pin p hp;refine⟨(hs.2 p.1 ?_).trans e,n,ne,nf,d⟩;intro q;rw[q,q5] at e;have q':oc=p.2:=An e;exact d w' (by rw[<-q'];exact q6)
theorem vY{E:Value->Ad->Prop}{Q:Unit->Ad->Prop}(I:Inv X pins Z H s)(L:X.N.Nodup)(hi:X.N[i]? = some x)(W:Loc X.env.scope x)(r:bJ v u)
 (h:∀B,Inv X pins (Z.set i (some v)) H B->Q () B) (U:X.fn x=true\/X.env.scope.names.lookup x=some .local:=by first|exact .inl rfl|exact .inr rfl|assumption):wpAny M A (storeName X.env x u) Q E s:=
 rJ I L hi W r (λB G _=>h B G) U
theorem Inv.call'{B:Ad}(I:Inv X pins Z H s)(M:B.os=s.os)(u:Un (frs X.stack) ch H H' s.heap B.heap)(hok:HOk X.prog X.w H' B.heap)(L:Fe B.gens)
 (G:∀b∈ch,(b∈X.ex\/X.s₀.heap.objs.size<=b)/\b≠X.env.locals/\(∀x c,X.env.cells.lookup x=some c->c≠b)/\∀p∈X.pn++pins,p.1≠b):Inv X pins Z H' B:=by obtain⟨h',g',d',t',o'⟩:=B;have e:o'=s.os:=M;subst e;exact I.call (g':=g') (t':=t') (d':=d') u hok L G
end
abbrev XK:=Value->Option Addr->Hp->Prop
abbrev St:=List (Option V)
abbrev VK:=V->Hp->Prop
abbrev TE:=St->Hp->VK->Prop
abbrev TT:=St->Hp->(Bool->Hp->Prop)->Prop
abbrev TA:=St->Hp->(List V->Hp->Prop)->Prop
structure Ends where
 nx:St->Hp->Prop
 rt:VK
 bk:St->Hp->Prop:=λ_ _=>False
 ct:St->Hp->Prop:=λ_ _=>False
abbrev TS:=Ends->St->Hp->Prop
def EP(X:Cx)(pins:List (Addr×Obj))(Z:St)(Q:VK)(u:Value)(s':Ad):Prop:=∃v H',Inv X pins Z H' s'/\bJ v u/\Q v H'
def TP(X:Cx)(pins:List (Addr×Obj))(Z:St)(Q:Bool->Hp->Prop)(b:Bool)(s':Ad):Prop:=∃H',Inv X pins Z H' s'/\Q b H'
def AP(X:Cx)(pins:List (Addr×Obj))(Z:St)(Q:List V->Hp->Prop)(us:List Value)(s':Ad):Prop:=∃vs H',Inv X pins Z H' s'/\aS vs us/\Q vs H'
def SP(X:Cx)(pins:List (Addr×Obj))(D:Ends)(f:Flow)(s':Ad):Prop:=
 match f with
 | .next=>∃Z' H',Inv X pins Z' H' s'/\D.nx Z' H'|.brk=>∃Z' H',Inv X pins Z' H' s'/\D.bk Z' H'|.cont=>∃Z' H',Inv X pins Z' H' s'/\D.ct Z' H'|.ret u=>∃v Z' H',Inv X pins Z' H' s'/\bJ v u/\D.rt v H'
def PE(X:Cx)(e:A2)(t:TE):Prop:=
 ∀(pins:List (Addr×Obj)) (s:Ad) (Z:St) (H:Hp) (Q:VK),Inv X pins Z H s->t Z H Q->wpAny (A1 X.prog X.w) X.A (Dn e X.env) (EP X pins Z Q) X.xe s
def PT(X:Cx)(e:A2)(t:TT):Prop:=
 ∀(pins:List (Addr×Obj)) (s:Ad) (Z:St) (H:Hp) (Q:Bool->Hp->Prop),Inv X pins Z H s->t Z H Q->wpAny (A1 X.prog X.w) X.A (isTrue e X.env (Dn e X.env)) (TP X pins Z Q) X.xe s
def PW(X:Cx)(e:A2)(t:TT):Prop:=
 ∀(whole:KR Value) (pins:List (Addr×Obj)) (s:Ad) (Z:St) (H:Hp) (Q:Bool->Hp->Prop),Inv X pins Z H s->t Z H Q->wpAny (A1 X.prog X.w) X.A (isTrue e X.env whole) (TP X pins Z Q) X.xe s
theorem PW.pt(h:PW X e t):PT X e t:=h _
def PA(X:Cx)(es:List A2)(t:TA):Prop:=
 ∀(pos:EJ) (pins:List (Addr×Obj)) (s:Ad) (Z:St) (H:Hp) (Q:List V->Hp->Prop),Inv X pins Z H s->t Z H Q->wpAny (A1 X.prog X.w) X.A (Hr (D7 pos (AT es X.env))) (AP X pins Z Q) X.xe s
def PS(X:Cx)(st:Cu)(t:TS):Prop:=
 ∀(pins:List (Addr×Obj)) (s:Ad) (Z:St) (H:Hp) (D:Ends),Inv X pins Z H s->t D Z H->wpAny (A1 X.prog X.w) X.A (exec st X.env) (SP X pins D) X.xe s
def PSs(X:Cx)(st:List Cu)(t:TS):Prop:=
 ∀(pins:List (Addr×Obj)) (s:Ad) (Z:St) (H:Hp) (D:Ends),Inv X pins Z H s->t D Z H->wpAny (A1 X.prog X.w) X.A (execs st X.env) (SP X pins D) X.xe s
theorem thn{α:Type}{t:KR α}{Q B:α->Ad->Prop}{M:Model}{A:Bh}{E:Value->Ad->Prop}{s:Ad}(h:wpAny M A t Q E s)(G:∀a s,Q a s->B a s):wpAny M A t B E s:=CC h G λ_ _ x=>x
section
variable {X:Cx}
def aCV(i:Nat):TE:=λZ H Q=>∃v,Z[i]? = some (some v)/\Q v H
def tC(v:V):TE:=λ_ H Q=>Q v H
theorem oN(W:X.N[i]? = some x)(hv:Vis X.env.scope x)(hd:(x==("__debug__" : Str))=false:=by decide)(M:(x==("__classdict__" : Str))=false:=by decide):PE X (.Name x pos) (aCV i):=by
 intro pins s Z H Q I h;obtain⟨v,e,h⟩:=h;obtain⟨m,hn,hl⟩:=I.loc;obtain⟨u,r,l⟩:=hl i x v W e hv;have G:EP X pins Z Q u s:=⟨v,H,I,r,h⟩
 rcases l with⟨L,hm⟩|⟨L,c,U,B⟩
 exact IP (wpAny_loadName_local I.ok.kind L hn hm G) hd;rcases L with L|L;exact IP (wpAny_loadName_cell I.ok.kind L U B G) hd;exact IP (wpAny_loadName_free I.ok.kind L U B G M) hd
theorem aIh{i j pos}:PE X (.Constant (.int i) j pos) (tC (.int i)):=λ_ _ _ H _ I h=>wpAny_Constant_int ⟨.int i,H,I.tok _,⟨_,rfl⟩,h⟩
theorem aLd{b j pos}:PE X (.Constant (.bool b) j pos) (tC (.bl b)):=λ_ _ _ H _ I h=>Constant_bool ⟨.bl b,H,I,rfl,h⟩
theorem aIi{j pos}:PE X (.Constant .none j pos) (tC .non):=λ_ _ _ H _ I h=>Constant_none ⟨.non,H,I,rfl,h⟩
theorem aIj{x j pos}:PE X (.Constant (.str x) j pos) (tC (.str x)):=λ_ _ _ H _ I h=>Calls.Constant_str ⟨.str x,H,I.tok _,⟨_,rfl⟩,h⟩
def Gl(X:Cx)(x:Str):Prop:=X.env.kindOf x=some .globalImplicit
theorem tL{E:Value->Ad->Prop}{Q:Value->Ad->Prop}(I:Inv X pins Z H s)(B:Gl X x)(G:X.mg x=some u)(h:Q u s)
 (hd:(x==("__debug__" : Str))=false:=by decide):wpAny (A1 X.prog X.w) X.A (Dn (.Name x pos) X.env) Q E s:=
 EK I.ok.kind B (Calls.loadGlobal_global (by rw[I.ok.glob];exact I.mod.glob.keeps I.bk) G h) hd
theorem fE{E:Value->Ad->Prop}{Q:Value->Ad->Prop}(I:Inv X pins Z H s)(L:Gl X x)(M:X.mg x=none)(W:Co x=some u)(h:Q u s)
 (U:x ≠ "__name__" := by decide) (hd:(x==("__debug__" : Str))=false:=by decide):wpAny (A1 X.prog X.w) X.A (Dn (.Name x pos) X.env) Q E s:=by obtain⟨mb,B,G⟩:=I.mod.blt;exact EK I.ok.kind L (Calls.loadGlobal_builtin (by rw[I.ok.glob];exact I.mod.glob.keeps I.bk) M (by rw[I.ok.blt];exact B.keeps I.bk) ((G x U).trans W) h) hd
theorem aFz(B:Gl X x)(G:X.mg x=some u)(r:bJ v u)(hd:(x==("__debug__" : Str))=false:=by decide):PE X (.Name x pos) (tC v):=
 λ_ _ _ H _ I h=>tL I B G ⟨v,H,I,r,h⟩ hd
variable {a b:A2} {ta tb:TE} {pos:EJ}
variable {tA tB':TT} {rest:List A2}
def aOv(t u:TT):TT:=λZ H Q=>t Z H λc H1=>if c=true then u Z H1 Q else Q false H1
def tOr(t u:TT):TT:=λZ H Q=>t Z H λc H1=>if c=true then Q true H1 else u Z H1 Q
def aOw(t:TT):TT:=λZ H Q=>t Z H λc H1=>Q (!c) H1
theorem aFA(B:PT X a tA):PW X (.BoolOp .And [a] pos) tA:=by
 intro G pins s Z H Q I h;refine isTrue_and (thn (B pins s Z H Q I h) λc s1 e=>?_);cases c with
 | true=>exact isTrue_and_nil e|false=>exact e
theorem aIk(B:PT X a tA):PW X (.BoolOp .Or [a] pos) tA:=by
 intro G pins s Z H Q I h;refine isTrue_or (thn (B pins s Z H Q I h) λc s1 e=>?_);cases c with
 | false=>exact isTrue_or_nil e|true=>exact e
theorem aIl(L:PT X a tA)(M:PW X (.BoolOp .And (b::rest) pos) tB'):PW X (.BoolOp .And (a::b::rest) pos) (aOv tA tB'):=by
 intro U pins s Z H Q I h;refine isTrue_and (thn (L pins s Z H _ I h) λc s1 ⟨H1,B,G⟩=>?_);cases c with
 | true=>exact M U pins s1 Z H1 Q B G|false=>exact⟨H1,B,G⟩
theorem aLe(L:PT X a tA)(M:PW X (.BoolOp .Or (b::rest) pos) tB'):PW X (.BoolOp .Or (a::b::rest) pos) (tOr tA tB'):=by
 intro U pins s Z H Q I h;refine isTrue_or (thn (L pins s Z H _ I h) λc s1 ⟨H1,B,G⟩=>?_);cases c with
 | true=>exact⟨H1,B,G⟩|false=>exact M U pins s1 Z H1 Q B G
theorem aIm(B:PT X a tA):PT X (.UnaryOp .Not a pos) (aOw tA):=by intro pins s Z H Q I h;exact isTrue_not (B pins s Z H (λc H1=>Q (!c) H1) I h)
def aLf(ta tb:TE):TE:=λZ H Q=>ta Z H λx H1=>∃c,x=.bl c/\if c=true then tb Z H1 Q else Q (.bl false) H1
def aOx(ta tb:TE):TE:=λZ H Q=>ta Z H λx H1=>∃c,x=.bl c/\if c=true then Q (.bl true) H1 else tb Z H1 Q
theorem aCW{op}(h:PE X a t):PE X (.BoolOp op [a] pos) t:=λpins s Z H Q I B=>BoolOp_one (h pins s Z H Q I B)
theorem aIn(L:PE X a ta)(M:PE X (.BoolOp .And (b::rest) pos) tb):PE X (.BoolOp .And (a::b::rest) pos) (aLf ta tb):=by
 intro pins s Z H Q I h;refine BoolOp_and (thn (L pins s Z H _ I h) λv s1 ⟨x,H1,G,r1,B⟩=>?_);obtain⟨c,rfl,B⟩:=B;cases r1;refine Ca ?_;cases c with
 | true=>exact M pins s1 Z H1 Q G B|false=>exact⟨.bl false,H1,G,rfl,B⟩
theorem aLg(L:PE X a ta)(M:PE X (.BoolOp .Or (b::rest) pos) tb):PE X (.BoolOp .Or (a::b::rest) pos) (aOx ta tb):=by
 intro pins s Z H Q I h;refine BoolOp_or (thn (L pins s Z H _ I h) λv s1 ⟨x,H1,G,r1,B⟩=>?_);obtain⟨c,rfl,B⟩:=B;cases r1;refine Ca ?_;cases c with
 | false=>exact M pins s1 Z H1 Q G B|true=>exact⟨.bl true,H1,G,rfl,B⟩
def tIf(t:TT)(ta tb:TE):TE:=λZ H Q=>t Z H λc H1=>if c=true then ta Z H1 Q else tb Z H1 Q
theorem aCX(U:PT X c tA)(L:PE X a ta)(M:PE X b tb):PE X (.IfExp c a b pos) (tIf tA ta tb):=by
 intro pins s Z H Q I h;refine wpAny_IfExp (thn (U pins s Z H _ I h) λd s1 ⟨H1,B,G⟩=>?_);cases d with
 | true=>exact L pins s1 Z H1 Q B G|false=>exact M pins s1 Z H1 Q B G
end
def SqL(K:Aq)(H:Hp)(a:Addr)(xs:List V):Prop:=
 Rd H a (.lst xs) \/
  ∃(o:Obj) (its:Array Value) (n:Nat),K.lookup a=some o/\o.cls=.type "list" /\ o.dict=none/\o.data=.seq its n/\its.size<=sizeLine/\aS xs its.toList
def SqT(K:Aq)(H:Hp)(a:Addr)(xs:List V):Prop:=
 Rd H a (.tup xs) \/
  ∃(o:Obj) (its:Array Value) (n:Nat),K.lookup a=some o/\o.cls=.type "tuple" /\ o.data=.seq its n/\its.size<=sizeLine/\aS xs its.toList
noncomputable def aOy:Value->Option V
 | .none=>some .non|.bool b=>some (.bl b)|.int i _=>some (.int i)|.str x _=>some (.str x)|.bytes b _=>some (.byt b)|.float b _=>some (.flt b)|.ref a=>some (.ref a)|.type n=>some (.ty n)|_=>none
theorem bJ.abs(r:bJ x u):aOy u=some x:=by
 cases x with
 | non=>cases r;rfl|bl _=>cases r;rfl|int _=>obtain⟨t,rfl⟩:=r;rfl|str _=>obtain⟨t,rfl⟩:=r;rfl|byt _=>obtain⟨t,rfl⟩:=r;rfl|flt _=>obtain⟨t,rfl⟩:=r;rfl|ref _=>cases r;rfl|ty _=>cases r;rfl
theorem bJ.inj(r:bJ x u)(q:bJ y u):x=y:=An (r.abs.symm.trans q.abs)
theorem aS.inj:∀{xs B:List V} {us:List Value},aS xs us->aS B us->xs=B
 | _,_,_,.nil,.nil=>rfl|_,_,_,.cons r t,.cons r' t'=>by rw[r.inj r',aS.inj t t']
section
variable {X:Cx} {pins:List (Addr×Obj)} {Z:St} {H:Hp} {s:Ad} {a:Addr} {xs ys:List V}
theorem SqL.of{K:Aq}(h:H a=some (.lst xs)):SqL K H a xs:=.inl (.inl h)
theorem SqT.of{K:Aq}(h:H a=some (.tup xs)):SqT K H a xs:=.inl (.inl h)
theorem Inv.list(I:Inv X pins Z H s)(h:SqL X.K H a xs):∃its:List Value,aS xs its/\PlainL s.heap a its.toArray/\xs.length<=sizeLine:=by
 rcases h with h|⟨o,its,n,G,B,hd,hs,hz,r⟩
 obtain⟨z,its,n,r,e⟩:=h.ok I.hok;exact⟨its,r,⟨_,n,e,rfl,rfl,rfl⟩,z⟩;refine⟨its.toList,r,⟨o,n,I.kIn a o G,B,hd,by simpa using hs⟩,?_⟩;have e:=r.length;simp only[A6] at e;omega
theorem Inv.tuple(I:Inv X pins Z H s)(h:SqT X.K H a xs):∃its:List Value,aS xs its/\IsTup s.heap a its.toArray/\xs.length<=sizeLine:=by
 rcases h with h|⟨o,its,n,G,B,hs,hz,r⟩
 obtain⟨z,its,r,p⟩:=h.ok I.hok;exact⟨its,r,p,z⟩;refine⟨its.toList,r,⟨o,I.kIn a o G,B,n,by simpa using hs⟩,?_⟩;have e:=r.length;simp only[A6] at e;omega
theorem Inv.list_inj(I:Inv X pins Z H s)(h:SqL X.K H a xs)(h':SqL X.K H a ys):xs=ys:=by
 obtain⟨its,r,⟨o,n,e,_,_,d⟩,_⟩:=I.list h;obtain⟨its',G,⟨o',L,B,_,_,d'⟩,_⟩:=I.list h';rw[e] at B;cases B;rw[d] at d';injection d' with d1 _
 have:its=its':=by simpa using congrArg Array.toList d1
 subst this;exact r.inj G
theorem Inv.tuple_inj(I:Inv X pins Z H s)(h:SqT X.K H a xs)(h':SqT X.K H a ys):xs=ys:=by
 obtain⟨its,r,⟨o,e,_,n,d⟩,_⟩:=I.tuple h;obtain⟨its',G,⟨o',B,_,L,d'⟩,_⟩:=I.tuple h';rw[e] at B;cases B;rw[d] at d';injection d' with d1 _
 have:its=its':=by simpa using congrArg Array.toList d1
 subst this;exact r.inj G
end
abbrev Cx.wish(X:Cx)(E:Value->Ad->Prop):Cx:={ X with xe:=E }
abbrev Cx.nox(X:Cx):Cx:=X.wish λ_ _=>False
theorem Cx.Ok.wish{X:Cx}(ok:X.Ok)(E:Value->Ad->Prop):(X.wish E).Ok:=
 ⟨ok.mod,ok.kind,ok.glob,ok.blt,ok.above,ok.inj,ok.has,ok.cab,ok.hd,ok.frames,ok.stk,ok.exf,ok.bs,ok.bsz,ok.noex,ok.exfs,ok.funs,ok.frf⟩
theorem Cx.Ok.unwish{X:Cx}{E:Value->Ad->Prop}(ok:(X.wish E).Ok):X.Ok:=
 ⟨ok.mod,ok.kind,ok.glob,ok.blt,ok.above,ok.inj,ok.has,ok.cab,ok.hd,ok.frames,ok.stk,ok.exf,ok.bs,ok.bsz,ok.noex,ok.exfs,ok.funs,ok.frf⟩
section
variable {X:Cx} {pins:List (Addr×Obj)} {Z:St} {H:Hp} {s:Ad} {E:Value->Ad->Prop}
theorem Inv.wish(I:Inv X pins Z H s)(E:Value->Ad->Prop):Inv (X.wish E) pins Z H s:=⟨I.ok.wish E,I.os,I.bare,I.base,I.loc,I.cell,I.free,I.freeC,I.pin,I.hok,I.len⟩
theorem Inv.unwish(I:Inv (X.wish E) pins Z H s):Inv X pins Z H s:=⟨I.ok.unwish,I.os,I.bare,I.base,I.loc,I.cell,I.free,I.freeC,I.pin,I.hok,I.len⟩
theorem SP.unwish(h:SP (X.wish E) pins D f s'):SP X pins D f s':=by
 cases f with
 | next=>obtain⟨Z',H',I,q⟩:=h;exact⟨Z',H',I.unwish,q⟩|brk=>obtain⟨Z',H',I,q⟩:=h;exact⟨Z',H',I.unwish,q⟩|cont=>obtain⟨Z',H',I,q⟩:=h;exact⟨Z',H',I.unwish,q⟩|ret u=>obtain⟨v,Z',H',I,r,q⟩:=h;exact⟨v,Z',H',I.unwish,r,q⟩
theorem PSs.nox{st:List Cu}{t:TS}(h:PSs X.nox st t):PSs X st t:=λpins s Z H D I B=>CC (h pins s Z H D (I.wish _) B) (λ_ _ q=>q.unwish) λ_ _ z=>BL z
end
section
variable {X:Cx} {st:Cu} {rest:List Cu} {t u:TS} {e:A2} {te:TE} {pos:EJ}
def aHy:TS:=λD Z H=>D.nx Z H
def aOz(t u:TS):TS:=λD Z H=>t { D with nx:=u D } Z H
theorem aFB:PSs X [] aHy:=λ_ _ Z H _ I h=>Ex ⟨Z,H,I,h⟩
theorem aCY(G:PS X st t)(L:PSs X rest u):PSs X (st::rest) (aOz t u):=by
 intro pins s Z H D I h;refine wpAny_execs_cons (thn (G pins s Z H { D with nx:=u D } I h) λf s1 q=>?_);cases f with
 | next=>obtain⟨Z',H',B,q⟩:=q;exact L pins s1 Z' H' D B q|ret v=>exact q|brk=>exact q|cont=>exact q
def aIo:TS:=λD Z H=>D.bk Z H
def aLh:TS:=λD Z H=>D.ct Z H
theorem aFC:PS X (.Pass pos) aHy:=λ_ _ Z H _ I h=>wpAny_Pass ⟨Z,H,I,h⟩
theorem aCZ:PS X (.Break pos) aIo:=λ_ _ Z H _ I h=>wpAny_Break ⟨Z,H,I,h⟩
theorem vZ:PS X (.Continue pos) aLh:=λ_ _ Z H _ I h=>wpAny_Continue ⟨Z,H,I,h⟩
theorem Inv.quiet(I:Inv X pins Z H s):Kf X.env=false:=by simp[Kf,I.ok.kind]
def aLi(te:TE):TS:=λD Z H=>te Z H λ_ H1=>D.nx Z H1
theorem iO(G:PE X e te)(hs:JD e none pos.line X.env=pure false:=by rfl):PS X (.Expr e pos) (aLi te):=by intro pins s Z H D I h;exact wpAny_Expr_any (thn (G pins s Z H _ I h) λv s1 ⟨x,H1,B,r1,L⟩=>⟨Z,H1,B,L⟩) I.quiet hs
def aOA(te:TE):TS:=λD Z H=>te Z H D.rt
theorem tM(G:PE X e te):PS X (.Return (some e) pos) (aOA te):=by intro pins s Z H D I h;exact wpAny_Return_some (thn (G pins s Z H _ I h) λv s1 ⟨x,H1,B,r1,L⟩=>⟨x,Z,H1,B,r1,L⟩)
def aLj:TS:=λD _ H=>D.rt .non H
theorem aFD:PS X (.Return none pos) aLj:=λ_ _ Z H _ I h=>wpAny_Return_none ⟨.non,Z,H,I,rfl,h⟩
def aOB(c:TT)(t u:TS):TS:=λD Z H=>c Z H λb H1=>if b=true then t D Z H1 else u D Z H1
theorem aHz(U:PT X c tc)(L:PSs X a t)(M:PSs X b u):PS X (.If c a b pos) (aOB tc t u):=by
 intro pins s Z H D I h;refine wpAny_If (thn (U pins s Z H _ I h) λd s1 ⟨H1,B,G⟩=>?_);cases d with
 | true=>exact L pins s1 Z H1 D B G|false=>exact M pins s1 Z H1 D B G
def aIp:TS:=λ_ _ _=>False
theorem aDa:PS X st aIp:=λ_ _ _ _ _ _ h=>h.elim
end
abbrev TG:=V->St->Hp->(St->Hp->Prop)->Prop
abbrev TGs:=List V->St->Hp->(St->Hp->Prop)->Prop
def PG(X:Cx)(target:A2)(t:TG):Prop:=
 ∀(pins:List (Addr×Obj)) (s:Ad) (Z:St) (H:Hp) (v:V) (u:Value) (Q:St->Hp->Prop),Inv X pins Z H s->bJ v u->t v Z H Q ->
  wpAny (A1 X.prog X.w) X.A (F9 target X.env u) (λ_ s'=>∃Z' H',Inv X pins Z' H' s'/\Q Z' H') X.xe s
def PGs(X:Cx)(ts:List A2)(t:TGs):Prop:=
 ∀(pins:List (Addr×Obj)) (s:Ad) (Z:St) (H:Hp) (vs:List V) (us:List Value) (Q:St->Hp->Prop),Inv X pins Z H s->aS vs us->t vs Z H Q ->
  wpAny (A1 X.prog X.w) X.A (assignInOrder ((Db ts X.env).map (·.2)) us) (λ_ s'=>∃Z' H',Inv X pins Z' H' s'/\Q Z' H') X.xe s
abbrev aLk:=V->V->V->Hp->(Hp->Prop)->Prop
def aIq(X:Cx)(t:aLk):Prop:=
 ∀(pins:List (Addr×Obj)) (s:Ad) (Z:St) (H:Hp) (o i v:V) (ov iv u:Value) (Q:Hp->Prop),Inv X pins Z H s->bJ o ov->bJ i iv->bJ v u->t o i v H Q ->
  wpAny (A1 X.prog X.w) X.A (setItem ov iv u) (λ_ s'=>∃H',Inv X pins Z H' s'/\Q H') X.xe s
section
variable {X:Cx} {pos:EJ}
def rK(i:Nat):TG:=λv Z H Q=>Q (Z.set i (some v)) H
theorem aAC(G:X.N.Nodup)(hi:X.N[i]? = some x)(M:Loc X.env.scope x)(L:X.fn x=true\/X.env.scope.names.lookup x=some .local:=by first|exact .inl rfl|exact .inr rfl|assumption):PG X (.Name x pos) (rK i):=by intro pins s Z H v u Q I r h;exact Ht (vY I G hi M r (λU B=>⟨_,H,B,h⟩) L)
def aLl:TGs:=λvs Z H Q=>vs=[]/\Q Z H
def aHA(t:TG)(u:TGs):TGs:=λvs Z H Q=>∃v r,vs=v::r/\t v Z H λZ' H'=>u r Z' H' Q
theorem aFE:PGs X [] aLl:=by intro pins s Z H vs us Q I r h;obtain⟨e,h⟩:=h;subst e;cases r;exact assignInOrder_nil ⟨Z,H,I,h⟩
theorem aDb(L:PG X e t)(M:PGs X es u)
 (hs:(Db (e::es) X.env).map (·.2)=F9 e X.env::(Db es X.env).map (·.2):=by rfl):PGs X (e::es) (aHA t u):=by
 intro pins s Z H vs us Q I r h;obtain⟨v,W,G,h⟩:=h;subst G;cases r with
 | cons r rr=>rw[hs];refine assignInOrder_cons (thn (L pins s Z H _ _ _ I r h) λ_ s1 ⟨Z1,H1,B,U⟩=>?_);exact M pins s1 Z1 H1 _ _ Q B rr U
def aLm(K:Aq)(n:Nat)(t:TGs):TG:=λv Z H Q=>∃a xs,v=.ref a/\SqT K H a xs/\xs.length=n/\t xs Z H Q
theorem aIr(U:X.calm=true)(h:PGs X es t)
 (hn:(Db es X.env).length=n:=by rfl) (B:(Db es X.env).findIdx? (·.1)=none:=by rfl):PG X (.Tuple es k pos) (aLm X.K n t):=by intro pins s Z H v u Q I r G;obtain⟨a,xs,M,hq,W,G⟩:=G;subst M;cases r;obtain⟨its,rv,ht,hz⟩:=I.tuple hq;refine assign_Tuple_tuple (I.ok.hd U) ht (by simp[hn,<-W,rv.length]) B λh' hx=>?_;have L:Inv X pins Z H { s with heap:=h' }:=I.kept (t':=s.toks) λb o e=>hx b o (Aw (Am e)) e;exact h pins _ Z H xs _ Q L (by simpa using rv) G
def aOC(to ti:TE)(t:aLk):TG:=λv Z H Q=>to Z H λo H1=>ti Z H1 λi H2=>t o i v H2 λH3=>Q Z H3
theorem yU(ho:PE X o to)(hi:PE X i ti)(hs:aIq X t)
 (ha:∀v,F9 (.Subscript o i pos) X.env v=(do
  let B<-Ff [v] (Dn o X.env)
  let G<-Ff [v,B] (Dn i X.env)
  KG pos
  Ff [v,B,G] (setItem B G v)
  release [v,B,G] []):=by intro _;rfl):PG X (.Subscript o i pos) (aOC to ti t):=by intro pins s Z H v u Q I r h;rw[ha];refine Aa (AR (thn (ho pins s Z H _ I h) λB s1 ⟨x,H1,U,r1,q1⟩=>?_));refine Aa (AR (thn (hi pins s1 Z H1 _ U q1) λG s2 ⟨y,L,W,r2,q2⟩=>?_));refine Aa (GH (Aa (AR (thn (hs pins s2 Z L x y v B G u _ W r1 r2 r q2) λ_ s3 ⟨M,I3,q3⟩=>?_))));exact wpAny_release ⟨Z,M,I3,q3⟩
def aFF(te:TE)(g:TG):TS:=λD Z H=>te Z H λx H1=>g x Z H1 D.nx
theorem oO(L:PE X e te)(M:PG X tg g)(hs:swapsWithSole [tg] e pos.line X.env=pure false:=by rfl)(U:swappedStores [tg] e X.env=pure none:=by rfl)
 (G:(Db [tg] X.env).map (·.2)=[F9 tg X.env]:=by rfl):PS X (.Assign [tg] e pos) (aFF te g):=by intro pins s Z H D I h;refine wpAny_Assign_stores (thn (L pins s Z H _ I h) λv s1 ⟨x,H1,B,r1,W⟩=>?_) hs U;rw[G];exact thn (M pins s1 Z H1 x v _ B r1 W) λ_ s2 q=>q
theorem lV(L:X.N.Nodup)(hi:X.N[i]? = some x)(W:Loc X.env.scope x)(M:PE X e te)(hs:JD e (some (.Name x pos')) pos.line X.env=pure false:=by rfl)(U:X.fn x=true\/X.env.scope.names.lookup x=some .local:=by first|exact .inl rfl|exact .inr rfl|assumption) :
 PS X (.Assign [.Name x pos'] e pos) (aFF te (rK i)):=by intro pins s Z H D I h;refine wpAny_Assign_Name (thn (M pins s Z H _ I h) λv s1 ⟨y,H1,B,r1,q1⟩=>?_) hs;exact vY B L hi W r1 (λs2 G=>⟨_,H1,G,q1⟩) U
def aIs(c:TT)(tb:TS):TS:=λD Z H=>∃W0:Nat->St->Hp->Prop,(∃m,W0 m Z H)/\∀m Z H,W0 m Z H ->
 c Z H λb H1=>if b=true then ∃N:St->Hp->Prop,(∀Z' H',N Z' H'->∃m',m'<m/\W0 m' Z' H')/\tb { D with nx:=N,ct:=N,bk:=D.nx } Z H1 else D.nx Z H1
theorem aDc(hp:G5 (A1 X.prog X.w) X.A X.env X.xe)(hc:PT X c tc)(hb:PSs X body tb):PS X (.While c body [] pos) (aIs tc tb):=by
 intro pins s Z H D I h;obtain⟨W0,⟨m0,w0⟩,L⟩:=h;refine wpAny_While (codeAny_whileLoop (λn s'=>∃Z' H',Inv X pins Z' H' s'/\W0 n Z' H') ?_ m0 ⟨Z,H,I,w0⟩);rintro n s1 ⟨Z1,H1,I1,w1⟩;refine C2 hp (thn (hc pins s1 Z1 H1 _ I1 (L n Z1 H1 w1)) λb s2 ⟨H2,I2,M⟩=>?_);cases b with
 | true=>
  obtain⟨N,hN,M⟩:=M;rw[if_pos rfl];refine C2 hp (thn (hb pins s2 Z1 H2 _ I2 M) λf s3 U=>?_);cases f with
  | next=>obtain⟨G,B,W,n3⟩:=U;obtain⟨m',hm,w3⟩:=hN G B n3;exact⟨m',hm,G,B,W,w3⟩|cont=>obtain⟨G,B,W,n3⟩:=U;obtain⟨m',hm,w3⟩:=hN G B n3;exact⟨m',hm,G,B,W,w3⟩|brk=>exact U|ret v=>exact U
 | false=>rw[if_neg EI];exact Ex ⟨Z1,H2,I2,M⟩
end
structure It where
 go:Nat->Hp->Prop
 yld:Nat->Hp->V->Hp->Prop
 stop:Nat->Hp->Prop
def kA(X:Cx)(pins:List (Addr×Obj))(H:Hp)(b:Addr):Prop:=
 H b=none/\b≠X.env.locals/\b∉X.fs/\(b∈X.ex\/X.s₀.heap.objs.size<=b)/\(∀x c,X.env.cells.lookup x=some c->c≠b)/\∀p∈X.pn++pins,p.1≠b
theorem Inv.fpOk{s:Ad}(I:Inv X pins Z H s)(B:s.heap.objs.size<=b)(G:H' b=none):kA X pins H' b:=by refine⟨G,BE (A7 I.lt B),I.nofs B,.inr (AI I.sz B),λx c e z=>?_,λp L z=>?_⟩;obtain⟨v,q⟩:=I.cell x c e;exact absurd (A7 q.lt (by rw[z];exact B)) (AC _);exact absurd (A7 (Am (I.pin p L).1) (by rw[z];exact B)) (AC _)
structure yV (P:A3) (w:AG) (K:Aq) (tg:A2) (J:It) (fp:List Addr) (it:Addr) (tn:Nat->Heap->Prop):Prop where
 mem:it∈fp
 obj:∀i h,tn i h->∀b∈fp,∃o,h.get? b=some o/\∀v,o.data≠.cell v
 keep:∀i h h',tn i h->(∀b∈fp,∀o,h.get? b=some o->h'.get? b=some o)->tn i h'
 item:∀(X:Cx),X.prog=P->X.w=w->X.K=K->X.calm=true->∀(i:Nat) (pins:List (Addr×Obj)) (s:Ad) (Z:St) (H:Hp) (E:Value->Ad->Prop),Inv X pins Z H s->(∀b∈fp,kA X pins H b)->tn i s.heap->J.go i H ->
  wpAny (A1 P w) X.A (D8 (.ref it)) (λr s1=>∃u,r=some u /\
   wpAny (A1 P w) X.A (Ey tg (.ref it) u) (λ_ s2=>∃x H',Inv X pins Z H' s2/\bJ x u/\J.yld i H x H'/\tn (i+1) s2.heap/\∀b∈fp,H' b=none) E s1) E s
 done:∀(X:Cx),X.prog=P->X.w=w->X.K=K->X.calm=true->∀(i:Nat) (pins:List (Addr×Obj)) (s:Ad) (Z:St) (H:Hp) (E:Value->Ad->Prop),Inv X pins Z H s->(∀b∈fp,kA X pins H b)->tn i s.heap->J.stop i H ->
  wpAny (A1 P w) X.A (D8 (.ref it)) (λr s1=>r=none/\Inv X pins Z H s1) E s
 self:∀(A:Bh) (i:Nat) (s:Ad) (Q:Value->Ad->Prop) (E:Value->Ad->Prop),tn i s.heap->Q (.ref it) s->wpAny (A1 P w) A (GW (.ref it)) Q E s
abbrev TI:=St->Hp->(It->Hp->Prop)->Prop
def PIE(X:Cx)(pins:List (Addr×Obj))(Z:St)(tg:A2)(R:It->Hp->Prop)(itv:Value)(s2:Ad):Prop:=
 ∃(it:Addr) (fp:List Addr) (tn:Nat->Heap->Prop) (J:It) (H':Hp),itv=.ref it/\Inv X pins Z H' s2/\yV X.prog X.w X.K tg J fp it tn/\tn 0 s2.heap/\(∀b∈fp,kA X pins H' b)/\R J H'
def PI(X:Cx)(tg iter:A2)(wi:TI):Prop:=
 ∀(pins:List (Addr×Obj)) (s:Ad) (Z:St) (H:Hp) (R:It->Hp->Prop),Inv X pins Z H s->wi Z H R ->
  wpAny (A1 X.prog X.w) X.A (Dn iter X.env) (λv s1=>wpAny (A1 X.prog X.w) X.A (GW v) (PIE X pins Z tg R) X.xe s1) X.xe s
theorem oP{E:Value->Ad->Prop}{s:Ad}{o:Obj}{Q:Unit->Ad->Prop}(L:s.heap.get? it=some o)(G:o.cls=.type n)(hd:o.data=.fields vs)
 (I:["enumerate", "zip", "dict_itemiterator", "dict_reverseitemiterator", "odict_iterator", "itertools.zip_longest", "itertools.pairwise"].contains n=false) (B:Q () s):wpAny M A (Ey tg (.ref it) u) Q E s:=by
 unfold Ey;cases tg <;> first
  | exact Ac B
  | (cases u <;> first
   | exact Ac B
   | (refine Aa (IQ L ?_)
      rw[G,hd];show wpAny M A (if (["enumerate", "zip", "dict_itemiterator", "dict_reverseitemiterator", "odict_iterator", "itertools.zip_longest", "itertools.pairwise"].contains n&&vs[0]?==some (BZ _))=true then _ else _) Q E s;rw[if_neg (by intro h;rw[I,Gh] at h;cases h)];exact Ac B))
def Itl(K:Aq)(a:Addr):It:=
 ⟨λi H=>∃xs x,SqL K H a xs/\xs[i]? = some x,λi H x H'=>H'=H/\∀xs,SqL K H a xs->xs[i]? = some x,λi H=>∃xs,SqL K H a xs/\xs.length<=i⟩
def Itt(K:Aq)(a:Addr):It:=
 ⟨λi H=>∃xs x,SqT K H a xs/\xs[i]? = some x,λi H x H'=>H'=H/\∀xs,SqT K H a xs->xs[i]? = some x,λi H=>∃xs,SqT K H a xs/\xs.length<=i⟩
def Itr(lo:Int)(n:Nat):It:=⟨λi _=>i<n,λi H x H'=>H'=H/\x=.int (lo+i),λi _=>n<=i⟩
theorem aBQ{P:A3}{w:AG}{K:Aq}{tg:A2}(a it:Addr):yV P w K tg (Itl K a) [it] it (λi h=>h.IsListIter it a i) where
 mem:=by simp
 obj:=λi h st b B=>by
  have e:b=it:=by simpa using B
  subst e;obtain⟨o,e,c,d⟩:=st;exact⟨o,e,λv z=>by rw[d] at z;cases z⟩
 keep:=λi h h' st k=>st.at λo e=>k it (by simp) o e
 item:=by intro X W hw U hc i pins s Z H E I L st hg;subst W hw U;obtain⟨xs,x,M,hx⟩:=hg;obtain⟨its,rv,p,hz⟩:=I.list M;obtain⟨u,hu,ru⟩:=rv.get hx;obtain⟨f0,f1,f2,f3,f4,f5⟩:=L it (by simp);refine FA st p.isList (x:=u) (by simpa using hu) λh' G sb=>?_;have I1:Inv X pins Z H { s with heap:=h' }:=I.turned (t':=s.toks) (λb o B e=>(sb.2 b B).trans e) f0 f1 f3 f4 f5;obtain⟨o,e,c,d⟩:=id G;exact⟨u,rfl,oP (s:={ s with heap:=h' }) e c d (by decide) ⟨x,H,I1,ru,⟨rfl,λys hy=>by rw[I.list_inj hy M];exact hx⟩,G,λb B=>(L b B).1⟩⟩
 done:=by intro X W hw U hc i pins s Z H E I L st hg;subst W hw U;obtain⟨xs,M,hx⟩:=hg;obtain⟨its,rv,p,hz⟩:=I.list M;obtain⟨f0,f1,f2,f3,f4,f5⟩:=L it (by simp);have hl:=rv.length;exact FW (I.ok.hd hc) st p.isList (by simp;omega) λh' eb=>⟨rfl,I.turned (t':=s.toks) (λb o B e=>eb b o B e) f0 f1 f3 f4 f5⟩
 self:=λ_ _ _ _ _ st h=>wpAny_pyIter_listiter st h
theorem yW{P:A3}{w:AG}{K:Aq}{tg:A2}(a it:Addr):yV P w K tg (Itt K a) [it] it (λi h=>h.IsTupleIter it a i) where
 mem:=by simp
 obj:=λi h st b B=>by
  have e:b=it:=by simpa using B
  subst e;obtain⟨o,e,c,d⟩:=st;exact⟨o,e,λv z=>by rw[d] at z;cases z⟩
 keep:=λi h h' st k=>st.at λo e=>k it (by simp) o e
 item:=by intro X W hw U hc i pins s Z H E I L st hg;subst W hw U;obtain⟨xs,x,M,hx⟩:=hg;obtain⟨its,rv,p,hz⟩:=I.tuple M;obtain⟨u,hu,ru⟩:=rv.get hx;obtain⟨f0,f1,f2,f3,f4,f5⟩:=L it (by simp);refine wpAny_pyNext_tuple_item st (show s.heap.IsTuple a its.toArray from p) (x:=u) (by simpa using hu) λh' G sb=>?_;have I1:Inv X pins Z H { s with heap:=h' }:=I.turned (t':=s.toks) (λb o B e=>(sb.2 b B).trans e) f0 f1 f3 f4 f5;obtain⟨o,e,c,d⟩:=id G;exact⟨u,rfl,oP (s:={ s with heap:=h' }) e c d (by decide) ⟨x,H,I1,ru,⟨rfl,λys hy=>by rw[I.tuple_inj hy M];exact hx⟩,G,λb B=>(L b B).1⟩⟩
 done:=by intro X W hw U hc i pins s Z H E I L st hg;subst W hw U;obtain⟨xs,M,hx⟩:=hg;obtain⟨its,rv,p,hz⟩:=I.tuple M;obtain⟨f0,f1,f2,f3,f4,f5⟩:=L it (by simp);have hl:=rv.length;exact wpAny_pyNext_tuple_end (I.ok.hd hc) st (show s.heap.IsTuple a its.toArray from p) (by simp;omega) λh' eb=>⟨rfl,I.turned (t':=s.toks) (λb o B e=>eb b o B e) f0 f1 f3 f4 f5⟩
 self:=λ_ _ _ _ _ st h=>wpAny_pyIter_tupleiter st h
theorem yX{P:A3}{w:AG}{K:Aq}{tg:A2}(it:Addr)(lo:Int)(n:Nat):yV P w K tg (Itr lo n) [it] it (λi h=>Kg h it (lo+(i:Nat)*1) ((n:Int)-(i:Nat)) 1) where
 mem:=by simp
 obj:=λi h st b B=>by
  have e:b=it:=by simpa using B
  subst e;exact⟨_,st,λv z=>by
   have z':Ij _=HQ v:=z;cases z'⟩
 keep:=λi h h' st k=>k it (by simp) _ st
 item:=by intro X U hw M W i pins s Z H E I L st hg;subst U hw M;obtain⟨f0,f1,f2,f3,f4,f5⟩:=L it (by simp);have W0:=Walks.range (prog:=X.prog) (w:=X.w) (I.ok.hd W) it lo 1 n;refine W0.item i s _ _ hg st λv h' tk hv G kk=>?_;obtain⟨t,rfl⟩:=hv;have I1:Inv X pins Z H { s with heap:=h',toks:=tk }:=I.turned (λb o B e=>kk b o (by simpa using B) e) f0 f1 f3 f4 f5;refine⟨_,rfl,oP (s:={ s with heap:=h',toks:=tk }) (n:= "range_iterator") G rfl rfl (by decide) ⟨.int (lo+i),H,I1,⟨t,?_⟩,⟨rfl,rfl⟩,G,λb B=>(L b B).1⟩⟩;rw[Int.mul_one]
 done:=by intro X U hw M W i pins s Z H E I L st hg;subst U hw M;obtain⟨f0,f1,f2,f3,f4,f5⟩:=L it (by simp);exact wpAny_pyNext_range_end (I.ok.hd W) st (by have:n<=i:=hg;omega) λh' eb=>⟨rfl,I.turned (t':=s.toks) (λb o B e=>eb b o B e) f0 f1 f3 f4 f5⟩
 self:=λ_ _ _ _ _ st h=>wpAny_pyIter_rangeiter st h
section
variable {X:Cx} {tg:A2}
theorem wB{pins:List (Addr×Obj)}{Z:St}{H:Hp}{s:Ad}{R:It->Hp->Prop}{E:Value->Ad->Prop}{lo hi:Int}{t u v:Tok}{tk:Nat}(I:Inv X pins Z H s)(M:-(2 ^ 62)<=lo)(U:lo<2 ^ 62)(W:-(2 ^ 62)<=hi)(h4:hi<2 ^ 62)
 (q:R (Itr lo (hi-lo).toNat) H):wpAny (A1 X.prog X.w) X.A (GW (.ref s.heap.objs.size)) (PIE X pins Z tg R) E { s with heap:=s.heap.push { cls:=.type "range",data:=.fields #[.int lo t,.int hi u,.int 1 v] },toks:=tk }:=by
 refine wpAny_pyIter_range (IsRange.new ..) (small_one M U W h4) ?_;have B:Inv X pins Z H { s with heap:=s.heap.push { cls:=.type "range",data:=.fields #[.int lo t,.int hi u,.int 1 v] },toks:=tk }:=I.kept λb o e=>Ab _ e;refine⟨(s.heap.push { cls:=.type "range",data:=.fields #[.int lo t,.int hi u,.int 1 v] }).objs.size,[(s.heap.push { cls:=.type "range",data:=.fields #[.int lo t,.int hi u,.int 1 v] }).objs.size],_,_,H,rfl,
  B.kept (t':=tk) λb o e=>Ab _ e,yX _ lo (hi-lo).toNat,?_,λb hb=>?_,q⟩
 have G:lo+((0:Nat):Int)*1=lo:=by simp
 have L:(((hi-lo).toNat:Nat):Int)-((0:Nat):Int)=JE lo hi 1:=by rw[rangeSize_one];split <;> omega
 show Kg _ _ (lo+((0:Nat):Int)*1) ((((hi-lo).toNat:Nat):Int)-((0:Nat):Int)) 1;rw[G,L];exact Al _ rfl;have e:b=(s.heap.push { cls:=.type "range",data:=.fields #[.int lo t,.int hi u,.int 1 v] }).objs.size:=by simpa using hb
 subst e;exact B.fpOk (Ak _) (B.hok.fresh (Ak _))
def aLn(ta:TA):TI:=λZ H R=>ta Z H λvs H1=>∃j:Int,vs=[.int j]/\-(2 ^ 62)<=j/\j<2 ^ 62/\R (Itr 0 j.toNat) H1
def aLo(ta:TA):TI:=λZ H R=>ta Z H λvs H1=>∃i j:Int,vs=[.int i,.int j]/\(-(2 ^ 62)<=i/\i<2 ^ 62/\-(2 ^ 62)<=j/\j<2 ^ 62)/\R (Itr i (j-i).toNat) H1
theorem lW{a:A2}{G:TA}{p pos:EJ}(U:Gl X "range")(W:X.mg "range" = none)(M:PA X [a] G)(hs:AT [a] X.env=[(false,Dn a X.env)]:=by rfl):PI X tg (.Call (.Name "range" p) [a] [] pos) (aLn G):=by
 intro pins s Z H R I h;refine Call_ (fE I U W boot_range (BK (thn (M pos pins s Z H _ I h) λus s1 ⟨vs,H1,L,r1,B⟩=>?_) hs rfl));obtain⟨j,e,B,q2,q⟩:=B;subst e;cases r1 with
 | cons r rr=>cases rr;obtain⟨t,rfl⟩:=r;exact call_range_1 (wB L (by omega) (by omega) B q2 (by simpa using q))
theorem aBR(U:Gl X "range")(W:X.mg "range" = none)(M:PA X [a,b] ta)(hs:AT [a,b] X.env=[(false,Dn a X.env),(false,Dn b X.env)]:=by rfl)(B:AT [b] X.env=[(false,Dn b X.env)]:=by rfl) :
 PI X tg (.Call (.Name "range" p) [a,b] [] pos) (aLo ta):=by
 intro pins s Z H R I h;refine Call_ (fE I U W boot_range (BK (thn (M pos pins s Z H _ I h) λus s1 ⟨vs,H1,L,r1,G⟩=>?_) (by rw[hs,B]) (by rw[B];rfl)));obtain⟨i,j,e,⟨G,q2,q3,q4⟩,q⟩:=G;subst e;cases r1 with
 | cons r rr=>
  cases rr with
  | cons r' rr=>cases rr;obtain⟨t,rfl⟩:=r;obtain⟨t',rfl⟩:=r';exact call_range_2 (wB L G q2 q3 q4 q)
def aOD(wi:TI)(g:TG)(tb:TS):TS:=λD Z H=>wi Z H λJ H1=>∃W0:Nat->Nat->St->Hp->Prop,(∃m,W0 0 m Z H1)/\∀i m Z H,W0 i m Z H ->
 (J.stop i H/\D.nx Z H)\/(J.go i H/\∃N:St->Hp->Prop,(∀Z' H',N Z' H'->∃m',m'<m/\W0 (i+1) m' Z' H')/\∀x H',J.yld i H x H'->g x Z H' λZ2 H2=>tb { D with nx:=N,ct:=N,bk:=D.nx } Z2 H2)
def oQ(fp:List Addr)(h:Heap):List (Addr×Obj):=fp.filterMap λb=>(h.get? b).map λo=>(b,o)
theorem fV{h:Heap}(B:b∈fp)(e:h.get? b=some o):(b,o)∈oQ fp h:=B3.mpr ⟨b,B,by rw[e];rfl⟩
theorem aBS{h:Heap}{p:Addr×Obj}(I:p∈oQ fp h):p.1∈fp/\h.get? p.1=some p.2:=by
 obtain⟨b,G,e⟩:=B3.mp I;cases q:h.get? b with
 | none=>rw[q] at e;cases e|some o=>rw[q] at e;have B:(b,o)=p:=An e;subst B;exact⟨G,q⟩
theorem Inv.pinned{s:Ad}(I:Inv X pins Z H s)(L:∀b∈fp,kA X pins H b)(M:∀b∈fp,∃o,s.heap.get? b=some o/\∀v,o.data≠.cell v):Inv X (pins++oQ fp s.heap) Z H s:=
 I.pins_of λp U=>(AY.mp U).elim (λz=>I.pin p (A5 _ z)) λz=>by obtain⟨G,e⟩:=aBS z;obtain⟨f0,f1,f2,_⟩:=L p.1 G;obtain⟨o,B,d⟩:=M p.1 G;rw[e] at B;cases B;exact⟨e,f0,f1,f2,d⟩
theorem Inv.unpinned(I:Inv X (pins++pl) Z H s):Inv X pins Z H s:=I.pins_of λp B=>I.pin p (A5 _ (AE _ B))
theorem aDd(hp:G5 (A1 X.prog X.w) X.A X.env X.xe)(hc:X.calm=true)(hi:PI X tg iter wi)(hg:PG X tg g)(U:PSs X body tb)
 (hs:∀x,Cb iter X.env x=pure x:=by intro _;rfl):PS X (.For tg iter body [] pos) (aOD wi g tb):=by
 intro pins s Z H D I h;refine wpAny_For (thn (hi pins s Z H _ I h) λv s1 h1=>thn h1 λq9 s2 h2=>?_) hs;obtain⟨it,fp,tn,J,H2,e,I2,T,q8,f2,W0,⟨m0,w0⟩,q3⟩:=h2;subst e;have W:∀{H':Hp},(∀b∈fp,H' b=none)->∀b∈fp,kA X pins H' b:=λhn b U=>⟨hn b U,(f2 b U).2⟩
 refine codeAny_forLoop_any (λn s'=>∃i Z' H',Inv X pins Z' H' s'/\tn i s'.heap/\(∀b∈fp,H' b=none)/\W0 i n Z' H') ?_ m0 ⟨0,Z,H2,I2,q8,λb U=>(f2 b U).1,w0⟩;rintro n s3 ⟨i,Z3,H3,I3,q2,q1,w3⟩;rcases q3 i n Z3 H3 w3 with⟨stop,qn⟩|⟨go,N,hN,step⟩
 refine C2 hp (thn (T.done X rfl rfl rfl hc i pins s3 Z3 H3 X.xe I3 (W q1) q2 stop) λr s4 ⟨hr,I4⟩=>?_);subst hr;exact Ex ⟨Z3,H3,I4,qn⟩;refine C2 hp (thn (T.item X rfl rfl rfl hc i pins s3 Z3 H3 X.xe I3 (W q1) q2 go) λr s4 ⟨u,hr,h4⟩=>?_);subst hr;refine C2 hp (thn h4 λ_ s5 ⟨x,H5,I5,r5,y5,q0,q5⟩=>?_);have q4:=I5.pinned (W q5) (T.obj _ _ q0);refine C2 hp (thn (hg _ s5 Z3 H5 x u _ q4 r5 (step x H5 y5)) λ_ s6 ⟨Z6,H6,I6,q6⟩=>?_);refine C2 hp (thn (U _ s6 Z6 H6 _ I6 q6) λf s7 q7=>?_);have M:∀{L:St} {B:Hp},Inv X (pins++oQ fp s5.heap) L B s7->N L B->∃m,m<n/\∃i Z' H',Inv X pins Z' H' s7/\tn i s7.heap/\(∀b∈fp,H' b=none)/\W0 i m Z' H':=λ{L B} G n7=>by obtain⟨m',hm,w7⟩:=hN L B n7;refine⟨m',hm,i+1,L,B,G.unpinned,T.keep _ _ _ q0 λb U o e=>(G.pin (b,o) (A5 _ (A5 _ (fV U e)))).1,λb U=>?_,w7⟩;obtain⟨o,e,d⟩:=T.obj _ _ q0 b U;exact(G.pin (b,o) (A5 _ (A5 _ (fV U e)))).2.1
 cases f with
 | next=>obtain⟨L,B,G,n7⟩:=q7;exact M G n7|cont=>obtain⟨L,B,G,n7⟩:=q7;exact M G n7|brk=>obtain⟨L,B,G,q7⟩:=q7;exact⟨L,B,G.unpinned,q7⟩|ret v=>obtain⟨x7,L,B,G,r7,q7⟩:=q7;exact⟨x7,L,B,G.unpinned,r7,q7⟩
end
abbrev R2:=V->V->Hp->VK->Prop
def OpR(X:Cx)(f:Value->Value->KR Value)(r:R2):Prop:=
 ∀(pins:List (Addr×Obj)) (s:Ad) (Z:St) (H:Hp) (x y:V) (v u:Value) (Q:VK),Inv X pins Z H s->bJ x v->bJ y u->r x y H Q ->
  wpAny (A1 X.prog X.w) X.A (f v u) (EP X pins Z Q) X.xe s
def UnR(X:Cx)(f:Value->KR Value)(r:V->Hp->VK->Prop):Prop:=
 ∀(pins:List (Addr×Obj)) (s:Ad) (Z:St) (H:Hp) (x:V) (v:Value) (Q:VK),Inv X pins Z H s->bJ x v->r x H Q ->
  wpAny (A1 X.prog X.w) X.A (f v) (EP X pins Z Q) X.xe s
def eP(X:Cx)(f:Value)(r:List V->Hp->VK->Prop):Prop:=
 ∀(pins:List (Addr×Obj)) (s:Ad) (Z:St) (H:Hp) (xs:List V) (us:List Value) (Q:VK),Inv X pins Z H s->aS xs us->r xs H Q ->
  wpAny (A1 X.prog X.w) X.A (call f us) (EP X pins Z Q) X.xe s
def aOE(X:Cx)(r:V->Hp->(Bool->Hp->Prop)->Prop):Prop:=
 ∀(pins:List (Addr×Obj)) (s:Ad) (Z:St) (H:Hp) (x:V) (v:Value) (Q:Bool->Hp->Prop),Inv X pins Z H s->bJ x v->r x H Q ->
  wpAny (A1 X.prog X.w) X.A (truthy v) (TP X pins Z Q) X.xe s
def tOp(r:R2)(ta tb:TE):TE:=λZ H Q=>ta Z H λx H1=>tb Z H1 λy H2=>r x y H2 Q
def tUn(r:V->Hp->VK->Prop)(ta:TE):TE:=λZ H Q=>ta Z H λx H1=>r x H1 Q
def rI(C:Int->Int->Prop)(g:Int->Int->V):R2:=λx y H Q=>∃i j,x=.int i/\y=.int j/\C i j/\Q (g i j) H
def rI0(g:Int->Int->V):R2:=λx y H Q=>∃i j,x=.int i/\y=.int j/\Q (g i j) H
def rU(g:Int->V):V->Hp->VK->Prop:=λx H Q=>∃i,x=.int i/\Q (g i) H
section
variable {X:Cx} {a b c:A2} {ta tb tc:TE} {pos:EJ}
theorem aLp(W:PE X a ta)(hb:PE X b tb){R:V->V->Hp->Prop}(I:Inv X pins Z H s)
 (h:ta Z H λx H1=>tb Z H1 λy B=>R x y B) {Q:Value->Ad->Prop} {f:Value->Value->KR Value}
 (hf:∀v u s2 x y B,Inv X pins Z B s2->bJ x v->bJ y u->R x y B->wpAny (A1 X.prog X.w) X.A (f v u) Q X.xe s2) :
 wpAny (A1 X.prog X.w) X.A (Dn a X.env) (λv G=>wpAny (A1 X.prog X.w) X.A (Dn b X.env) (λu L=>wpAny (A1 X.prog X.w) X.A (f v u) Q X.xe L) X.xe G) X.xe s:=by refine thn (W pins s Z H _ I h) λv s1 ⟨x,H1,M,r1,q1⟩=>?_;refine thn (hb pins s1 Z H1 _ M q1) λu s2 ⟨y,B,U,r2,q2⟩=>?_;exact hf v u s2 x y B U r1 r2 q2
theorem aLq{r:V->Hp->VK->Prop}(L:UnR X (unaryOp op) r)(G:PE X a ta):PE X (.UnaryOp op a pos) (tUn r ta):=by intro pins s Z H Q I h;exact UnaryOp_ (thn (G pins s Z H _ I h) λv s1 ⟨x,H1,B,r1,M⟩=>L pins s1 Z H1 x v Q B r1 M)
theorem opI{f:Value->Value->KR Value}{C:Int->Int->Prop}{g:Int->Int->Int}
 (B:∀(i j:Int) (t u:Tok) (s:Ad) (Q:Value->Ad->Prop) (E:Value->Ad->Prop),C i j->Q (.int (g i j) s.toks) { s with toks:=s.toks+1 }->wpAny (A1 X.prog X.w) X.A (f (.int i t) (.int j u)) Q E s) :
 OpR X f (rI C λi j=>.int (g i j)):=by intro pins s Z H x y v u Q I L M h;obtain⟨i,j,rfl,rfl,G,q⟩:=h;obtain⟨t,rfl⟩:=L;obtain⟨t',rfl⟩:=M;exact B i j t t' s _ _ G ⟨.int (g i j),H,I.tok _,⟨_,rfl⟩,q⟩
theorem aLr{f:Value->Value->KR Value}{g:Int->Int->Int}
 (B:∀(i j:Int) (t u:Tok) (s:Ad) (Q:Value->Ad->Prop) (E:Value->Ad->Prop),Q (.int (g i j) s.toks) { s with toks:=s.toks+1 }->wpAny (A1 X.prog X.w) X.A (f (.int i t) (.int j u)) Q E s) :
 OpR X f (rI0 λi j=>.int (g i j)):=by intro pins s Z H x y v u Q I G L h;obtain⟨i,j,rfl,rfl,q⟩:=h;obtain⟨t,rfl⟩:=G;obtain⟨t',rfl⟩:=L;exact B i j t t' s _ _ ⟨.int (g i j),H,I.tok _,⟨_,rfl⟩,q⟩
theorem aFG{f:Value->Value->KR Value}{g:Int->Int->Bool}
 (B:∀(i j:Int) (t u:Tok) (s:Ad) (Q:Value->Ad->Prop) (E:Value->Ad->Prop),Q (.bool (g i j)) s->wpAny (A1 X.prog X.w) X.A (f (.int i t) (.int j u)) Q E s) :
 OpR X f (rI0 λi j=>.bl (g i j)):=by intro pins s Z H x y v u Q I G L h;obtain⟨i,j,rfl,rfl,q⟩:=h;obtain⟨t,rfl⟩:=G;obtain⟨t',rfl⟩:=L;exact B i j t t' s _ _ ⟨.bl (g i j),H,I,rfl,q⟩
def aOF(i j:Int):Prop:=0<j/\j<1073741824
def aOG(i j:Int):Prop:=0<=j/\j<=1000000/\i.natAbs<2 ^ 64
def aIt(i j:Int):Prop:=(-(2 ^ 64)<i/\i<2 ^ 64)\/(-(2 ^ 64)<j/\j<2 ^ 64)
theorem aIt.ok(h:aIt i j):IntMulOk i j:=by
 rcases h with⟨B,G⟩|⟨B,G⟩
 exact .of_left (Jw B G);exact .of_right (Jw B G)
theorem aIu:OpR X (CN .Add) (rI0 λi j=>.int (i+j)):=aLr λ_ _ _ _ _ _ _ q=>add_int q
theorem aIv:OpR X (CN .Sub) (rI0 λi j=>.int (i-j)):=aLr λ_ _ _ _ _ _ _ q=>sub_int q
theorem aIw:OpR X (CN .Mult) (rI aIt λi j=>.int (i*j)):=opI λ_ _ _ _ _ _ _ B q=>mul_int q B.ok
theorem aFH:OpR X (CN .FloorDiv) (rI aOF λi j=>.int (i / j)):=opI λi j _ _ _ _ _ B q=>by have G:(0:Int)<j:=B.1;have I:j<1073741824:=B.2;exact floordiv_int (by omega) (by rw[Int.fdiv_eq_ediv_of_nonneg i (by omega)];exact q) (.inl (PyProof.noPylong_small (by omega)))
theorem aIx:OpR X (CN .Mod) (rI (λ_ j=>0<j) λi j=>.int (i % j)):=opI λi j _ _ _ _ _ B q=>by have G:(0:Int)<j:=B;exact mod_int' (by omega) (by rw[Int.fmod_eq_emod_of_nonneg i (by omega)];exact q)
theorem aIy:OpR X (CN .Pow) (rI aOG λi j=>.int (i ^ j.toNat)):=opI λ_ _ _ _ _ _ _ B q=>pow_int_small B.1 B.2.1 B.2.2 q
theorem unI{f:Value->KR Value}{g:Int->Int}
 (B:∀(i:Int) (t:Tok) (s:Ad) (Q:Value->Ad->Prop) (E:Value->Ad->Prop),Q (.int (g i) s.toks) { s with toks:=s.toks+1 }->wpAny (A1 X.prog X.w) X.A (f (.int i t)) Q E s) :
 UnR X f (rU λi=>.int (g i)):=by intro pins s Z H x v Q I G h;obtain⟨i,rfl,q⟩:=h;obtain⟨t,rfl⟩:=G;exact B i t s _ _ ⟨.int (g i),H,I.tok _,⟨_,rfl⟩,q⟩
theorem aIz:UnR X (unaryOp .USub) (rU λi=>.int (-i)):=unI λ_ _ _ _ _ q=>neg_int q
theorem yY(I:Inv X pins Z H s)(q:Q (.bl k) H)(e:k=k'):EP X pins Z Q (.bool k') s:=by subst e;exact⟨.bl k,H,I,rfl,q⟩
theorem aLs:OpR X (BR .Lt) (rI0 λi j=>.bl (decide (i<j))):=aFG λ_ _ _ _ _ _ _ q=>lt_int q
theorem aLt:OpR X (BR .LtE) (rI0 λi j=>.bl (decide (i<=j))):=aFG λ_ _ _ _ _ _ _ q=>le_int q
theorem aLu:OpR X (BR .Gt) (rI0 λi j=>.bl (decide (j<i))):=aFG λ_ _ _ _ _ _ _ q=>gt_int q
theorem aLv:OpR X (BR .GtE) (rI0 λi j=>.bl (decide (j<=i))):=aFG λ_ _ _ _ _ _ _ q=>ge_int q
theorem aBT:OpR X (BR .In) (λx y H Q=>∃i j,x=.str i/\y=.str j/\Q (.bl (!(CO j i 0 j.length 1).isEmpty)) H):=by intro pins s Z H x y v u Q I B G h;obtain⟨i,j,rfl,rfl,q⟩:=h;obtain⟨t,rfl⟩:=B;obtain⟨t',rfl⟩:=G;exact in_str (yY I q rfl)
theorem aIA:OpR X (BR .Is) (λx y H Q=>y=.non/\Q (.bl (decide (x=.non))) H):=by
 intro pins s Z H x y v u Q I B G h;obtain⟨rfl,q⟩:=h;cases G;refine is_none_gen (yY I q ?_);cases x <;> first
  | (cases B;rfl)
  | (obtain⟨t,rfl⟩:=B;rfl)
theorem aFI:OpR X (BR .IsNot) (λx y H Q=>y=.non/\Q (.bl (!decide (x=.non))) H):=by
 intro pins s Z H x y v u Q I B G h;obtain⟨rfl,q⟩:=h;cases G;refine isnot_none_gen (yY I q ?_);cases x <;> first
  | (cases B;rfl)
  | (obtain⟨t,rfl⟩:=B;rfl)
theorem aFJ(W:OpR X (BR op) r)(L:PE X a ta)(M:PE X b tb)(U:GI op b=false):PE X (.Compare a [op] [b] pos) (tOp r ta tb):=by intro pins s Z H Q I h;exact wpAny_Compare1 (aLp L M I h λv u s2 x y B G rx ry q=>W pins s2 Z B x y v u Q G rx ry q) U
def aHB(t:TE):TT:=λZ H Q=>t Z H λx H'=>∃k,x=.bl k/\Q k H'
theorem aAD(ho:OpR X (BR op) r)(W:PE X a ta)(hb:PE X b tb)(hm:GI op b=false):PT X (.Compare a [op] [b] pos) (aHB (tOp r ta tb)):=by
 intro pins s Z H Q I h;refine wpAny_isTrue_Compare1 (thn (W pins s Z H _ I h) λv s1 ⟨x,H1,L,r1,q1⟩=>thn (hb pins s1 Z H1 _ L q1) λu s2 ⟨y,B,M,r2,q2⟩=>
  thn (ho pins s2 Z B x y v u _ M r1 r2 q2) λc s3 ⟨z,G,U,r3,k,e,q3⟩=>?_) hm
 subst e;cases r3;exact Ca ⟨G,U,q3⟩
def aDe(r r':R2)(ta tb tc:TE):TE:=λZ H Q=>ta Z H λx H1=>tb Z H1 λy H2=>r x y H2 λz H3=>∃k,z=.bl k /\
 (if k=true then tc Z H3 λw' H4=>r' y w' H4 Q else Q (.bl false) H3)
theorem aDf(ho:OpR X (BR op) r)(B:OpR X (BR op') r')(ha:PE X a ta)(hb:PE X b tb)(hc:PE X c tc)
 (hm:JF [op,op'] [b,c]=false:=by with_unfolding_all rfl):PE X (.Compare a [op,op'] [b,c] pos) (aDe r r' ta tb tc):=by
 intro pins s Z H Q I h;refine Compare_chain (thn (ha pins s Z H _ I h) λv s1 ⟨x,H1,I1,r1,q1⟩=>chain_link (thn (hb pins s1 Z H1 _ I1 q1) λu s2 ⟨y,W,I2,U,q2⟩=>
  thn (ho pins s2 Z W x y v u _ I2 r1 U q2) λd s3 ⟨z,G,L,r3,k,e,M⟩=>?_)) hm
 subst e;cases r3;refine Ca ?_;cases k with
 | false=>exact ite_ff ⟨.bl false,G,L,rfl,M⟩|true=>exact ite_tt (chain_last (thn (hc pins s3 Z G _ L M) λw' s4 ⟨z',H4,I4,r4,q4⟩=>B pins s4 Z H4 y z' u w' Q I4 U r4 q4))
theorem aDg(ho:OpR X (BR op) r)(B:OpR X (BR op') r')(ha:PE X a ta)(hb:PE X b tb)(hc:PE X c tc)
 (hm:JF [op,op'] [b,c]=false:=by with_unfolding_all rfl):PT X (.Compare a [op,op'] [b,c] pos) (aHB (aDe r r' ta tb tc)):=by
 intro pins s Z H Q I h;refine isTrue_chain (thn (ha pins s Z H _ I h) λv s1 ⟨x,H1,I1,r1,q1⟩=>test_link (thn (hb pins s1 Z H1 _ I1 q1) λu s2 ⟨y,W,I2,U,q2⟩=>
  thn (ho pins s2 Z W x y v u _ I2 r1 U q2) λd s3 ⟨z,G,L,r3,k,e,M⟩=>?_)) hm
 subst e;cases r3;refine Ca ?_;cases k with
 | false=>obtain⟨k',e',q'⟩:=M;cases e';exact ite_ff ⟨G,L,q'⟩|true=>refine ite_tt (test_last (thn (hc pins s3 Z G _ L M) λw' s4 ⟨z',H4,I4,r4,q4⟩=>thn (B pins s4 Z H4 y z' u w' _ I4 U r4 q4) λd' s5 ⟨z2,H5,I5,r5,k2,e2,q5⟩=>?_));subst e2;cases r5;exact Ca ⟨H5,I5,q5⟩
def aFK(K:Aq)(x:V)(H:Hp)(k:Bool):Prop:=
 match x with
 | .non=>k=false|.bl b=>k=b|.int i=>k=(i != 0)
 | .str y=>y.length<=sizeLine/\k=((y.length:Int) != 0)
 | .byt y=>y.size<=sizeLine/\k=((y.size:Int) != 0)
 | .ref p=>(∃xs,SqL K H p xs/\k=!xs.isEmpty)\/(∃xs,SqT K H p xs/\k=!xs.isEmpty)\/∃kvs,H p=some (.dK kvs)/\k=!kvs.isEmpty|_=>False
theorem yZ{κ:Type}{kvs:List (κ×V)}{vs:List (κ×Value)}(r:KV kvs vs):(!vs.isEmpty)=!kvs.isEmpty:=by cases r <;> rfl
theorem oR{xs:List V}{its:List Value}(r:aS xs its):(!its.toArray.isEmpty)=!xs.isEmpty:=by cases r <;> simp
theorem jL:(sizeLine:Nat)<2 ^ 63:=by rw[Bf];decide
theorem aDh:aOE X (λx H Q=>∃k,aFK X.K x H k/\Q k H):=by
 intro pins s Z H x v Q I L h;obtain⟨k,e,q⟩:=h;have hl:=jL;have hs:sizeLine=16777216:=Bf;cases x with
 | non=>cases L;have B:k=false:=e;subst B;exact truthy_none ⟨H,I,q⟩|bl b=>cases L;have B:k=b:=e;subst B;exact Ca ⟨H,I,q⟩|int i=>obtain⟨t,rfl⟩:=L;have B:k=(i != 0):=e;subst B;exact PySem.P.truthy_int ⟨H,I,q⟩|str y=>obtain⟨t,rfl⟩:=L;obtain⟨W,B⟩:y.length<=sizeLine/\k=((y.length:Int) != 0):=e;subst B;exact PySem.P.truthy_str (by omega) ⟨H,I.tok _,q⟩|byt y=>obtain⟨t,rfl⟩:=L;obtain⟨W,B⟩:y.size<=sizeLine/\k=((y.size:Int) != 0):=e;subst B;exact PySem.W.truthy_bytes (by omega) ⟨H,I.tok _,q⟩|ref p=>
  cases L;have B:(∃xs,SqL X.K H p xs/\k=!xs.isEmpty)\/(∃xs,SqT X.K H p xs/\k=!xs.isEmpty)\/∃kvs,H p=some (.dK kvs)/\k=!kvs.isEmpty:=e;rcases B with⟨xs,M,B⟩|⟨xs,M,B⟩|⟨kvs,M,B⟩
  subst B;obtain⟨its,r,pl,hz⟩:=I.list M;have G:=r.length;exact wpAny_truthy_list pl.isList (by simp only[Aj];omega) ⟨H,I.tok _,by rw[oR r];exact q⟩;subst B;obtain⟨its,r,pl,hz⟩:=I.tuple M;have G:=r.length;exact truthy_tuple pl (by simp only[Aj];omega) ⟨H,I.tok _,by rw[oR r];exact q⟩;subst B;obtain⟨hz,U,vs,r,m⟩:kvs.length<=sizeLine/\(p==CB)=false/\∃vs,KV kvs vs/\s.heap.DictOf (fU X.prog X.w) p vs:=I.hok p _ M;have G:kvs.length=vs.length:=Jv r;exact wpAny_truthy_dict U m (by omega) ⟨H,I.tok _,by rw[yZ r];exact q⟩
 | _=>exact(show False from e).elim
theorem aDi(L:PE X a ta)(M:∀B,isTrue a X.env B=(do let v<-B;KG a.pos;Ff [v] (truthy v))) :
 PT X a (λZ H Q=>ta Z H λx H'=>∃k,aFK X.K x H' k/\Q k H'):=by intro pins s Z H Q I h;exact isTrue_plain (thn (L pins s Z H _ I h) λv s1 ⟨x,H1,G,r1,U⟩=>aDh pins s1 Z H1 x v Q G r1 U) (M _)
theorem zA:OpR X (CN .Add) (λx y H Q=>∃i j,x=.str i/\y=.str j/\i.length+j.length<=sizeLine/\Q (.str (i++j)) H):=by intro pins s Z H x y v u Q I B G h;obtain⟨i,j,rfl,rfl,hz,q⟩:=h;obtain⟨t,rfl⟩:=B;obtain⟨t',rfl⟩:=G;exact add_str (λt' tk=>⟨.str (i++j),H,I.tok _,⟨_,rfl⟩,q⟩) hz
theorem nD(r:aS [x] us):∃u,us=[u]/\bJ x u:=by
 cases r with
 | cons r1 B=>cases B;exact⟨_,rfl,r1⟩
theorem aLw(r:aS [x,y] us):∃u B,us=[u,B]/\bJ x u/\bJ y B:=by
 cases r with
 | cons r1 G=>
  cases G with
  | cons I L=>cases L;exact⟨_,_,rfl,r1,I⟩
theorem aBU(G:X.calm=true):eP X (.builtin "min") (λxs H Q=>∃i j,xs=[.int i,.int j]/\Q (.int (if j<i then j else i)) H):=by
 intro pins s Z H xs us Q I r h;obtain⟨i,j,rfl,q⟩:=h;obtain⟨u,L,rfl,⟨t,rfl⟩,⟨t',rfl⟩⟩:=aLw r;refine min_two_ints (I.ok.hd G) λh' tk k=>⟨_,H,I.kept k,?_,q⟩
 by_cases B:j<i;rw[if_pos B,if_pos B];exact⟨_,rfl⟩;rw[if_neg B,if_neg B];exact⟨_,rfl⟩
theorem aBV:eP X (.type "int") (λxs H Q=>(∃i,xs=[.int i]/\Q (.int i) H)\/∃k,xs=[.bl k]/\Q (.int (if k then 1 else 0)) H):=by
 intro pins s Z H xs us Q I r h;rcases h with⟨i,rfl,q⟩|⟨k,rfl,q⟩
 obtain⟨u,rfl,t,rfl⟩:=nD r;exact call_int_int ⟨.int i,H,I,⟨_,rfl⟩,q⟩;obtain⟨u,rfl,r1⟩:=nD r;cases r1;exact call_int_bool ⟨.int (if k then 1 else 0),H,I.tok _,⟨_,rfl⟩,q⟩
end
noncomputable def putF(f:Str)(v:V):List (Str×V)->List (Str×V)
 | []=>[(f,v)]
 | (g,x)::r=>if g=f then (g,v)::r else (g,x)::putF f v r
structure jM (k:Nat) (A:Bh):Prop where
 hd:A.handled=none
 gd:A.guards=some []
 dp:A.depth+3*k+5<IR
 un:A.units+16*k+200<C5
theorem jM.deeper{A:Bh}(r:jM (k+1) A)(env:Ke):jM k (A.deeper env):=
 ⟨r.hd,r.gd,by have:=r.dp;show A.depth+1+3*k+5<_;omega,by have:=r.un;show A.units+3+16*k+200<_;omega⟩
theorem jM.depth{A:Bh}(r:jM k A):A.depth<IR:=by have:=r.dp;omega
def aLx:TA:=λ_ H Q=>Q [] H
def aLy(ta:TE)(tr:TA):TA:=λZ H Q=>ta Z H λx H1=>tr Z H1 λxs H2=>Q (x::xs) H2
section
variable {X:Cx} {e:A2} {es:List A2} {te:TE} {t:TA} {pos:EJ}
theorem eQ:PA X [] aLx:=λ_ _ _ _ H Q I h=>DU ⟨[],H,I,.nil,h⟩
theorem cI(M:PE X e te)(U:PA X es t)(hs:AT (e::es) X.env=(false,Dn e X.env)::AT es X.env:=by rfl):PA X (e::es) (aLy te t):=by intro pos pins s Z H Q I h;rw[hs];show wpAny _ _ (Hr ((false,Dn e X.env)::D7 pos (AT es X.env))) _ _ s;refine Dc (thn (M pins s Z H _ I h) λu s1 ⟨x,H1,G,r1,W⟩=>?_);exact thn (U pos pins s1 Z H1 _ G W) λus s2 ⟨xs,B,L,r2,q2⟩=>⟨x::xs,B,L,.cons r1 r2,q2⟩
def aOH(t:TA):TE:=λZ H Q=>t Z H λxs H1=>xs.length<=sizeLine/\∀p,H1 p=none->Q (.ref p) (upd H1 p (.tup xs))
def aOI(t:TA):TE:=λZ H Q=>t Z H λxs H1=>xs.length<=sizeLine/\∀p,H1 p=none->Q (.ref p) (upd H1 p (.lst xs))
theorem aDj{x1}(h:PA X es t):PE X (.Tuple es x1 pos) (aOH t):=by intro pins s Z H Q I L;refine wpAny_Tuple_spliced (thn (h pos pins s Z H _ I L) λus s1 ⟨xs,H1,B,r,z,q⟩=>⟨by rw[<-r.length];exact z,?_⟩);have G:H1 s1.heap.objs.size=none:=B.hok.fresh (Ak _);refine⟨.ref s1.heap.objs.size,upd H1 s1.heap.objs.size (.tup xs),B.laid (t':=s1.toks) (λb u e=>Ab _ e) (Ak _) ?_,rfl,q _ G⟩;exact⟨z,us,r,⟨_,Al _ rfl,rfl,_,rfl⟩⟩
theorem aIB(h:PA X es t):PE X (.List es pos) (aOI t):=by intro pins s Z H Q I L;refine wpAny_List_spliced (thn (h pos pins s Z H _ I L) λus s1 ⟨xs,H1,B,r,z,q⟩=>⟨by rw[<-r.length];exact z,?_⟩);have G:H1 s1.heap.objs.size=none:=B.hok.fresh (Ak _);refine⟨.ref s1.heap.objs.size,upd H1 s1.heap.objs.size (.lst xs),B.laid (t':=s1.toks) (λb u e=>Ab _ e) (Ak _) ?_,rfl,q _ G⟩;exact⟨z,us,0,r,Al _ rfl⟩
end
abbrev Sp:=List V->Hp->VK->XK->Prop
abbrev CXT:=List Ke->Hp->Ad->XK->Value->Ad->Prop
structure aFL (P:A3) (w:AG) (K:Aq) (mg:Str->Option Value) (base:Heap) (A:Bh) (outer:List Ke) (s:Ad) (H:Hp):Prop where
 frames:A.frames=some outer
 mod:Mod K mg base
 bs:∀b o,base.get? b=some o->s.heap.get? b=some o/\H b=none
 bsz:base.objs.size<=s.heap.objs.size
 funs:s.heap.FunFrames base outer
 frf:∀b∈frs outer,H b=none
 hok:HOk P w H s.heap
 bare:Fe s.gens
def CE(outer:List Ke)(P:A3)(w:AG)(H:Hp)(s:Ad)(Q:VK)(u:Value)(s':Ad):Prop:=
 ∃v H',s'.os=s.os/\Fe s'.gens/\Un (frs outer) [] H H' s.heap s'.heap/\HOk P w H' s'.heap/\bJ v u/\Q v H'
def CR(CX:CXT)(outer:List Ke)(P:A3)(w:AG)(H:Hp)(s:Ad)(Q:VK)(E:XK)(r:GX)(s':Ad):Prop:=
 match r with
 | .ok (.ret u)=>CE outer P w H s Q u s'|.ok _=>False|.error e=>CX outer H s E e s'
structure nT (P:A3) (w:AG) (K:Aq) (mg:Str->Option Value) (base:Heap) (CX:CXT) (k:Nat) (f:Addr) (fd:Et) (ps:List Str) (sp:Sp):Prop where
 len:∀vs H Q E,sp vs H Q E->vs.length=ps.length
 run:∀(A:Bh) (outer:List Ke) (s:Ad) (H:Hp) (args:Args) (us:List Value) (vs:List V) (Q:VK) (E:XK),jM k A->aFL P w K mg base A outer s H->JM s fd args (ps.zip us)->aS vs us->sp vs H Q E ->
  Eo (A1 P w) A (.call (.ref f) args) (CR CX outer P w H s Q E) s
section
variable {X:Cx} {pins:List (Addr×Obj)} {Z:St} {H:Hp} {s s':Ad}
theorem Inv.env0(I:Inv X pins Z H s):aFL X.prog X.w X.K X.mg X.base X.A X.stack s H:=
 ⟨I.ok.frames,I.ok.mod,I.bs,AI I.ok.bsz I.sz,I.stack,I.stkFree,I.hok,I.bare⟩
theorem Inv.after(I:Inv X pins Z H s)(h:CE X.stack X.prog X.w H s Q u s'):EP X pins Z Q u s':=by obtain⟨v,H',os,bare,un,hok,r,q⟩:=h;obtain⟨G,g,d,t,B⟩:=s';obtain rfl:B=s.os:=os;exact⟨v,H',I.call (h':=G) (g':=g) (d':=d) (t':=t) (ch:=[]) un hok bare (λb z=>absurd z (by simp)),r,q⟩
end
def aHC(sp:Sp)(dvs:List V)(E:XK)(t:TA):TE:=λZ H Q=>t Z H λvs H1=>sp (vs++dvs) H1 Q E
def jG(K:Aq)(fd:Et)(ps:List Str)(ds:List Value):Prop:=
 ∀(s:Ad) (us:List Value),K.In s.heap->(us++ds).length=ps.length->JM s fd ⟨us,[]⟩ (ps.zip (us++ds))
theorem jG.all{K:Aq}{fd:Et}{ps:List Str}(h:∀us:List Value,us.length=ps.length->IS fd ⟨us,[]⟩=pure (ps.zip us)):jG K fd ps []:=λs us _ B=>by rw[AH] at B ⊢;exact .of_eq (h us B)
def tN(CX:CXT)(X:Cx)(E:XK):Prop:=∀(pins:List (Addr×Obj)) (Z:St) (H:Hp) (s:Ad) (e:Value) (s':Ad),Inv X pins Z H s->CX X.stack H s E e s'->X.xe e s'
section
variable {X:Cx} {CX:CXT} {k:Nat} {f C:Addr} {fd:Et} {ps:List Str} {sp:Sp} {dvs:List V} {ds:List Value} {E:XK} {x m:Str} {p pos apos:EJ} {e o:A2} {es:List A2} {ta:TE} {t:TA}
theorem aDk(F:nT X.prog X.w X.K X.mg X.base CX k f fd ps sp)(W:jM k X.A)(M:jG X.K fd ps ds)(hd:aS dvs ds)(hx:tN CX X E)
 (I:Inv X pins Z H s) (r:aS vs us) (h:sp (vs++dvs) H Q E):wpAny (A1 X.prog X.w) X.A (call (.ref f) us) (EP X pins Z Q) X.xe s:=by
 have G:aS (vs++dvs) (us++ds):=r.append hd;have U:(us++ds).length=ps.length:=by rw[<-G.length];exact F.len _ _ _ _ h
 refine wpAny_call (EA (F.run X.A X.stack s H ⟨us,[]⟩ (us++ds) (vs++dvs) Q E W I.env0 (M s us I.kIn U) G h) λr s' B=>?_);cases r with
 | error e=>exact hx pins Z H s e s' I B|ok L=>
  cases L with
  | ret u=>exact I.after B|next=>exact BL B|brk=>exact BL B|cont=>exact BL B
theorem kB(F:nT X.prog X.w X.K X.mg X.base CX k f fd ps sp)(hr:jM k X.A)(hg:Gl X x)(hm:X.mg x=some (.ref f))(hk:CQ X.K (.ref f)=true)(U:jG X.K fd ps ds)(hd:aS dvs ds)(hx:tN CX X E)
 (M:PA X (e::es) t) (B:(x==("__debug__" : Str))=false:=by decide) (W:AT (e::es) X.env=(false,Dn e X.env)::AT es X.env:=by rfl) (G:(D7 pos (AT es X.env)).any (·.1)=false:=by rfl) :
 PE X (.Call (.Name x p) (e::es) [] pos) (aHC sp dvs E t):=by intro pins s Z H Q I h;refine BG (tL I hg hm ?_ B);refine PySem.W.callWith_K (h₀:=X.base) I.ok.mod.kin hk (thn (M pos pins s Z H _ I h) λus s1 ⟨vs,H1,L,r,q⟩=>⟨L.kIn,?_⟩) W G;exact aDk F hr U hd hx L r q
theorem aDl(F:nT X.prog X.w X.K X.mg X.base CX k f fd ps sp)(W:jM k X.A)(L:Gl X x)(U:X.mg x=some (.ref f))(M:CQ X.K (.ref f)=true)(G:jG X.K fd ps ds)(hd:aS dvs ds)(hx:tN CX X E)
 (B:(x==("__debug__" : Str))=false:=by decide):PE X (.Call (.Name x p) [] [] pos) (aHC sp dvs E aLx):=by intro pins s Z H Q I h;refine BG (tL I L U ?_ B);exact PySem.W.callWith_K0 I.kIn M (aDk (us:=[]) F W G hd hx I .nil h)
end
structure nY (N P:List Str) (sc:Dp):Prop where
 kind:sc.kind=.function
 co:sc.isCoroutine=false
 gen:sc.isGenerator=false
 nd:N.Nodup
 pre:N.take P.length=P
 par:∀x∈P,sc.names.lookup x=some .local\/sc.names.lookup x=some .cell
 nofree:∀y∈sc.names,y.2≠.free
theorem rL{kindOf:Str->Option Ck}:∀{binds:List (Str×Value)} {m:Str->Option Value},(∀v,(x,v)∉binds)->IT kindOf binds m x=m x
 | [],_,_=>rfl|(n,v)::r,m,h=>by
  unfold IT;rw[rL λw B=>h w (Ag _ B)];split;have:x≠n:=by rintro rfl;exact h v Ai
  simp[this];rfl
theorem rM{kindOf:Str->Option Ck}:∀{binds:List (Str×Value)} {m:Str->Option Value},(∀v,(x,v)∉binds)->IU kindOf binds m x=m x
 | [],_,_=>rfl|(n,v)::r,m,h=>by
  unfold IU;rw[rM λw B=>h w (Ag _ B)];split;rfl;have:x≠n:=by rintro rfl;exact h v Ai
  simp[this]
theorem rN{kindOf:Str->Option Ck}:∀{P:List Str} {vs:List Value} {i:Nat} {m:Str->Option Value},P.Nodup->P[i]? = some x->vs[i]? = some v->kindOf x=some .local ->
 IT kindOf (P.zip vs) m x=some v
 | [],_,_,_,_,h,_,_=>by simp at h|_::_,[],_,_,_,_,h,_=>by simp at h|p::P,w::vs,0,m,nd,h1,h2,hk=>by simp at h1 h2;subst h1;subst h2;show IT kindOf ((p,w)::P.zip vs) m p=_;unfold IT;rw[rL λv B=>(AZ.mp nd).1 (Ez B).1,if_pos hk];simp|p::P,w::vs,i+1,m,nd,h1,h2,hk=>by show IT kindOf ((p,w)::P.zip vs) m x=_;unfold IT;exact rN (i:=i) (AZ.mp nd).2 (by simpa using h1) (by simpa using h2) hk
theorem rO{kindOf:Str->Option Ck}:∀{P:List Str} {vs:List Value} {i:Nat} {m:Str->Option Value},P.Nodup->P[i]? = some x->vs[i]? = some v->kindOf x≠some .local ->
 IU kindOf (P.zip vs) m x=some v
 | [],_,_,_,_,h,_,_=>by simp at h|_::_,[],_,_,_,_,h,_=>by simp at h|p::P,w::vs,0,m,nd,h1,h2,hk=>by simp at h1 h2;subst h1;subst h2;show IU kindOf ((p,w)::P.zip vs) m p=_;unfold IU;rw[rM λv B=>(AZ.mp nd).1 (Ez B).1,if_neg hk];simp|p::P,w::vs,i+1,m,nd,h1,h2,hk=>by show IU kindOf ((p,w)::P.zip vs) m x=_;unfold IU;exact rO (i:=i) (AZ.mp nd).2 (by simpa using h1) (by simpa using h2) hk
def start(N:List Str)(vs:List V):St:=vs.map some++Ae (N.length-vs.length) none
noncomputable def zB(CX:CXT)(P:A3)(w:AG)(K:Aq)(mg:Str->Option Value)(base:Heap)(N:List Str)(qual:Str)(scope:Dp)(f:Addr)(cd:Value)(A:Bh)(outer:List Ke)(s:Ad)(H:Hp)(E:XK):Cx where
 prog:=P
 w:=w
 K:=K
 mg:=mg
 base:=base
 A:=A.deeper (Gi qual scope s.heap.objs.size f cd)
 N:=N
 s₀:=s
 H₀:=H
 env:=Gi qual scope s.heap.objs.size f cd
 outer:=outer
 stack:=Gi qual scope s.heap.objs.size f cd::outer
 ex:=[]
 calm:=true
 fn:=λ_=>true
 pn:=[]
 xe:=λe s'=>wpAny (A1 P w) (A.deeper (Gi qual scope s.heap.objs.size f cd)) (leaving (Gi qual scope s.heap.objs.size f cd) e) (λ_ s''=>CX outer H s E e s'') (λe' s''=>CX outer H s E e' s'') s'
theorem wC{sc:Dp}(h:sc.names.lookup x=some .cell):∃c,(JG n sc.names []).lookup x=some c:=by have q:=FB sc.names n [] (.inl h);exact DD.mp q
theorem aBW{CX:CXT}{P:A3}{w:AG}{K:Aq}{mg:Str->Option Value}{base:Heap}{N ps:List Str}{qual:Str}{scope:Dp}{f:Addr}{W:Value}{A:Bh}{outer:List Ke}{s s1:Ad}{H:Hp}{E:XK}{us:List Value}{vs:List V}
 (S:nY N ps scope) (hd:A.handled=none) (G:aFL P w K mg base A outer s H) (hl:vs.length=ps.length) (r:aS vs us)
 (x:InCallC s s.heap.objs.size (IT (Gi qual scope s.heap.objs.size f W).kindOf (ps.zip us) λ_=>none) (JG (s.heap.objs.size+1) scope.names []) (IU (Gi qual scope s.heap.objs.size f W).kindOf (ps.zip us) λ_=>none) s1) :
 Inv (zB CX P w K mg base N qual scope f W A outer s H E) [] (start N vs) H s1:=by
 have q0:ps.length<=N.length:=by have:=congrArg Ik S.pre;rw[Bl] at this;omega
 obtain⟨h1,tk,rfl,hk⟩:=x.done;have L:∀b:Addr,b∉(zB CX P w K mg base N qual scope f W A outer s H E).ex:=λb z=>absurd (show b∈([]:List Addr) from z) (by simp);refine⟨⟨G.mod,S.kind,rfl,rfl,Ak _,λy z c h1 B=>?_,λy I=>?_,λy c _ h=>?_,λ_=>hd,Around.frames_deeper G.frames,.inr ⟨rfl,rfl⟩,λb z=>absurd z (L b),G.bs,G.bsz,λb _ _=>L b,λb z=>absurd z (L b),G.funs,G.frf⟩,
  rfl,G.bare,Un.kept hk,⟨_,x.toInCall.ns,λi y v h1 B h3=>?_⟩,λy c h=>⟨_,x.cell y c h⟩,G.hok.fresh (Ak _),λy c h=>?_,λp M=>absurd (show p∈([]:List (Addr×Obj)) from M) (by simp),G.hok.kept hk,?_⟩
 exact name_of_addr x.apart (B6 h1) (B6 B);have I:scope.names.lookup y=some .cell\/scope.names.lookup y=some .free:=I;rcases I with I|I;exact wC I;exact absurd rfl (S.nofree _ (B6 I));exact Dy (x.above y c (B6 h));have hi:i<vs.length:=by unfold start at B;by_cases hi:i<vs.length;exact hi;rw[Az (by simpa using hi)] at B;rw[Cc] at B;split at B <;> cases B
 have ha:vs[i]? = some v:=by
  unfold start at B;rw[A4 (by simpa using hi),Ar] at B;cases e:vs[i]? with
  | none=>rw[e] at B;cases B|some a=>rw[e] at B;cases B;rfl
 obtain⟨u,hu,rv⟩:=r.get ha;have M:ps[i]? = some y:=by rw[<-S.pre,CF (by omega)];exact h1
 have U:ps.Nodup:=by rw[<-S.pre];exact S.nd.sublist (Hu _ _)
 refine⟨u,rv,?_⟩;rcases S.par y (List.mem_of_getElem? M) with k|k;exact .inl ⟨k,rN U M hu k⟩;obtain⟨c,e⟩:=wC (n:=s.heap.objs.size+1) k;refine .inr ⟨.inl k,c,e,?_⟩;have q:=x.cell y c e;rw[rO U M hu (by show scope.names.lookup y≠_;rw[k];decide)] at q;exact q;exact G.hok.fresh (Dy (x.above y c (B6 h)));unfold start;show _=N.length;rw[DM,FQ,Be];omega
theorem aLz{CX:CXT}{P:A3}{w:AG}{K:Aq}{mg:Str->Option Value}{base:Heap}{k:Nat}{f:Addr}{name qual:Str}{B:G6}{body:List Cu}{scope:Dp}{dV kV doc pm cdv ct oc:Value}{an od:Option Addr}
 {osl:Array (Option Value)} {N ps:List Str} {sp:Sp} (lk:K.lookup f=some ⟨oc,od,.func (FC name qual B body scope dV kV doc pm an cdv ct),osl⟩) (q0:IV K cdv qual=true) (S:nY N ps scope)
 (len:∀vs H Q E,sp vs H Q E->vs.length=ps.length)
 (G:∀(A:Bh) (outer:List Ke) (s:Ad) (H:Hp) (vs:List V) (Q:VK) (E:XK),jM k (A.deeper (Gi qual scope s.heap.objs.size f cdv))->sp vs H Q E ->
  ∃t,PSs (zB CX P w K mg base N qual scope f cdv A outer s H E) body t/\t { nx:=λ_ H'=>Q .non H',rt:=Q } (start N vs) H) :
 nT P w K mg base CX (k+1) f (FC name qual B body scope dV kV doc pm an cdv ct) ps sp:=by
 refine⟨len,λA outer s H args us vs Q E hr M hb r W=>?_⟩;have hl:=len _ _ _ _ W;have KX:K.In s.heap:=M.mod.kin.keeps λb o e=>(M.bs b o e).1;have lim:s.heap.NoLimit:=M.mod.nolimit.keeps λb o e=>(M.bs b o e).1;have L:∀y∈ps.zip us,scope.names.lookup y.1=some .local\/(scope.names.lookup y.1=some .cell/\((JG (s.heap.objs.size+1) scope.names []).lookup y.1).isSome=true):=λ⟨n,v⟩ hy=>by rcases S.par n (Ez hy).1 with q|q;exact .inl q;exact .inr ⟨q,FB _ _ _ (.inl q)⟩
 refine codeAny_call_function hr.depth (KX _ _ lk) rfl S.co S.gen rfl (PySem.W.codeRec_of KX q0) (hb _ _ _ _ ?_);refine wpAny_newFunctionEnv_cells S.kind L λenv he s1 x=>?_;subst he;refine⟨lim.keeps x.toInCall.keep,codeAny_func ?_⟩;obtain⟨t,ht,hq⟩:=G A outer s H vs Q E (hr.deeper _) W;have I:Inv (zB CX P w K mg base N qual scope f cdv A outer s H E) [] (start N vs) H s1:=aBW S hr.hd M hl r x;refine CC (ht [] s1 (start N vs) H _ I hq) (λfl s' hs=>?_) λe s' hs=>hs;have U:∀{Z':St} {H':Hp} {v:V} {u:Value},Inv (zB CX P w K mg base N qual scope f cdv A outer s H E) [] Z' H' s'->bJ v u->Q v H'->CE outer P w H s Q u s':=
  λ{Z' H' v u} J rv q=>⟨v,H',J.os,J.bare,J.base,J.hok,rv,q⟩
 cases fl with
 | ret u=>obtain⟨v,Z',H',J,rv,q⟩:=hs;exact U J rv q|next=>obtain⟨Z',H',J,q⟩:=hs;exact U (v:=V.non) (u:=Bj) J rfl q|brk=>obtain⟨_,_,_,q⟩:=hs;exact BL q|cont=>obtain⟨_,_,_,q⟩:=hs;exact BL q
section
variable {X:Cx} {x:Str} {p pos:EJ} {e:A2} {es:List A2} {t:TA} {id T:String} {r:List V->Hp->VK->Prop}
def tCB(r:List V->Hp->VK->Prop)(t:TA):TE:=λZ H Q=>t Z H λvs H1=>r vs H1 Q
theorem oT(U:eP X (.builtin id) r)(hg:Gl X x)(hm:X.mg x=none)(hv:Co x=some (.builtin id))(M:PA X (e::es) t)(hn:x ≠ "__name__" := by decide)(B:(x==("__debug__" : Str))=false:=by decide)
 (W:AT (e::es) X.env=(false,Dn e X.env)::AT es X.env:=by rfl) (G:(D7 pos (AT es X.env)).any (·.1)=false:=by rfl):PE X (.Call (.Name x p) (e::es) [] pos) (tCB r t):=by intro pins s Z H Q I h;refine BG (fE I hg hm hv ?_ hn B);exact BS (thn (M pos pins s Z H _ I h) λus s1 ⟨vs,H1,L,r1,q1⟩=>U pins s1 Z H1 vs us Q L r1 q1) W G
theorem iP(U:eP X (.type T) r)(hg:Gl X x)(hm:X.mg x=none)(hv:Co x=some (.type T))(M:PA X (e::es) t)(hn:x ≠ "__name__" := by decide)(B:(x==("__debug__" : Str))=false:=by decide)
 (W:AT (e::es) X.env=(false,Dn e X.env)::AT es X.env:=by rfl) (G:(D7 pos (AT es X.env)).any (·.1)=false:=by rfl):PE X (.Call (.Name x p) (e::es) [] pos) (tCB r t):=by intro pins s Z H Q I h;refine BG (fE I hg hm hv ?_ hn B);exact BK (thn (M pos pins s Z H _ I h) λus s1 ⟨vs,H1,L,r1,q1⟩=>U pins s1 Z H1 vs us Q L r1 q1) W G
end
end L2
namespace HT
open PySem PyProof.Rows
section
variable {prog:A3} {w:AG} {A:Bh} {E:Value->Ad->Prop} {s:Ad}
theorem cat_tup{vs ws:List Value}{Q:Value->Ad->Prop}(ht:IsTup s.heap t vs.toArray)(hb:IsTup s.heap b ws.toArray)(hv:vs≠[])
 (h1:ws=[]->Q (.ref t) s) (h2:ws≠[]->Q (.ref s.heap.objs.size) { s with heap:=s.heap.push { cls:=.type "tuple",data:=.seq (vs++ws).toArray } })
 (hsz:vs.length+ws.length<=sizeLine):wpAny (A1 prog w) A (CN .Add (.ref t) (.ref b)) Q E s:=by
 obtain⟨⟨cls,dd,data,sl⟩,U,hc,n,hd⟩:=id ht;obtain⟨⟨q1,G,q0,M⟩,B,I,n2,L⟩:=id hb;simp only at hc hd I L;subst hc hd I L;have e:vs.toArray++ws.toArray=(vs++ws).toArray:=by simp
 by_cases W:ws=[]
 exact FD ⟨_,U,rfl⟩ ⟨_,B,rfl⟩ F2 GJ DV DP (DE _ _)
  (tuple_addW1 t b vs.toArray ws.toArray n n2 dd G sl M (by simpa using hv) (by simp[W])) ⟨U,B,h1 W⟩
 refine FD ⟨_,U,rfl⟩ ⟨_,B,rfl⟩ F2 GJ DV DP (DE _ _)
  (tuple_addW2 t b vs.toArray ws.toArray n n2 dd G sl M (by simpa using hv) (by simpa using W) (by rw[Aj,Aj];exact hsz)) ⟨U,B,?_⟩
 rw[e];exact h2 W
def sIx(n d:Nat):Option Int->Nat
 | none=>d|some v=>if v<0 then (v+(n:Int)).toNat else min v.toNat n
theorem aIC(n d:Nat)(hd:d<=n)(o:Option Int):sIx n d o<=n:=by
 cases o with
 | none=>exact hd|some v=>show(if v<0 then (v+(n:Int)).toNat else min v.toNat n)<=n;by_cases B:v<0;rw[if_pos B];omega;rw[if_neg B];exact Nat.min_le_right _ _
theorem aAE(v:Int)(n d:Nat):(if v<0 then max (v+(n:Int)) 0 else min v (n:Int))=((sIx n d (some v):Nat):Int):=by
 show(if v<0 then max (v+(n:Int)) 0 else min v (n:Int))=(((if v<0 then (v+(n:Int)).toNat else min v.toNat n):Nat):Int)
 by_cases B:v<0;simp only[if_pos B];omega;simp only[if_neg B];omega
theorem zC(lo hi:Option Int)(n:Nat):D5 lo hi 1 (n:Int)=(((sIx n 0 lo:Nat):Int),((sIx n n hi:Nat):Int)):=by
 have B:¬ ((1:Int)<0):=by omega
 unfold D5;simp only[B,if_false];refine Kh ?_ ?_;cases lo with
 | none=>rfl|some v=>exact aAE v n 0
 cases hi with
 | none=>rfl|some v=>exact aAE v n n
theorem zD(i j:Nat):C1 (i:Int) (j:Int) 1=j-i:=by
 unfold C1;have B:(1:Int)>0:=by omega
 simp only[B,if_true,Int.ediv_one];split <;> omega
theorem oU{Q:Option Int->Ad->Prop}(p:FE v o)(h:Q o s):wpAny (A1 prog w) A (Ix v) Q E s:=by
 cases p with
 | none=>exact IW h|int i t=>exact slicePart_int h
theorem sliceApplied_gen{sl:Addr}{I L:Value}{lo hi:Option Int}{n:Nat}{Q:Int×Int×Nat->Ad->Prop}(hs:s.heap.IsSliceOf sl I L .none)(pl:FE I lo)(U:FE L hi)
 (h:Q (((sIx n 0 lo:Nat):Int),1,sIx n n hi-sIx n 0 lo) s):wpAny (A1 prog w) A (EM (.ref sl) (pure (n:Int))) Q E s:=by obtain⟨os,G,M,B⟩:=id hs;unfold EM Jr;refine Aa (Aa (B7 G B (x:=I) rfl (Aa (B7 G B (x:=L) rfl (Aa (B7 G B (x:=.none) rfl (Ac ?_)))))));refine Aa (IW ?_);show wpAny _ _ (if ((1:Int)==0)=true then _ else _) _ _ s;rw[if_neg (by decide)];refine Aa (oU pl (Aa (oU U (Aa (Ac ?_)))));show wpAny _ _ (match D5 lo hi 1 (n:Int) with|(lo,hi)=>pure (lo,(1:Int),C1 lo hi 1)) _ _ s;rw[zC lo hi n];show wpAny _ _ (pure (((sIx n 0 lo:Nat):Int),(1:Int),C1 ((sIx n 0 lo:Nat):Int) ((sIx n n hi:Nat):Int) 1)) _ _ s;rw[zD];exact Ac h
theorem aDm(xs:Array Value)(i k:Nat):((A9 k).filterMap λ(m:Nat)=>xs[((i:Int)+(m:Int)*1).toNat]?).toArray=((xs.toList.drop i).take k).toArray:=by
 have e:(λ(m:Nat)=>xs[((i:Int)+(m:Int)*1).toNat]?)=λm=>xs[i+m]? := by
  funext m
  have:((i:Int)+(m:Int)*1).toNat=i+m:=by omega
  rw[this]
 rw[e];have:=pick_run xs i k;rw[EN] at this;have B:((λx=>xs[x]?)∘λx=>i+x)=λm=>xs[i+m]? := rfl;rw[B] at this;rw[this]
theorem getItem_tuple_cut{t sl:Addr}{items:Array Value}{W vu:Value}{lo hi:Option Int}{Q:Value->Ad->Prop}(G:IsTup s.heap t items)(hs:s.heap.IsSliceOf sl W vu .none)(pl:FE W lo)(pu:FE vu hi)
 (hw:¬ (sIx items.size 0 lo=0/\sIx items.size items.size hi=items.size))
 (h:Q (.ref s.heap.objs.size) { s with heap:=s.heap.push { cls:=.type "tuple",data:=.seq ((items.toList.drop (sIx items.size 0 lo)).take (sIx items.size items.size hi-sIx items.size 0 lo)).toArray } })
 (hsz:items.size<=sizeLine):wpAny (A1 prog w) A (FF (.ref t) (.ref sl)) Q E s:=by
 have B:sizeOk (.seq ((items.toList.drop (sIx items.size 0 lo)).take (sIx items.size items.size hi-sIx items.size 0 lo)).toArray):=by show((items.toList.drop (sIx items.size 0 lo)).take (sIx items.size items.size hi-sIx items.size 0 lo)).toArray.size<=sizeLine;rw[Aj,Bl,CT,A6];omega
 have hj:sIx items.size items.size hi<=items.size:=aIC _ _ (Ak _) hi;obtain⟨os,U,L,q0⟩:=id hs;have I:s.TypeIs (.ref sl) "slice" := ⟨os,U,L⟩
 unfold FF
 try with_reducible refine AR ?_
 first|refine Aa (Ac ?_)|skip
 refine Aa (Hv G.typeIs (by decide) ?_);refine Aa (Bg (name:=C6 "__getitem__") G.typeIs Bq
  (AV Bq G.typeIs G8 ?_ (GY _ _)))
 show wpAny _ _ (EO (.ref t) >>= _) _ _ s;refine Aa (Jx G ?_);refine Aa (BY I ?_);rw[if_pos (by decide)];refine Aa (sliceApplied_gen hs pl pu ?_);have M:¬ ((((sIx items.size 0 lo:Nat):Int)==0&&(1:Int)==1&&(sIx items.size items.size hi-sIx items.size 0 lo)==items.size)=true):=by intro q;rw[HR,HR] at q;have q1:((sIx items.size 0 lo:Nat):Int)=0:=eq_of_beq q.1.1;have q2:sIx items.size items.size hi-sIx items.size 0 lo=items.size:=eq_of_beq q.2;exact hw ⟨by omega,by omega⟩
 show wpAny _ _ (if (((sIx items.size 0 lo:Nat):Int)==0&&(1:Int)==1&&(sIx items.size items.size hi-sIx items.size 0 lo)==items.size)=true then _ else _) _ _ s;rw[if_neg M,aDm]
 first
  | exact Aa (m:=CG _) (AM (Ac ⟨_,rfl,Ac h⟩) B)
  | exact Aa (m:=CG _) (AM (Aa (Ac (Ac ⟨_,rfl,Ac h⟩))) B)
  | exact Aa (Aa (m:=CG _) (AM (Ac (Ac ⟨_,rfl,Ac h⟩)) B))
  | exact Aa (Aa (m:=CG _) (AM (Ac ⟨_,rfl,Ac h⟩) B))
end
end HT
namespace L2
open PySem PySem.Spec PyProof.Rows
abbrev TO:=St->Hp->(Option Int->Hp->Prop)->Prop
def PO(X:Cx)(e:Option A2)(t:TO):Prop:=
 ∀(pins:List (Addr×Obj)) (s:Ad) (Z:St) (H:Hp) (Q:Option Int->Hp->Prop),Inv X pins Z H s->t Z H Q ->
  wpAny (A1 X.prog X.w) X.A (evalPart e X.env) (λu s'=>∃o H',Inv X pins Z H' s'/\FE u o/\Q o H') X.xe s
def aFM:TO:=λ_ H Q=>Q none H
def aLA(t:TE):TO:=λZ H Q=>t Z H λx H1=>∃i,x=.int i/\Q (some i) H1
section
variable {X:Cx} {e:A2} {te:TE} {lo hi:Option A2} {tl th:TO} {pos p2:EJ}
theorem aFN:PO X none aFM:=by intro pins s Z H Q I h;rw[Jy];exact Ac ⟨none,H,I,.none,h⟩
theorem aFO(h:PE X e te):PO X (some e) (aLA te):=by intro pins s Z H Q I G;rw[evalPart_some];refine thn (h pins s Z H _ I G) λu s1 ⟨x,H1,B,r1,L⟩=>?_;obtain⟨i,rfl,q⟩:=L;obtain⟨t,rfl⟩:=r1;exact⟨some i,H1,B,.int i t,q⟩
def SlR(X:Cx)(r:V->Option Int->Option Int->Hp->VK->Prop):Prop:=
 ∀(pins:List (Addr×Obj)) (s:Ad) (Z:St) (H:Hp) (x:V) (v vl vu:Value) (lo hi:Option Int) (sl:Addr) (Q:VK),Inv X pins Z H s->bJ x v->s.heap.IsSliceOf sl vl vu .none->FE vl lo->FE vu hi->r x lo hi H Q ->
  ∃T id,typeLookup (.type T) "__getitem__" = pure (some (.builtin id))/\s.TypeIs v T/\wpAny (A1 X.prog X.w) X.A (FF v (.ref sl)) (EP X pins Z Q) X.xe s
theorem SlR.or{r G:V->Option Int->Option Int->Hp->VK->Prop}(h:SlR X r)(h':SlR X G):SlR X (λx lo hi H Q=>r x lo hi H Q\/G x lo hi H Q):=by intro pins s Z H x v M U lo hi sl Q I L hs pl B q;rcases q with q|q;exact h pins s Z H x v M U lo hi sl Q I L hs pl B q;exact h' pins s Z H x v M U lo hi sl Q I L hs pl B q
def tSl(r:V->Option Int->Option Int->Hp->VK->Prop)(te:TE)(tl th:TO):TE:=λZ H Q=>te Z H λx H1=>tl Z H1 λl H2=>th Z H2 λu H3=>r x l u H3 Q
theorem aDn{r:V->Option Int->Option Int->Hp->VK->Prop}(hr:SlR X r)(he:PE X e te)(hl:PO X lo tl)(hu:PO X hi th):PE X (.Subscript e (.Slice lo hi none p2) pos) (tSl r te tl th):=by intro pins s Z H Q I h;refine Subscript_ (thn (he pins s Z H _ I h) λv s1 ⟨x,H1,W,r1,q1⟩=>?_);refine wpAny_Slice (thn (hl pins s1 Z H1 _ W q1) λG s2 ⟨l,U,I2,pl,q2⟩=>thn (hu pins s2 Z U _ I2 q2) λL B ⟨u,M,I3,pu,q3⟩=>?_);rw[Jy];refine Ac ?_;have I4:Inv X pins Z M { B with heap:=B.heap.push { cls:=.type "slice",data:=.fields #[G,L,.none] } }:=I3.kept (t':=B.toks) λb ob q=>Ab _ q;obtain⟨T,id,hT,ht,hg⟩:=hr pins { B with heap:=B.heap.push { cls:=.type "slice",data:=.fields #[G,L,.none] } } Z M x v G L l u B.heap.objs.size Q I4 r1 (K3 ..) pl pu q3;show wpAny (A1 X.prog X.w) X.A (Jz e (.Slice lo hi none p2) v (.ref B.heap.objs.size)) (EP X pins Z Q) X.xe { B with heap:=B.heap.push { cls:=.type "slice",data:=.fields #[G,L,.none] } };exact tail_any (ops:=[.ref B.heap.objs.size,v]) ht hT hg (by with_unfolding_all rfl)
def wD(xs:List V)(lo hi:Option Int):List V:=(xs.drop (HT.sIx xs.length 0 lo)).take (HT.sIx xs.length xs.length hi-HT.sIx xs.length 0 lo)
theorem nE(xs:List V)(lo hi:Option Int):(wD xs lo hi).length<=xs.length:=by unfold wD;rw[Bl,CT];omega
def aDo(K:Aq):V->Option Int->Option Int->Hp->VK->Prop:=λx lo hi H Q=>∃a xs,x=.ref a/\SqT K H a xs /\
 ¬ (HT.sIx xs.length 0 lo=0/\HT.sIx xs.length xs.length hi=xs.length)/\∀p,H p=none->Q (.ref p) (upd H p (.tup (wD xs lo hi)))
theorem aID:SlR X (aDo X.K):=by
 intro pins s Z H x v vl vu lo hi sl Q I W hs pl U h;obtain⟨a,xs,rfl,M,L,q⟩:=h;cases W;obtain⟨its,r,G,hz⟩:=I.tuple M;have B:its.toArray.size=xs.length:=by rw[Aj];exact r.length.symm
 refine⟨"tuple",_,Bq.lookup,G.typeIs,?_⟩;refine HT.getItem_tuple_cut G hs pl U (by rw[B];exact L) ?_ (by rw[B];exact hz);rw[B];refine⟨.ref s.heap.objs.size,_,I.laid (t':=s.toks) (o:=.tup (wD xs lo hi)) (λb ob q=>Ab _ q) (Ak _) ?_,rfl,q _ (I.hok.fresh (Ak _))⟩;exact⟨AI (nE xs lo hi) hz,_,(r.drop (HT.sIx xs.length 0 lo)).take (HT.sIx xs.length xs.length hi-HT.sIx xs.length 0 lo),JH _ _⟩
def aLB(K:Aq):R2:=λx y H Q=>∃a b xs ys,x=.ref a/\y=.ref b/\SqT K H a xs/\SqT K H b ys/\xs≠[]/\xs.length+ys.length<=sizeLine /\
 (ys=[]->Q (.ref a) H)/\(ys≠[]->∀p,H p=none->Q (.ref p) (upd H p (.tup (xs++ys))))
theorem aS.nil_iff(r:aS xs us):us=[]↔xs=[]:=by
 cases r with
 | nil=>simp|cons _ _=>simp
theorem aFP:OpR X (CN .Add) (aLB X.K):=by intro pins s Z H x y v u Q I rx ry h;obtain⟨a,b,xs,ys,rfl,rfl,L,M,U,hz,q1,q2⟩:=h;cases rx;cases ry;obtain⟨its,r1,W,_⟩:=I.tuple L;obtain⟨G,B,p2,_⟩:=I.tuple M;refine HT.cat_tup W p2 (λz=>U (r1.nil_iff.mp z)) (λz=>⟨.ref a,H,I,rfl,q1 (B.nil_iff.mp z)⟩) (λz=>?_) (by rw[<-r1.length,<-B.length];exact hz);refine⟨.ref s.heap.objs.size,_,I.laid (t':=s.toks) (o:=.tup (xs++ys)) (λb ob q=>Ab _ q) (Ak _) ?_,rfl,q2 (λw=>z (B.nil_iff.mpr w)) _ (I.hok.fresh (Ak _))⟩;exact⟨by rw[DM];exact hz,_,r1.append B,JH _ _⟩
end
noncomputable def ixN(n:Nat)(i:Int):Option Nat:=if 0<=i then (if i<n then some i.toNat else none) else if -(n:Int)<=i then some (i+n).toNat else none
def atI{α:Type}(xs:List α)(i:Int):Option α:=(ixN xs.length i).bind λj=>xs[j]?
theorem aAF(h:ixN n i=some j):seqIndex? i n=some j/\j<n/\-(n:Int)<=i/\i<n:=by unfold ixN at h;by_cases G:0<=i;rw[if_pos G] at h;by_cases B:i<n;rw[if_pos B] at h;have e:i.toNat=j:=An h;exact⟨by rw[Il G B,e],by omega,by omega,B⟩;rw[if_neg B] at h;cases h;rw[if_neg G] at h;by_cases B:-(n:Int)<=i;rw[if_pos B] at h;have e:(i+n).toNat=j:=An h;exact⟨by rw[Hw (by omega) B,e],by omega,B,by omega⟩;rw[if_neg B] at h;cases h
theorem tP{α:Type}{xs:List α}{i:Int}{v:α}(h:atI xs i=some v):∃j,seqIndex? i xs.length=some j/\xs[j]? = some v/\j<xs.length/\-(xs.length:Int)<=i/\i<xs.length:=by
 unfold atI at h;cases e:ixN xs.length i with
 | none=>rw[e] at h;cases h|some j=>rw[e] at h;obtain⟨B,G,I,L⟩:=aAF e;exact⟨j,B,h,G,I,L⟩
def aAG(b:A2):Prop:=∀o i,Ki b false o i=operate [o,i] (FF o i)
def IxR(X:Cx)(r:R2):Prop:=
 ∀(value slice:A2) (pins:List (Addr×Obj)) (s:Ad) (Z:St) (H:Hp) (x y:V) (v u:Value) (Q:VK),Inv X pins Z H s->bJ x v->bJ y u->r x y H Q ->
  Ki slice false v u=operate [v,u] (FF v u)->wpAny (A1 X.prog X.w) X.A (Jz value slice v u) (EP X pins Z Q) X.xe s
def MtR(X:Cx)(id:String)(r:V->List V->Hp->VK->Prop):Prop:=
 ∀(pins:List (Addr×Obj)) (s:Ad) (Z:St) (H:Hp) (x:V) (xs:List V) (v:Value) (us:List Value) (Q:VK),Inv X pins Z H s->bJ x v->aS xs us->r x xs H Q ->
  wpAny (A1 X.prog X.w) X.A (call (.builtin id) (v::us)) (EP X pins Z Q) X.xe s
section
variable {X:Cx} {a b:A2} {ta tb:TE} {pos:EJ}
theorem IxR.or(h:IxR X r)(h':IxR X r'):IxR X (λx y H Q=>r x y H Q\/r' x y H Q):=by intro G B pins s Z H x y v u Q I L M q hs;rcases q with q|q;exact h G B pins s Z H x y v u Q I L M q hs;exact h' G B pins s Z H x y v u Q I L M q hs
theorem aDp(U:IxR X r)(L:PE X a ta)(M:PE X b tb)(hs:aAG b):PE X (.Subscript a b pos) (tOp r ta tb):=by intro pins s Z H Q I h;exact Subscript_ (aLp L M I h λv u s2 x y B G W ry q=>U a b pins s2 Z B x y v u Q G W ry q (hs _ _))
def aLC(K:Aq):R2:=λx y H Q=>∃p xs i v,x=.ref p/\y=.int i/\SqL K H p xs/\atI xs i=some v/\Q v H
def aLD(K:Aq):R2:=λx y H Q=>∃p xs i v,x=.ref p/\y=.int i/\SqT K H p xs/\atI xs i=some v/\Q v H
def aLE:R2:=λx y H Q=>∃z i c,x=.str z/\y=.int i/\z.length<=sizeLine/\atI z.cps.toList i=some c/\Q (.str ⟨#[c]⟩) H
theorem aFQ:IxR X (aLC X.K):=by
 intro W U pins s Z H x y v u Q I rx ry h hs;obtain⟨p,xs,i,z,rfl,rfl,hq,he,q⟩:=h;cases rx;obtain⟨t,rfl⟩:=ry;obtain⟨its,r,pl,hz⟩:=I.list hq;obtain⟨j,G,h2,h3,h4,h5⟩:=tP he;obtain⟨w,ew,M⟩:=r.get h2;have hl:=r.length;have hn:=jL;have B:EP X pins Z Q w s:=⟨z,H,I,M,q⟩
 by_cases h0:0<=i;have L:i.toNat=j:=by rw[Il h0 h5] at G;exact An G
 exact item_listR pl.isList h0 (by omega) (by rw[L];simpa using ew) B hs;have L:(i+(its.toArray.size:Int)).toNat=j:=by rw[Hw (by omega) h4] at G;rw[Aj,<-hl];exact An G
 exact FG (x:=w) pl.isList.typeIs Hx.lookup
  (wpAny_getItem_list_neg (Q:=λr s'=>r=w/\EP X pins Z Q r s') pl.isList (by omega) (by rw[Aj] <;> omega) (by omega) (by rw[L];simpa using ew) ⟨rfl,B⟩) hs
theorem aIE:IxR X (aLD X.K):=by
 intro M L pins s Z H x y v u Q I rx ry h hs;obtain⟨p,xs,i,z,rfl,rfl,hq,he,q⟩:=h;cases rx;obtain⟨t,rfl⟩:=ry;obtain⟨its,r,pl,hz⟩:=I.tuple hq;obtain⟨j,W,h2,h3,h4,h5⟩:=tP he;obtain⟨w,U,G⟩:=r.get h2;have hl:=r.length;have hn:=jL;have B:EP X pins Z Q w s:=⟨z,H,I,G,q⟩
 exact FG (x:=w) pl.typeIs slot_tuple_getitem.lookup
  (getItem_tuple (j:=j) (Q:=λr s'=>r=w/\EP X pins Z Q r s') pl (by omega) (by omega) (by rw[Aj,<-hl];exact W) (by simpa using U) ⟨rfl,B⟩) hs
theorem aIF:IxR X aLE:=by
 intro G B pins s Z H x y v u Q I rx ry h hs;obtain⟨z,i,c,rfl,rfl,hz,he,q⟩:=h;obtain⟨t,rfl⟩:=rx;obtain⟨t',rfl⟩:=ry;obtain⟨j,L,W,h3,h4,h5⟩:=tP he;have hl:z.cps.toList.length=z.length:=by simp[IX]
 rw[hl] at L h4 h5;have hn:=jL;exact tail_any (typeIs_str s z t) HS.lookup (getItem_str (c:=c) (by
  have M:decide (i < -(2 ^ 63:Int))=false:=Av (by omega);have U:decide (i ≥ 2 ^ 63)=false:=Av (by omega);rw[M,U,GK]) (by rw[L];simpa using W) ⟨.str ⟨#[c]⟩,H,I.tok _,⟨_,rfl⟩,q⟩) hs
def rIx(K:Aq):R2:=λx y H Q=>aLC K x y H Q\/aLD K x y H Q\/aLE x y H Q
theorem zE:IxR X (rIx X.K):=aFQ.or (aIE.or aIF)
theorem zF(its:List Value)(n j:Nat)(u:Value):B0 (·.setIfInBounds j u) { cls:=.type "list",data:=.seq its.toArray n }={ cls:=.type "list",data:=.seq (its.set j u).toArray n }:=by simp[B0]
theorem Inv.lst{s:Ad}(I:Inv X pins Z H s)(h:H p=some (.lst xs)) :
 ∃(its:List Value) (n:Nat),aS xs its/\s.heap.get? p=some { cls:=.type "list",data:=.seq its.toArray n }/\xs.length<=sizeLine:=by obtain⟨z,its,n,r,e⟩:=I.hok p _ h;exact⟨its,n,r,e,z⟩
theorem Inv.lstUpd{s:Ad}{xs B:List V}{its its':List Value}{f:Obj->Obj}(I:Inv X pins Z H s)(h:H p=some (.lst xs))
 (M:s.heap.get? p=some { cls:=.type "list",data:=.seq its.toArray n }) (G:f { cls:=.type "list",data:=.seq its.toArray n }={ cls:=.type "list",data:=.seq its'.toArray n' }) (r:aS B its') (hz:B.length<=sizeLine) (t:Nat) :
 Inv X pins Z (upd H p (.lst B)) { s with heap:=s.heap.update p f,toks:=t }:=by
 have e:(s.heap.update p f).get? p=some { cls:=.type "list",data:=.seq its'.toArray n' }:=by rw[B9 f M (by rw[G] <;> rfl),G]
 refine I.write (x:=p) (e:=p) (by rw[h];trivial) (.inl rfl) (λb u L q=>(De _ _ (DI L)).trans q) ⟨_,e⟩ ?_;exact⟨hz,its',n',r,e⟩
def aLF:V->V->V->Hp->(Hp->Prop)->Prop:=λo i v H Q=>∃p xs k j,o=.ref p/\i=.int k/\H p=some (.lst xs)/\ixN xs.length k=some j/\Q (upd H p (.lst (xs.set j v)))
theorem wF:aIq X aLF:=by
 intro pins s Z H o i v ov iv u Q I ro ri rv h;obtain⟨p,xs,k,j,rfl,rfl,hp,hj,q⟩:=h;cases ro;obtain⟨t,rfl⟩:=ri;obtain⟨its,n,r,M,hz⟩:=I.lst hp;obtain⟨B,h2,h3,h4⟩:=aAF hj;have L:=r.length;have hn:=jL;have U:Inv X pins Z (upd H p (.lst (xs.set j v))) { s with heap:=s.heap.update p (B0 (·.setIfInBounds j u)) }:=
  I.lstUpd hp M (zF its n j u) (r.set rv j) (by rw[Ax];exact hz) s.toks
 by_cases W:0<=k;have G:k.toNat=j:=by rw[Il W h4] at B;exact An B
 exact PySem.W.ki_setAt M W (by omega) (by rw[Aj,<-L];exact h4) (by rw[G];exact⟨_,U,q⟩);have G:(k+(its.toArray.size:Int)).toNat=j:=by rw[Hw (by omega) h3] at B;rw[Aj,<-L];exact An B
 exact PySem.W.ki_setBack M (by omega) (by rw[Aj,<-L];exact h3) (by omega) (by rw[G];exact⟨_,U,q⟩)
theorem tQ(lo hi:Option Int)(n:Nat):(DQ lo hi none n).1=((HT.sIx n 0 lo:Nat):Int)/\(DQ lo hi none n).2.1=((HT.sIx n n hi:Nat):Int)/\(DQ lo hi none n).2.2=1:=by
 refine⟨?_,?_,rfl⟩;cases lo with
 | none=>simp[DQ,HT.sIx]|some i=>simp only[DQ,HT.sIx,Eh,show(1:Int)>0 by decide,if_true];by_cases h:i<0;simp only[h,if_true] <;> omega;simp only[h,if_false] <;> omega
 cases hi with
 | none=>simp[DQ,HT.sIx]|some i=>simp only[DQ,HT.sIx,Eh,show(1:Int)>0 by decide,if_true];by_cases h:i<0;simp only[h,if_true] <;> omega;simp only[h,if_false] <;> omega
theorem rE(its:List Value)(lo hi:Option Int):slicePick its.toArray lo hi none=((its.drop (HT.sIx its.length 0 lo)).take (HT.sIx its.length its.length hi-HT.sIx its.length 0 lo)).toArray:=by obtain⟨B,G,I⟩:=tQ lo hi its.toArray.size;unfold slicePick;rw[B,G,I];simp only[sliceRange_one,pick_run,Aj] <;> rfl
def aDq(K:Aq):V->Option Int->Option Int->Hp->VK->Prop:=λx lo hi H Q=>∃a xs,x=.ref a/\SqL K H a xs/\∀p,H p=none->Q (.ref p) (upd H p (.lst (wD xs lo hi)))
theorem aFR:SlR X (aDq X.K):=by intro pins s Z H x v vl vu lo hi sl Q I U hs pl M h;obtain⟨a,xs,rfl,L,q⟩:=h;cases U;obtain⟨its,r,G,hz⟩:=I.list L;have B:=r.length;refine⟨"list",_,Hx.lookup,G.isList.typeIs,?_⟩;refine wpAny_getItem_list_slice G.isList hs pl M .none (by simp) ?_ (by rw[Aj] <;> omega);rw[rE,<-B];refine⟨.ref s.heap.objs.size,_,I.laid (t':=s.toks) (o:=.lst (wD xs lo hi)) (λb W q=>Ab _ q) (Ak _) ?_,rfl,q _ (I.hok.fresh (Ak _))⟩;exact⟨AI (nE xs lo hi) hz,_,0,(r.drop (HT.sIx xs.length 0 lo)).take (HT.sIx xs.length xs.length hi-HT.sIx xs.length 0 lo),Al _ rfl⟩
theorem tR:OpR X (BR .NotIn) (λx y H Q=>∃i j,x=.str i/\y=.str j/\Q (.bl (!(!(CO j i 0 j.length 1).isEmpty))) H):=by intro pins s Z H x y v u Q I B G h;obtain⟨i,j,rfl,rfl,q⟩:=h;obtain⟨t,rfl⟩:=B;obtain⟨t',rfl⟩:=G;exact notIn_str ⟨.bl _,H,I,rfl,q⟩
theorem tS:eP X (.builtin "len") (λxs H Q=>∃p G,xs=[.ref p]/\(SqL X.K H p G\/SqT X.K H p G)/\Q (.int G.length) H):=by intro pins s Z H xs us Q I r h;obtain⟨p,G,rfl,L,q⟩:=h;obtain⟨u,rfl,U⟩:=nD r;cases U;have W:=jL;rcases L with L|L;obtain⟨its,M,pl,hz⟩:=I.list L;have B:=M.length;exact Calls.call_len_list pl.isList (by simp only[Aj] <;> omega) ⟨.int G.length,H,I.tok _,⟨s.toks+1,by rw[Aj,B]⟩,q⟩;obtain⟨its,M,pl,hz⟩:=I.tuple L;have B:=M.length;exact len_tuple pl (by simp only[Aj] <;> omega) ⟨.int G.length,H,I.tok _,⟨s.toks+1,by rw[Aj,B]⟩,q⟩
theorem tU:eP X (.builtin "len") (λxs H Q=>∃z,xs=[.str z]/\z.length<=sizeLine/\Q (.int z.length) H):=by intro pins s Z H xs us Q I r h;obtain⟨z,rfl,hz,q⟩:=h;obtain⟨u,rfl,t,rfl⟩:=nD r;have B:=jL;exact len_str (by omega) ⟨.int z.length,H,I.tok _,⟨_,rfl⟩,q⟩
theorem eP.or{r B:List V->Hp->VK->Prop}(h:eP X f r)(h':eP X f B):eP X f (λxs H Q=>r xs H Q\/B xs H Q):=by intro pins s Z H xs us Q I G q;rcases q with q|q;exact h pins s Z H xs us Q I G q;exact h' pins s Z H xs us Q I G q
theorem tV:eP X (.type "list") (λxs H Q=>∃p L,xs=[.ref p]/\(SqL X.K H p L\/SqT X.K H p L)/\∀l,H l=none->Q (.ref l) (upd H l (.lst L))):=by
 intro pins s Z H xs us Q I r h;obtain⟨p,L,rfl,W,q⟩:=h;obtain⟨u,rfl,rx⟩:=nD r;cases rx;have M:∀(its:List Value),aS L its->L.length<=sizeLine->∀(h':Heap) (B:Nat),(∀b o',s.heap.get? b=some o'->h'.get? b=some o') ->
  h'.get? s.heap.objs.size=some { cls:=.type "list",dict:=none,data:=.seq its.toArray B,slots:=#[] }->EP X pins Z Q (.ref s.heap.objs.size) { s with heap:=h' }:=λits G hz h' B kp e=>
  ⟨.ref s.heap.objs.size,_,I.laid (t':=s.toks) kp (Ak _) (show dL X.prog X.w _ h' _ (.lst L) from⟨hz,its,B,G,e⟩),rfl,q _ (I.hok.fresh (Ak _))⟩
 rcases W with W|W;obtain⟨its,G,pl,hz⟩:=I.list W;have U:=G.length;obtain⟨o,ho,hc,n,hd⟩:=pl.isList;exact J0 p (.inl rfl) ho hc hd (λh' B kp e=>M its G hz h' B kp e) (by simp only[Aj] <;> omega);obtain⟨its,G,pl,hz⟩:=I.tuple W;have U:=G.length;obtain⟨o,ho,hc,n,hd⟩:=pl;exact J0 p (.inr rfl) ho hc hd (λh' B kp e=>M its G hz h' B kp e) (by simp only[Aj] <;> omega)
theorem rF:eP X (.type "tuple") (λxs H Q=>∃p B,xs=[.ref p]/\((SqL X.K H p B/\∀l,H l=none->Q (.ref l) (upd H l (.tup B)))\/(SqT X.K H p B/\Q (.ref p) H))):=by
 intro pins s Z H xs us Q I r h;obtain⟨p,B,rfl,h⟩:=h;obtain⟨u,rfl,rx⟩:=nD r;cases rx;rcases h with⟨G,q⟩|⟨G,q⟩
 obtain⟨its,L,pl,hz⟩:=I.list G;have U:=L.length;refine call_tuple_list pl.isList (λh' kp=>?_) (by simp only[Aj] <;> omega);have M:Inv X pins Z H { s with heap:=h' }:=I.kept (t':=s.toks) kp;have W:Inv X pins Z (upd H h'.objs.size (.tup B)) { s with heap:=h'.push { cls:=.type "tuple",data:=.seq its.toArray } }:=
  M.laid (t':=s.toks) (λb o e=>Ab _ e) (Ak _) (show dL X.prog X.w _ _ _ (.tup B) from⟨hz,its,L,JH _ _⟩)
 exact⟨.ref h'.objs.size,_,W,rfl,q _ (M.hok.fresh (Ak _))⟩;obtain⟨its,L,pl,hz⟩:=I.tuple G;exact call_tuple_same pl ⟨.ref p,H,I,rfl,q⟩
def tyV(K:Aq)(T:String)(x:V)(H:Hp):Prop:=match x with
 | .str _=>T = "str"|.int _=>T = "int"|.ref p=>(T = "list" /\ ∃xs,SqL K H p xs)\/(T = "tuple" /\ ∃o,K.lookup p=some o/\o.cls=.type "tuple" /\ o.dict=none) \/
  (T = "dict" /\ ((∃kvs,H p=some (.dK kvs))\/∃kvs,H p=some (.dT kvs)))\/(T = "set" /\ ∃S n,H p=some (.set S n))
 | _=>False
theorem aDr{s:Ad}(I:Inv X pins Z H s)(r:bJ x v)(ty:tyV X.K T x H) :
 s.TypeIs v T/\∀a,v=.ref a->∃L,s.heap.get? a=some L/\L.dict=none:=by
 cases x with
 | str z=>obtain⟨t,rfl⟩:=r;cases(show T = "str" from ty);exact⟨typeIs_str s z t,λ_ e=>nomatch e⟩|int i=>obtain⟨t,rfl⟩:=r;cases(show T = "int" from ty);exact⟨IY s i t,λ_ e=>nomatch e⟩|ref p=>
  cases r;rcases ty with⟨rfl,xs,U⟩|⟨rfl,o,B,M,hd⟩|⟨rfl,B⟩|⟨rfl,S,n,B⟩
  obtain⟨its,_,pl,_⟩:=I.list U;refine⟨pl.isList.typeIs,λa e=>?_⟩;cases e;obtain⟨o,n,e,c,hd,_⟩:=pl;exact⟨o,e,hd⟩;refine⟨⟨o,I.kIn p o B,M⟩,λa e=>?_⟩;cases e;exact⟨o,I.kIn _ o B,hd⟩;have z:∃o,s.heap.get? p=some o/\o.ExactDict:=by
   rcases B with⟨kvs,B⟩|⟨kvs,B⟩
   obtain⟨_,_,_,_,o,_,_,e,ex,_⟩:=I.hok p _ B;exact⟨o,e,ex⟩;obtain⟨_,_,_,_,o,_,_,e,ex,_⟩:=I.hok p _ B;exact⟨o,e,ex⟩
  obtain⟨o,e,ex⟩:=z;refine⟨⟨o,e,ex.1⟩,λa G=>?_⟩;cases G;exact⟨o,e,ex.2.1⟩;obtain⟨o,_,_,_,e,ex,_⟩:=I.hok p _ B;refine⟨⟨o,e,ex.1⟩,λa G=>?_⟩;cases G;exact⟨o,e,ex.2.1⟩
 | _=>exact BL ty
def aOJ(K:Aq)(T:String)(r:V->List V->Hp->VK->Prop)(to:TE):TE:=λZ H Q=>to Z H λx H1=>tyV K T x H1/\r x [] H1 Q
def tBM(K:Aq)(T:String)(r:V->List V->Hp->VK->Prop)(to:TE)(t:TA):TE:=λZ H Q=>to Z H λx H1=>tyV K T x H1/\t Z H1 λxs H2=>r x xs H2 Q
variable {o e:A2} {es:List A2} {to:TE} {t:TA} {name:Str} {apos cpos:EJ} {T id:String} {r:V->List V->Hp->VK->Prop}
theorem aIG(pa:PlainAttrs T)(slot:Slot T name id)(L:typeOf (.builtin id)=pure (.type "method_descriptor"))(hm:MtR X id r)(ho:PE X o to)
 (B:GL o name X.env (Dn o X.env)=Dn o X.env:=by rfl) (G:(apos.endLine==cpos.line)=true:=by rfl):PE X (.Call (.Attribute o name apos) [] [] cpos) (aOJ X.K T r to):=by intro pins s Z H Q I h;refine wpAny_Call_method0_late B G (thn (ho pins s Z H _ I h) λv s1 ⟨x,H1,M,r1,ty,q1⟩=>?_);obtain⟨U,W⟩:=aDr M r1 ty;exact⟨T,id,pa,slot,L,U,W,DW rfl (PySem.evalArgs_none (hm pins s1 Z H1 x [] v [] Q M r1 .nil q1))⟩
theorem aDs(pa:PlainAttrs T)(slot:Slot T name id)(U:typeOf (.builtin id)=pure (.type "method_descriptor"))(hm:MtR X id r)(ho:PE X o to)(ha:PA X (e::es) t)
 (G:GL o name X.env (Dn o X.env)=Dn o X.env:=by rfl)
 (M:((D7 cpos (AT (e::es) X.env)).all (λx=>!x.1)&&(backToKw cpos (Kj [] X.env)).all (λx=>x.1.isSome)
  && decide ((e::es).length+([]:List IJ).length+(if ([]:List IJ).isEmpty then 0 else 1)<30))=true:=by rfl)
 (L:(apos.endLine==cpos.line)=true:=by rfl) (hs:AT (e::es) X.env=(false,Dn e X.env)::AT es X.env:=by rfl) (B:(D7 cpos (AT es X.env)).any (·.1)=false:=by rfl) :
 PE X (.Call (.Attribute o name apos) (e::es) [] cpos) (tBM X.K T r to t):=by intro pins s Z H Q I h;refine FH G M L rfl (thn (ho pins s Z H _ I h) λv s1 ⟨x,H1,W,r1,ty,q1⟩=>?_);obtain⟨h1,h2⟩:=aDr W r1 ty;refine⟨T,id,pa,slot,U,h1,h2,?_⟩;have hA:=ha cpos pins s1 Z H1 _ W q1;rw[hs] at hA ⊢;refine DW (by show(false||(D7 cpos (AT es X.env)).any (·.1))=false;rw[B] <;> rfl) (Gj ?_);exact thn hA λus s2 ⟨vs,H2,I2,r2,q2⟩=>hm pins s2 Z H2 x vs v us Q I2 r1 r2 q2
end
def MtM(X:Cx)(id:String)(r:V->List V->Hp->VK->Prop):Prop:=
 ∀(pins:List (Addr×Obj)) (s:Ad) (Z:St) (H:Hp) (x:V) (xs:List V) (v:Value) (us:List Value) (Q:VK),Inv X pins Z H s->bJ x v->aS xs us->r x xs H Q ->
  wpAny (A1 X.prog X.w) X.A (call (.builtin id) (v::us)) (EP X pins Z Q) X.xe s
theorem aS.one:∀{x:V} {us:List Value},aS [x] us->∃u,us=[u]/\bJ x u:=by intro x us h;cases h with|cons r t=>cases t;exact⟨_,rfl,r⟩
theorem aS.zero:∀{us:List Value},aS [] us->us=[]
 | _,.nil=>rfl
theorem aS.dropLast{xs:List V}{us:List Value}(h:aS xs us):aS xs.dropLast us.dropLast:=by
 induction h with
 | nil=>exact .nil|cons r t B=>
  cases t with
  | nil=>exact .nil|cons q t'=>exact .cons r B
theorem aS.rep(h:aS xs us):∀k:Nat,aS (Ae k xs).flatten (Ae k us).flatten
 | 0=>.nil|k+1=>by rw[Bb,Bb,B8,B8];exact aS.append h (aS.rep h k)
theorem fW{α:Type}(l:List α):l.eraseIdx (l.length-1)=l.dropLast:=by
 induction l with
 | nil=>rfl|cons a r B=>
  cases r with
  | nil=>rfl|cons b r=>
   have e:(a::b::r).length-1=((b::r).length-1)+1:=by have G:(a::b::r).length=r.length+2:=rfl;have I:(b::r).length=r.length+1:=rfl;omega
   rw[e,List.eraseIdx_cons_succ,B]
   all_goals rfl
theorem rP(its:List Value):∀(k:Nat) (acc:List Value),
 GZ (λG I=>G++I) acc.toArray (Ae k its.toArray)=(acc++(Ae k its).flatten).toArray
 | 0,acc=>by simp|k+1,acc=>by
  have e:acc.toArray++its.toArray=(acc++its).toArray:=by simp
  have B:(acc++its)++(Ae k its).flatten=acc++(Ae (k+1) its).flatten:=by rw[Bb,B8,Cd]
  rw[<-B,<-rP its k (acc++its),<-e,Bb,Bm]
section
variable {X:Cx} {pins:List (Addr×Obj)} {Z:St} {H:Hp} {s:Ad} {l b:Addr} {xs ys zs:List V}
theorem Inv.lset{its its':List Value}{f:Array Value->Array Value}{t':Nat}(I:Inv X pins Z H s)(B:H l=some (.lst xs))
 (e:s.heap.get? l=some { cls:=.type "list",data:=.seq its.toArray n }) (L:f its.toArray=its'.toArray) (U:aS ys its') (hz:ys.length<=sizeLine) :
 Inv X pins Z (upd H l (.lst ys)) { s with heap:=s.heap.update l (B0 f),toks:=t' }:=by have q:=HU e f;rw[L] at q;refine I.write (x:=l) (e:=l) (by rw[B];exact trivial) (.inl rfl) (λW u G M=>(De s.heap (B0 f) (DI G)).trans M) ⟨_,q⟩ ?_;exact⟨hz,its',_,U,q⟩
theorem Inv.lnew{t':Nat}(I:Inv X pins Z H s)(B:aS ys its)(hz:ys.length<=sizeLine) :
 Inv X pins Z (upd H s.heap.objs.size (.lst ys)) { s with heap:=s.heap.push { cls:=.type "list",data:=.seq its.toArray },toks:=t' }:=
 I.laid (λ_ _ q=>Ab _ q) (Ak _) ⟨hz,its,0,B,Al _ rfl⟩
theorem Inv.fresh(I:Inv X pins Z H s):H s.heap.objs.size=none:=I.hok.fresh (Ak _)
theorem Inv.lstM(I:Inv X pins Z H s)(B:H l=some (.lst xs)):xs.length<=sizeLine/\∃(its:List Value) (n:Nat),aS xs its/\xs.length=its.length/\s.heap.get? l=some { cls:=.type "list",data:=.seq its.toArray n }:=by obtain⟨z,its,n,r,e⟩:=I.hok l _ B;exact⟨z,its,n,r,r.length,e⟩
theorem wG(h:n<=sizeLine):BA n=false:=by unfold BA;exact Av (by omega)
end
section
variable {X:Cx}
def aFS:V->List V->Hp->VK->Prop:=λx vs H Q=>∃l xs y,x=.ref l/\vs=[y]/\H l=some (.lst xs)/\xs.length<sizeLine/\Q .non (upd H l (.lst (xs++[y])))
theorem rQ:MtM X "list.append" aFS:=by intro pins s Z H x vs v us Q I L rv h;obtain⟨l,xs,y,rfl,rfl,B,hz,q⟩:=h;cases L;obtain⟨u,rfl,G⟩:=rv.one;obtain⟨z,its,n,r,M,e⟩:=I.lstM B;refine Ei Ha ⟨_,e,rfl⟩ G9 (Gk _ _) (Hy l its.toArray n u (by rw[Aj];omega)) ⟨e,?_⟩;refine⟨.non,_,I.lset (its':=its++[u]) B e (by simp) (r.append (.cons G .nil)) ?_,rfl,q⟩;rw[DM,B1];omega
def aOK:V->List V->Hp->VK->Prop:=λx vs H Q=>∃l xs y,x=.ref l/\vs=[]/\H l=some (.lst xs)/\xs[xs.length-1]? = some y/\Q y (upd H l (.lst xs.dropLast))
theorem aIH:MtM X "list.pop" aOK:=by
 intro pins s Z H x vs v us Q I rx rv h;obtain⟨l,xs,y,rfl,rfl,L,W,q⟩:=h;cases rx;have B:=rv.zero;subst B;obtain⟨z,its,n,r,M,e⟩:=I.lstM L;obtain⟨u,U,ru⟩:=r.get W;have G:its.toArray[its.toArray.size-1]? = some u:=by show its.toArray[its.length-1]? = some u;rw[<-AL,<-M];exact U
 refine Ei F.slot_list_pop ⟨_,e,rfl⟩ F.entry_list_pop (F.args_list_pop_1 _) (JN l its.toArray n u G (by rw[Aj];omega)) ⟨e,?_⟩;refine⟨y,_,I.lset (its':=its.dropLast) L e ?_ r.dropLast ?_,ru,q⟩;show its.toArray.eraseIdxIfInBounds (its.toArray.size-1)=its.dropLast.toArray;rw[Aj,List.eraseIdxIfInBounds_toArray,fW];rw[Eu];omega
theorem aFT{α:Type}(xs:List α)(k:Nat):(Ae k xs).flatten.length=k*xs.length:=by
 induction k with
 | zero=>simp|succ k B=>rw[Bb,B8,DM,B,Hz,Nat.add_comm]
end
end L2
namespace Att
open PySem PySem.W PySem.Calls PyProof.Rows
theorem nU:∀(ns:List Int) (vs:List Value),WellAll P h vs (ns.map KO)->IK vs ns:=by
 intro ns
 induction ns with
 | nil=>intro vs w;rw[List.map_nil] at w;cases w;exact .nil|cons n ns B=>
  intro vs w;rw[List.map_cons] at w;cases w with
  | cons a b=>cases a;exact .cons _ _ (B _ b)
theorem aBX{l:KH}(hn:l.most=some n){h:Heap}
 (B:l.row.toRowW.claim.pre args=true) (W:WellAll P h vals args) :
 ∃a vs ns,vals=[AB a]/\args=[WData.list (ns.map KO)]/\h.get? a=some { cls:=.type "list",data:=.seq vs.toArray }/\IK vs ns/\ns.length<=n:=by
 have U:WShape.hasAll [] args [.list .int]=true:=(pre_splitW B).1;have hc:l.pre.holds [] { args:=args }=true:=(pre_splitW B).2;obtain⟨d,r,rfl,h1,h2⟩:=hasAllW_cons U;obtain rfl:=hasAllW_nil h2;obtain⟨xs,rfl,h3⟩:=hasW_list h1;obtain⟨ns,rfl⟩:=items_int h3;have I:ns.length<=n:=by
  unfold OpenLaw.pre at hc;have L:(WTm.not (.lt (.lit (.int (n:Int))) (.len (.arg 0)))).holds [] { args:=[.list (ns.map .int)] }=true:=by have L:=(holds_andW hc).1;rw[hn] at L;exact L
  have M:=condW_of L (w_not (w_lt w_lit (w_len_list (w_arg rfl))));rw[FQ] at M;refine HV λq=>?_;have q':(n:Int)<((ns.length:Nat):Int):=by omega
  first
   | (rw[Ao q'] at M;exact absurd M (by decide))
   | (simp at M;omega)
 cases W with
 | cons w1 w2=>
  cases w2;cases w1 with
  | list ho G=>exact⟨_,_,ns,rfl,rfl,ho,nU ns _ G,I⟩
theorem aBY(l:KH)(args:List WData):l.row.toRowW.claim.post args (.bool true) args=true:=
 postW_of (r:=l.row.toRowW) (X:=(true==true))
  (show K4 [] (.bool true) .bool=true by first|rfl|decide|simp[K4,WShape.arms,WShape.armsAll])
  (show(WTm.eq .res (.lit (.bool true))).value [] { args:=args,res:=some (.bool true),after:=args }=some (.bool (true==true)) from w_eq_bool (w_res rfl) w_lit) rfl
theorem attach_call{l:KH}{XP:(Str->Option Value)->Heap->Prop}{YP:AG->Heap->Prop}{d:DefRec}
 (hn:l.most=some n) (q1:d.params.defaults=[])
 (call:∀(w:AG) (s₀ B:Ad) (mg mb:Str->Option Value) (fa:Addr) (o:Obj) (pm W doc:Value) (a:Addr) (vs:List Value) (ns:List Int),
  Ground q loose [] XP w s₀ mg mb B.heap->YP w B.heap ->
  B.heap.get? fa=some o->o.data=.func (docDef d.name d.params d.body d.scope pm W doc)->B.heap.CodeRec W d.name->mg d.name=some (.ref fa) ->
  B.heap.get? a=some { cls:=.type "list",data:=.seq vs.toArray }->IK vs ns->ns.length<=n->B.gens=#[] ->
  Eo (A1 l.prog w) FI (.call (.ref fa) ⟨[.ref a],[]⟩) (λr s'=>r=.ok (.ret (.bool true))/\OldK B.heap s'.heap/\s'.os=B.os/\Fe s'.gens) B) :
 WalkO q loose XP YP l.row.toRowW d [] (λf vs=>IZ f vs):=by intro w s₀ B mg mb G Y fa o pm W doc dV kV ho hd q0 hD q2 hg args q5 as U q4 q7 q3 q6;obtain rfl:dV=.none:=Dflts.none hD q1;obtain rfl:kV=.none:=Dflts.noKw hD;obtain⟨a,vs,ns,rfl,rfl,M,I,L⟩:=aBX hn U q3;refine enter_call (EA (call w s₀ B mg mb fa o pm W doc a vs ns G Y ho (fd_plain hd) q0 q2 M I L hg) λr s' hq=>?_);obtain⟨rfl,h2,h3,h4⟩:=hq;exact⟨.inl ⟨.bool true,.bool true,[],rfl,λ_=>rfl,.bool true,aBY l _,λ_=>⟨BM,λ_ hm=>(nomatch hm)⟩⟩,h2,h3,h4⟩
end Att
namespace L2
open PySem PySem.Spec PyProof.Rows
theorem rR:∀{vs:List Value} {ns:List Int},IK vs ns->aS (ns.map V.int) vs
 | _,_,.nil=>.nil|_,_,.cons n t h=>.cons ⟨t,rfl⟩ (rR h)
def aFU(H:Hp):Prop:=∀b,H b=none\/∃o xs,H b=some (.frz o (.lst xs))
theorem aDt{K:Aq}{mg mb:Str->Option Value}{B:Ad}{vs:List Value}{ns:List Int}
 (KX:K.In B.heap) (q2:B.heap.Ns Bu mg) (I:B.heap.Ns GV mb) (q6:∀x:Str,x ≠ "__name__" -> mb x=Co x) (q1:B.heap.NoLimit) (hg:B.gens=#[])
 (ha:B.heap.get? a=some { cls:=.type "list",data:=.seq vs.toArray }) (hi:IK vs ns) (hl:ns.length<=sizeLine) (hr:jM k FI)
 (F:∀base:Heap,K.In base->base.Ns Bu mg->nT P w K mg base CX k fa fd [x] sp) (W:∀(s:Ad) (u:Value),JM s fd ⟨[u],[]⟩ [(x,u)])
 (q7:∀H:Hp,aFU H->SqL K H a (ns.map V.int)->sp [.ref a] H (λv _=>v=.bl true) λ_ _ _=>False)
 (q5:∀H e L,CX [] H B (λ_ _ _=>False) e L->False) :
 Eo (A1 P w) FI (.call (.ref fa) ⟨[.ref a],[]⟩) (λr L=>r=.ok (.ret (.bool true))/\OldK B.heap L.heap/\L.os=B.os/\Fe L.gens) B:=by
 have rv:=rR hi;have q4:=hi.length;have U:∀H:Hp,aFU H->SqL K H a (ns.map V.int)->HOk P w H B.heap->(∀b,H b≠none->b=a)->(H a≠none->K.lookup a=none) ->
  Eo (A1 P w) FI (.call (.ref fa) ⟨[.ref a],[]⟩) (λr L=>r=.ok (.ret (.bool true))/\OldK B.heap L.heap/\L.os=B.os/\Fe L.gens) B:=by
  intro H hO hS hok hA hK;have G:∀{b:Addr} {o:Obj},B.heap.get? b=some o->H b=none->(tK B.heap H).get? b=some o:=λe n=>aCU e n;have q8:∀{b:Addr} {o:Obj} {es:Array Cs} {ep:Nat},B.heap.get? b=some o->o.data=.dict es ep->H b=none:=λ{b o es ep} e d=>by
   cases q:H b with
   | none=>rfl|some u=>have e':b=a:=hA b (by rw[q];simp);subst e';rw[ha] at e;cases e;have d':Ja vs.toArray _=Data.dict es ep:=d;cases d'
  have M:∀{b:Addr} {m:Str->Option Value},B.heap.Ns b m->(tK B.heap H).Ns b m:=λ{b m} ⟨o,es,ep,e,d,r⟩=>⟨o,es,ep,G e (q8 e d),d,r⟩
  have q0:K.In (tK B.heap H):=λb o e=>G (KX b o e) (by
   cases q:H b with
   | none=>rfl|some u=>
    have e':b=a:=hA b (by rw[q];simp);subst e';rw[hK (by rw[q];simp)] at e;cases e)
  have hM:Mod K mg (tK B.heap H):=⟨q0,M q2,⟨mb,M I,q6⟩,let ⟨mc,h1,h2⟩:=q1;⟨mc,M h1,h2⟩⟩
  have e0:aFL P w K mg (tK B.heap H) FI [] B H:=⟨rfl,hM,λb o e=>aFx e,Nat.le_of_eq (aBP _ _),trivial,λb I=>absurd (show b∈([]:List Addr) from I) (by simp),hok,.of_eq hg⟩
  refine EA ((F _ q0 (M q2)).run FI [] B H ⟨[.ref a],[]⟩ [.ref a] [.ref a] _ _ hr e0 (W B (.ref a)) (.cons rfl .nil) (q7 H hO hS)) λr L h=>?_;cases r with
  | error e=>exact(q5 H e L h).elim|ok fl=>
   cases fl with
   | next=>exact BL h|brk=>exact BL h|cont=>exact BL h|ret u=>
    obtain⟨v,H',os,bare,un,q3,r',q⟩:=h;have q':v=.bl true:=q;subst q';obtain rfl:u=CZ true:=r';refine⟨rfl,OldK.of_keep λb o e=>?_,os,bare⟩;cases q:H b with
    | none=>exact un.keep b o e q (by intro z;exact absurd (show b∈([]:List Addr) from z) (by simp)) (by simp)|some u=>
     rcases hO b with z|⟨ob,xs,z⟩
     rw[q] at z;cases z;have z2:=un.frzs b ob _ z;obtain⟨e1,_⟩:=hok b _ z;obtain⟨e2,_⟩:=q3 b _ z2;rw[e] at e1;cases e1;exact e2
 cases hk:K.lookup a with
 | some o=>have e:=KX a o hk;rw[ha] at e;cases e;refine U (λ_=>none) (λ_=>.inl rfl) (.inr ⟨_,vs.toArray,_,hk,rfl,rfl,rfl,by rw[Aj,q4];exact hl,by simpa using rv⟩) (λb u z=>by have z':(none:Option HO)=some u:=z;cases z') (λb z=>absurd rfl z) λz=>absurd rfl z|none=>refine U (λb=>if b=a then some (.frz { cls:=.type "list",data:=.seq vs.toArray } (.lst (ns.map V.int))) else none) (λb=>?_) (.inl (.inr ⟨{ cls:=.type "list",data:=.seq vs.toArray },if_pos rfl⟩)) (λb u z=>?_) (λb z=>?_) λ_=>hk;by_cases I:b=a;exact .inr ⟨_,_,if_pos I⟩;exact .inl (if_neg I);by_cases I:b=a;have z':=(if_pos I).symm.trans z;cases z';subst I;exact⟨ha,by rw[FQ];exact hl,vs,_,rv,ha⟩;have z':=(if_neg I).symm.trans z;cases z';by_cases I:b=a;exact I;exact absurd (if_neg I) z
def iQ(s:Cu):G6:=match s with|.FunctionDef _ a _ _ _ _ _ _ _ _=>a|_=>{ posonlyargs:=[],args:=[],vararg:=none,kwonlyargs:=[],kw_defaults:=[],kwarg:=none,defaults:=[] }
def iR(s:Cu):List Cu:=match s with|.FunctionDef _ _ b _ _ _ _ _ _ _=>b|_=>[]
def bL(s:Cu):Dp:=match s with|.FunctionDef _ _ _ _ _ _ sc _ _ _=>sc|_=>{ kind:=.function,names:=[],isGenerator:=false,isCoroutine:=false }
abbrev CX0:CXT:=λ_ _ _ _ _ _=>False
abbrev E0:XK:=λ_ _ _=>False
theorem rS:tN CX0 X E0:=λ_ _ _ _ _ _ _ h=>h.elim
structure Fun (K:Aq) (x qual:Str) (st:Cu) (f:Addr) (fd:Et):Prop where
 ex:∃(oc:Value) (od:Option Addr) (kV doc pm:Value) (an:Option Addr) (cdv ct:Value) (osl:Array (Option Value)),
  fd=FC x qual (iQ st) (iR st) (bL st) .none kV doc pm an cdv ct/\K.lookup f=some ⟨oc,od,.func fd,osl⟩/\IV K cdv qual=true
 kp:CQ K (.ref f)=true
section
variable {P:A3} {w:AG} {K:Aq} {mg:Str->Option Value} {base:Heap}
theorem Fun.ok{x qual:Str}{st:Cu}{f:Addr}{fd:Et}{N ps:List Str}{k:Nat}{sp:Sp}(F:Fun K x qual st f fd)(S:nY N ps (bL st))(len:∀vs H Q E,sp vs H Q E->vs.length=ps.length)
 (B:∀(cdv:Value) (A:Bh) (outer:List Ke) (s:Ad) (H:Hp) (vs:List V) (Q:VK) (E:XK),jM k (A.deeper (Gi qual (bL st) s.heap.objs.size f cdv))->sp vs H Q E ->
  ∃t,PSs (zB CX0 P w K mg base N qual (bL st) f cdv A outer s H E).nox (iR st) t/\t { nx:=λ_ H'=>Q .non H',rt:=Q } (start N vs) H):nT P w K mg base CX0 (k+1) f fd ps sp:=by obtain⟨oc,od,kV,doc,pm,an,cdv,ct,osl,rfl,M,G⟩:=F.ex;refine aLz M G S len λA outer s H vs Q E L I=>?_;obtain⟨t,h,q⟩:=B cdv A outer s H vs Q E L I;exact⟨t,h.nox,q⟩
theorem Fun.binds{x qual:Str}{st:Cu}{f:Addr}{fd:Et}{ps:List Str}(F:Fun K x qual st f fd)
 (h:∀(kV doc pm:Value) (an:Option Addr) (cdv ct:Value) (us:List Value),us.length=ps.length->IS (FC x qual (iQ st) (iR st) (bL st) .none kV doc pm an cdv ct) ⟨us,[]⟩=pure (ps.zip us)):jG K fd ps []:=by obtain⟨oc,od,kV,doc,pm,an,cdv,ct,osl,rfl,G,B⟩:=F.ex;exact .all (h kV doc pm an cdv ct)
end
theorem aII{A B:Prop}(h:B):if false=true then A else B:=by rw[if_neg EI];exact h
theorem aLG{A B:Prop}(h:A):if true=true then A else B:=by rw[if_pos rfl];exact h
def aI(H H':Hp):Prop:=∀b o,H b=some o->H' b=some o
theorem aI.refl(H:Hp):aI H H:=λ_ _ h=>h
theorem aI.trans(a:aI H H1)(b:aI H1 H2):aI H H2:=λc o h=>b c o (a c o h)
theorem aI.free(e:aI H H')(h:H' l=Kk):H l=Kk:=by
 cases q:H l with
 | none=>rfl|some o=>rw[e l o q] at h;cases h
theorem aI.seq{K:Aq}{H H':Hp}{a:Addr}{xs:List V}(e:aI H H')(h:SqL K H a xs):SqL K H' a xs:=by rcases h with(h|⟨o,h⟩)|h;exact .inl (.inl (e _ _ h));exact .inl (.inr ⟨o,e _ _ h⟩);exact .inr h
end L2
end
namespace Hp
open PySem (Str Operator CmpOp)
inductive D where
 | non|bl (b:Bool)|int (i:Int)|str (x:Str)
 | tup (ds:List D)|lst (ds:List D)
 | dic (kvs:List (D×D))
 | err (c:Nat) (fs:List D)
 deriving Inhabited
mutual
def noL:D->Bool
 | .tup ds=>noLs ds|.lst _=>false|.dic _=>false|.err _ _=>false|_=>true
def noLs:List D->Bool
 | []=>true|d::ds=>noL d&&noLs ds
end
def lim:Nat:=1000000
def b2i(b:Bool):Int:=if b then 1 else 0
def eqL(f:D->D->Option Bool):List D->List D->Option Bool
 | [],[]=>some true|a::as,b::bs=>match f a b,eqL f as bs with|some x,some y=>some (x&&y)|_,_=>none
 | _,_=>some false
noncomputable def eqF:Nat->D->D->Option Bool
 | 0,_,_=>none|n+1,a,b=>match a,b with|.non,.non=>some true|.bl a,.bl b=>some (a==b)|.int a,.int b=>some (a==b)|.str a,.str b=>some (a==b)|.bl a,.int b=>some (b2i a==b)|.int a,.bl b=>some (a==b2i b)|.tup as,.tup bs=>eqL (eqF n) as bs|.lst as,.lst bs=>if as.length=bs.length then eqL (eqF n) as bs else some false|.dic _,_=>none|_,.dic _=>none|.err _ _,_=>none|_,.err _ _=>none|_,_=>some false
def eF(n:Nat):List D->List D->Option Bool
 | [],[]=>some true|a::as,b::bs=>match eqF n a b,eF n as bs with|some x,some y=>some (x&&y)|_,_=>none
 | _,_=>some false
@[simp] theorem zG (n:Nat):∀as bs:List D,eqL (eqF n) as bs=eF n as bs
 | [],[]=>rfl|[],_::_=>rfl|_::_,[]=>rfl|a::as,b::bs=>by rw[eqL,eF,zG n as bs]
def tW:Nat:=120
def eqD(a b:D):Option Bool:=eqF tW a b
inductive R (α:Type) where
 | ok (a:α)|exc (x:D)|bad
 deriving Inhabited
def R.bind{α β:Type}(x:R α)(f:α->R β):R β:=match x with|.ok a=>f a|.exc e=>.exc e|.bad=>.bad
instance:Monad R where
 pure:=.ok
 bind:=.bind
def R.of{α:Type}:Option α->R α
 | some a=>.ok a|none=>.bad
def R.iff{α:Type}(c:Bool)(x:R α):R α:=if c then x else .bad
structure Vl where
 d:D
 fr:Bool:=false
 pa:Bool:=false
 al:List Nat:=[]
 deriving Inhabited
def Vl.cl(d:D):Vl:=⟨d,false,false,[]⟩
def Vl.sub(v:Vl)(d:D):Vl:=if noL d then .cl d else ⟨d,false,v.pa,v.al⟩
set_option genInjectivity true in
inductive Sl where
 | dead|sh (pa:Bool) (d:D)|own (pa:Bool) (ds:List D)|lent (ds:List D)|dct (ks:List (List Int))
 deriving Inhabited
abbrev Sg:=List Sl
def Sl.val(i:Nat):Sl->R Vl
 | .dead=>.bad|.sh pa d=>.ok ⟨d,false,pa&&!noL d,[]⟩|.own pa ds=>.ok ⟨.lst ds,false,pa,[i]⟩|.lent _=>.bad|.dct _=>.bad
def bV(Z:Sg)(i:Nat):R Vl:=match Z[i]? with|some s=>s.val i|none=>.bad
def Sl.freeze:Sl->Sl
 | .own pa ds=>.sh pa (.lst ds)|s=>s
noncomputable def freeze(Z:Sg):List Nat->Sg
 | []=>Z|i::is=>freeze (match Z[i]? with|some s=>Z.set i s.freeze|none=>Z) is
def Vl.slot(v:Vl):Sl:=match v.fr,v.d with|true,.lst ds=>.own v.pa ds|_,d=>.sh v.pa d
inductive Bi where
 | len|list|tuple|min|max|abs|int|str|sum|all|any|sorted|bool|repr
 deriving DecidableEq,Inhabited
inductive Mt where
 | join|upper|lower|get|startswith|endswith|index|count|copy|isdigit|find|replace|split|strip
 deriving DecidableEq,Inhabited
inductive Cl where
 | tInt|tBool|tStr|tList|tTuple|tDict|own (c:Nat)|tValueError
 deriving DecidableEq,Inhabited
inductive T where
 | n (i:Nat)
 | t (ts:List Nat)
 deriving Inhabited
mutual
inductive E where
 | c (d:D)
 | v (i:Nat)
 | op (o:Operator) (a b:E)
 | neg (a:E)
 | nt (a:E)
 | an (a b:E)
 | orr (a b:E)
 | ife (t a b:E)
 | cmp (o:CmpOp) (a b:E)
 | cmp2 (o o':CmpOp) (a b c:E)
 | idx (a b:E)
 | sli (a:E) (lo hi:Es)
 | tup (es:Es)
 | lst (es:Es)
 | dic (ks vs:Es)
 | call (f:Nat) (es:Es)
 | bi (b:Bi) (es:Es)
 | mth (m:Mt) (o:E) (es:Es)
 | isi (a:E) (cs:List Cl)
 | attr (a:E) (f:Nat)
 | comp (k:Nat) (caps:List Nat) (t:T) (it:It) (cond:Es) (elt:E)
 | numset (a:E)   -- len(set(a))
 | tget (i:Nat) (a:E)   -- a dict of the module,.get(a)
 | lzip (a b:E)   -- list(zip(a,b))
 | lix (i:Nat) (k:E)   -- x[k],x lent
 | stp (a:E) (k:Nat)   -- a[::k]
 | sset (a:E)   -- sorted(set(a)),tuples of numbers
 | callP (f:Nat) (es:Es)   -- f(..),which tells a new list
 | callC (f:Nat) (a b c:E)   -- f(a,b,c);what c holds may be told on
 | srtD (i:Nat)   -- sorted(x),x a dict of its own
inductive Es where
 | nil|cons (e:E) (es:Es)
inductive It where
 | seq (e:E)|rng (a b:E)|zip (a b:E)|enum (a:E)|rev (a:E)|rng3 (a b:Int) (c:Nat)
end
instance:Inhabited E:=⟨.c .non⟩
mutual
inductive EL where
 | e (a:E)
 | op (o:Operator) (a b:EL)
 | idx (a b:EL)
 | tup (es:ELs)
 | call (f:Nat) (es:ELs)   -- f(x,..),x lent
 | pcall (f:Nat) (es:ELs)   -- f(..),nothing lent
 | comp (k:Nat) (caps:List Nat) (t:T) (n:EL) (l':Nat) (elt:EL)   -- [elt for t in range(n)]
inductive ELs where
 | nil|cons (e:EL) (es:ELs)
end
inductive Arg where
 | e (a:E)|pop (i:Nat)
 deriving Inhabited
mutual
inductive S where
 | set (t:T) (e:E)
 | mov (i j:Nat)
 | setIx (i:Nat) (k e:E)
 | app (i:Nat) (e:E)
 | ext (i:Nat) (e:E)
 | pop (t:Option T) (i:Nat) (at':Option E)
 | clr (i:Nat)
 | ins (i:Nat) (k e:E)
 | rev (i:Nat)
 | appCall (i:Nat) (f:Nat) (as:List Arg)
 | ret (e:E)
 | retv (i:Nat)
 | retN
 | iff (c:E) (a b:Ss)
 | for (t:T) (it:It) (b:Ss)
 | whl (c:E) (b:Ss)
 | brk|cnt|pass
 | ex (e:E)
 | rse (c:Nat) (keep:Bool) (es:Es)
 | try (b:Ss) (hs:Hs)
 | tryN (b:Ss)   -- try: b,which ends without an exception
 | dnew (i:Nat)   -- i={}
 | dset (i:Nat) (e:E)   -- i=dict(e)
 | dupd (i:Nat) (e:E)   -- i.update(dict(e))
 | dput (i:Nat) (k a:E)   -- i[k]=a,a True
 | lend   -- slot 0 is lent (no text)
 | cln (z:Nat)   -- slot z holds nothing that was there ahead (no text)
 | lset (i:Nat) (k e:E)
 | setL (i l:Nat) (fz:List Nat) (e:EL)
 | appL (i l:Nat) (e:EL)
 | retL (e:EL)
 | retvL (i:Nat)
 | iffL (o:CmpOp) (a:EL) (b:E) (x y:Ss)
 | forL (t:T) (e:EL) (b:Ss)
inductive Ss where
 | nil|cons (s:S) (ss:Ss)
inductive Hs where
 | nil|cons (cs:List Cl) (n:Option Nat) (b:Ss) (hs:Hs)
end
structure Fn where
 np:Nat
 ns:Nat
 body:Ss
structure Pg where
 fns:List Fn
 above:List (List Cl)
 tabs:List (List (Str×D)):=[]
abbrev Rt:=D×Bool×Bool
abbrev Caller:=Nat->List D->R Rt
def rT(i j:Int):Bool:=(decide (-(2 ^ 64)<i)&&decide (i<2 ^ 64))||(decide (-(2 ^ 64)<j)&&decide (j<2 ^ 64))
def aHD(i j:Int):Bool:=decide (0<=j)&&decide (j<=1000)&&decide (i.natAbs<2 ^ 64)
def wH(j:Int):Bool:=decide (0<j)&&decide (j<1073741824)
def aH(k:Int):Bool:=decide (-(2 ^ 62)<=k)&&decide (k<2 ^ 62)
def Str.rep(x:Str)(k:Nat):Str:=⟨(Ae k x.cps).foldl (·++·) #[]⟩
@[simp] noncomputable def aFV (x y:Vl):R Vl:=match x.d,y.d with|.int i,.int j=>.ok (.cl (.int (i+j)))|.str a,.str b=>.iff (decide (a.length+b.length<=lim)) (.ok (.cl (.str (a++b))))|.tup a,.tup b=>.iff (decide (a.length+b.length<=lim)) (.ok ⟨.tup (a++b),false,x.pa||y.pa,x.al++y.al⟩)|.lst a,.lst b=>.iff (decide (a.length+b.length<=lim)) (.ok ⟨.lst (a++b),true,(x.pa&&!noLs a)||(y.pa&&!noLs b),(if noLs a then [] else x.al)++(if noLs b then [] else y.al)⟩)|_,_=>.bad
@[simp] noncomputable def aBZ (x y:Vl):R Vl:=match x.d,y.d with|.int i,.int j=>.iff (rT i j) (.ok (.cl (.int (i*j))))|.str a,.int k=>.iff (aH k&&decide (a.length*k.toNat<=lim)) (.ok (.cl (.str (Str.rep a k.toNat))))|.lst a,.int k=>.iff (aH k&&decide (a.length*k.toNat<=lim)) (.ok ⟨.lst (Ae k.toNat a).flatten,true,x.pa&&!noLs a,if noLs a then [] else x.al⟩)|_,_=>.bad
@[simp] def tX (f:Int->Int->R Vl) (x y:Vl):R Vl:=match x.d,y.d with|.int i,.int j=>f i j|_,_=>.bad
noncomputable def opD(o:Operator)(x y:Vl):R Vl:=match o with|.Add=>aFV x y|.Mult=>aBZ x y|.Sub=>tX (λi j=>.ok (.cl (.int (i-j)))) x y|.FloorDiv=>tX (λi j=>.iff (wH j) (.ok (.cl (.int (i / j))))) x y|.Mod=>tX (λi j=>.iff (decide (0<j)) (.ok (.cl (.int (i % j))))) x y|.Pow=>tX (λi j=>.iff (aHD i j) (.ok (.cl (.int (i ^ j.toNat))))) x y|_=>.bad
noncomputable def aDu:D->Option Bool
 | .non=>some false|.bl b=>some b|.int i=>some (i != 0)|.str x=>if x.length<=lim then some (x.length != 0) else none|.tup ds=>some (!ds.isEmpty)|.lst ds=>some (!ds.isEmpty)|_=>none
def fF(x:Vl):R Bool:=.of (aDu x.d)
def dC:List D->Option (List Int)
 | []=>some []|.int a::ds=>match dC ds with|some ns=>some (a::ns)|none=>none
 | _=>none
def lexI:List Int->List Int->Bool
 | [],[]=>false|[],_::_=>true|_::_,[]=>false|x::xs,y::ys=>if x=y then lexI xs ys else decide (x<y)
noncomputable def ltD:D->D->Option Bool
 | .int a,.int b=>some (decide (a<b))|_,_=>none
def leD:D->D->Option Bool
 | .int a,.int b=>some (decide (a<=b))|_,_=>none
def isNone:D->Bool
 | .non=>true|_=>false
noncomputable def inD(x y:D):Option Bool:=match x,y with|.str a,.str b=>some (!(Im b a 0 b.length 1).isEmpty)|_,_=>none
noncomputable def bY(o:CmpOp)(x y:D):Option Bool:=match o with
 | .Eq=>eqD x y|.NotEq=>(eqD x y).map (!·)|.Lt=>ltD x y|.Gt=>match x,y with|.int a,.int b=>some (decide (b<a))|_,_=>none
 | .LtE=>leD x y|.GtE=>match x,y with|.int a,.int b=>some (decide (b<=a))|_,_=>none
 | .Is=>match y with|.non=>some (isNone x)|_=>none
 | .IsNot=>match y with|.non=>some (!isNone x)|_=>none
 | .In=>inD x y|.NotIn=>(inD x y).map (!·)
noncomputable def ixN(n:Nat)(k:Int):Option Nat:=
 if 0<=k then (if k<n then some k.toNat else none) else (if -(n:Int)<=k then some (k+n).toNat else none)
noncomputable def bH(x y:Vl):R Vl:=match x.d,y.d with
 | .lst ds,.int k=>match ixN ds.length k with
  | some j=>match ds[j]? with|some d=>.ok (x.sub d)|none=>.bad
  | none=>.bad
 | .tup ds,.int k=>match ixN ds.length k with
  | some j=>match ds[j]? with|some d=>.ok (x.sub d)|none=>.bad
  | none=>.bad
 | .str a,.int k=>.iff (decide (a.length<=lim)) (match ixN a.length k with
  | some j=>match a.cps.toList[j]? with|some c=>.ok (.cl (.str ⟨#[c]⟩))|none=>.bad
  | none=>.bad)
 | _,_=>.bad
def sIx(n d:Nat):Option Int->Nat
 | none=>d|some v=>if v<0 then (v+(n:Int)).toNat else min v.toNat n
def cut{α:Type}(xs:List α)(lo hi:Option Int):List α:=(xs.drop (sIx xs.length 0 lo)).take (sIx xs.length xs.length hi-sIx xs.length 0 lo)
def zH(x:Str)(lo hi:Option Int):Str:=⟨(cut x.cps.toList lo hi).toArray⟩
noncomputable def eG(x:Vl)(lo hi:Option Int):R Vl:=match x.d with|.lst ds=>.ok ⟨.lst (cut ds lo hi),true,x.pa&&!noLs ds,if noLs ds then [] else x.al⟩|.tup ds=>.ok ⟨.tup (cut ds lo hi),false,x.pa&&!noLs ds,if noLs ds then [] else x.al⟩|.str a=>.iff (decide (a.length<=lim)) (.ok (.cl (.str (zH a lo hi))))|_=>.bad
noncomputable def isI(cs:List Cl)(P:Pg):D->Option Bool
 | .non=>some false|.bl _=>some (cs.contains .tBool||cs.contains .tInt)|.int _=>some (cs.contains .tInt)|.str _=>some (cs.contains .tStr)|.tup _=>some (cs.contains .tTuple)|.lst _=>some (cs.contains .tList)|.dic _=>some (cs.contains .tDict)|.err c _=>match P.above[c]? with|some ab=>some (ab.any λa=>cs.contains a)|none=>none
def tY:List D->Option (List Bool)
 | []=>some []|.bl a::ds=>match tY ds with|some bs=>some (a::bs)|none=>none
 | _=>none
noncomputable def tZ:List D->Option (List (Sum Int Str))
 | []=>some []|.int a::ds=>match tZ ds with|some ks=>some (.inl a::ks)|none=>none
 | .str a::ds=>match tZ ds with|some ks=>some (.inr a::ks)|none=>none
 | _=>none
def aDv(ks:List (Sum Int Str)):List (Sum Int Str):=ks.foldl (λZ v=>if Z.any (·==v) then Z else Z++[v]) []
noncomputable def aLH(x:D):List D->Option (List D)
 | []=>some [x]|y::ys=>match ltD x y with
  | some true=>some (x::y::ys)|some false=>match aLH x ys with|some r=>some (y::r)|none=>none
  | none=>none
def aLI:List D->Option (List D)
 | []=>some []|d::ds=>match aLI ds with|some r=>aLH d r|none=>none
@[simp] noncomputable def aCa (b:Bi) (x:Vl):R Vl:=match b with
 | .len=>match x.d with|.lst ds=>.ok (.cl (.int ds.length))|.tup ds=>.ok (.cl (.int ds.length))|.str a=>.iff (decide (a.length<=lim)) (.ok (.cl (.int a.length)))|_=>.bad
 | .list=>match x.d with|.lst ds=>.ok ⟨.lst ds,true,x.pa&&!noLs ds,if noLs ds then [] else x.al⟩|.tup ds=>.ok ⟨.lst ds,true,x.pa&&!noLs ds,if noLs ds then [] else x.al⟩|_=>.bad
 | .tuple=>match x.d with|.lst ds=>.ok ⟨.tup ds,false,x.pa&&!noLs ds,if noLs ds then [] else x.al⟩|.tup ds=>.ok ⟨.tup ds,false,x.pa,x.al⟩|_=>.bad
 | .int=>match x.d with|.int i=>.ok (.cl (.int i))|.bl b=>.ok (.cl (.int (b2i b)))|_=>.bad
 | .sum=>match x.d with
  | .lst ds=>match dC ds with|some ns=>.ok (.cl (.int ns.sum))|none=>.bad
  | _=>.bad
 | .all=>match x.d with
  | .lst ds=>match tY ds with|some bs=>.ok (.cl (.bl (bs.all id)))|none=>.bad
  | _=>.bad
 | .any=>match x.d with
  | .lst ds=>match tY ds with|some bs=>.ok (.cl (.bl (bs.any id)))|none=>.bad
  | _=>.bad
 | _=>.bad
@[simp] noncomputable def aLJ (b:Bi) (x y:Vl):R Vl:=match b with
 | .min=>match x.d,y.d with|.int i,.int j=>.ok (.cl (.int (if j<i then j else i)))|_,_=>.bad
 | .max=>match x.d,y.d with|.int i,.int j=>.ok (.cl (.int (if j>i then j else i)))|_,_=>.bad
 | _=>.bad
def biD(b:Bi)(xs:List Vl):R Vl:=match xs with|[x]=>aCa b x|[x,y]=>aLJ b x y|_=>.bad
def aDw:List D->Option (List Str)
 | []=>some []|.str x::ds=>match aDw ds with|some r=>some (x::r)|none=>none
 | _=>none
def aLK:D->D->Bool
 | .int a,.int b=>a==b|.str a,.str b=>a==b|_,_=>false
def aLL:D->Bool
 | .int _=>true|.str _=>true|_=>false
def aHE(k:D):List (D×D)->Option D
 | []=>none|(a,d)::r=>if aLK a k then some d else aHE k r
def upC(n:Nat):Nat:=if 97<=n/\n<=122 then n-32 else n
noncomputable def mtD(m:Mt)(x:Vl)(ys:List Vl):R Vl:=match m,x.d,ys with
 | .join,.str a,[y]=>match y.d with
  | .lst ds=>match aDw ds with|some xs=>.iff (decide ((xs.map (·.length)).sum+xs.length*a.length<=lim)) (.ok (.cl (.str (KT a xs))))|none=>.bad
  | _=>.bad
 | .get,.dic kvs,[y]=>.iff (aLL y.d) (match aHE y.d kvs with
  | some d=>.ok (x.sub d)|none=>.ok (.cl .non))
 | .upper,.str a,[]=>.iff (a.cps.all (·<128)) (.ok (.cl (.str ⟨a.cps.map upC⟩)))|_,_,_=>.bad
def bR(vs:List Vl):List Nat:=vs.flatMap (·.al)
def aU(vs:List Vl):Bool:=vs.any (·.pa)
def rV(vs:List Vl):Vl:=⟨.tup (vs.map (·.d)),false,aU vs,bR vs⟩
def oV(vs:List Vl):Vl:=⟨.lst (vs.map (·.d)),true,aU vs,bR vs⟩
noncomputable def cS(args:List Vl)(r:Rt):Vl:=if r.2.2 then ⟨r.1,r.2.1,aU args,bR args⟩ else ⟨r.1,r.2.1,false,[]⟩
noncomputable def bX(a b:Int):List D:=(A9 (b-a).toNat).map λ(k:Nat)=>.int (a+(k:Int))
noncomputable def aHF:Int->List D->List D
 | _,[]=>[]
 | k,d::ds=>.tup [.int k,d]::aHF (k+1) ds
noncomputable def jD:List D->List D->List D
 | a::as,b::bs=>.tup [a,b]::jD as bs|_,_=>[]
noncomputable def aT(Z:Sg)(v:Vl):T->R Sg
 | .n i=>.ok (Z.set i v.slot)|.t is=>match v.d with|.tup ds=>if ds.length=is.length then .ok ((is.zip ds).foldl (λZ p=>Z.set p.1 (v.sub p.2).slot) Z) else .bad|_=>.bad
noncomputable def dD(f:Vl->R (Option Vl)):List Vl->R (List Vl)
 | []=>.ok []|x::xs=>do
  let y<-f x
  let ys<-dD f xs
  match y with
  | some y=>.ok (y::ys)|none=>.ok ys
def aIJ{α:Type}(k:Nat)(xs:List α):List α:=(A9 ((xs.length+k-1) / k)).filterMap λm=>xs[m*k]?
noncomputable def aFW(a b:Int)(c:Nat):List D:=(A9 (((b-a)+c-1) / c).toNat).map λ(k:Nat)=>.int (a+(k:Int)*c)
def jN:D->Option (List D)
 | .lst ds=>some ds|.tup ds=>some ds|_=>none
noncomputable def items(x:Vl)(ds:List D):List Vl:=ds.map x.sub
def kC(k:Nat)(caps al:List Nat)(vs:List Vl):Vl:=
 if noLs (vs.map (·.d)) then ⟨.lst (vs.map (·.d)),true,false,[]⟩
 else ⟨.lst (vs.map (·.d)),true,aU vs,al++(bR vs).filterMap λj=>caps[j-k]?⟩
def aHG(x y:Vl)(ds:List D):Vl:=if noLs ds then ⟨.lst ds,true,false,[]⟩ else ⟨.lst ds,true,x.pa||y.pa,x.al++y.al⟩
def gX(Z:Sg)(i:Nat):Option (List (List Int)):=match Z[i]? with|some (.dct ks)=>some ks|_=>none
def nF:D->Option (List Int)
 | .tup ds=>dC ds|_=>none
def gO:List D->Option (List (List Int))
 | []=>some []|d::ds=>match nF d,gO ds with|some k,some ks=>some (k::ks)|_,_=>none
def cP:List D->Option (List (List Int))
 | []=>some []|.tup [d,.bl true]::ds=>match nF d,cP ds with|some k,some ks=>some (k::ks)|_,_=>none
 | _=>none
noncomputable def wJ(k:List Int):List (List Int)->List (List Int)
 | []=>[k]
 | y::ys=>if lexI k y then k::y::ys else if k=y then y::ys else y::wJ k ys
noncomputable def ssT(ks:List (List Int)):List (List Int):=ks.foldr wJ []
def rG(k:List Int):D:=.tup (k.map .int)
def neK(ks:List (List Int)):Bool:=ks.all λk=>!k.isEmpty
def putKs(ks:List (List Int))(k:List Int):List (List Int):=if k∈ks then ks else ks++[k]
noncomputable def tupHs(k:List Int):Int:=PySem.reduceHash (HN (k.map PySem.hashInt))
noncomputable def jO(ks:List (List Int)):Bool:=decide ((ks.map tupHs).Nodup)
def aFX(r:Rt):R Vl:=match r.1 with|.lst es=>.iff (noLs es&&(r.2.1||!r.2.2)) (.ok ⟨.lst es,true,false,[]⟩)|_=>.bad
def aFY(z:Nat):Ss->Bool
 | .cons (.cln z') _=>z==z'|_=>false
def aCb(P:Pg)(f z:Nat):Bool:=match P.fns[f]? with|some F=>aFY z F.body|none=>false
def aDx(x y z:Vl)(r:Rt):Vl:=⟨r.1,false,r.2.2&&(x.pa||y.pa),(if r.2.2 then x.al++y.al else [])++z.al⟩
section
variable (P:Pg) (W:Caller)
mutual
noncomputable def ev(Z:Sg):E->R Vl
 | .c d=>.ok (.cl d)|.v i=>bV Z i|.op o a b=>do let x<-ev Z a;let y<-ev Z b;opD o x y
 | .neg a=>do
  let x<-ev Z a
  match x.d with
  | .int i=>.ok (.cl (.int (-i)))|_=>.bad
 | .nt a=>do let x<-ev Z a;let k<-fF x;.ok (.cl (.bl (!k)))
 | .an a b=>do
  let x<-ev Z a
  match x.d with
  | .bl true=>ev Z b|.bl false=>.ok (.cl (.bl false))|_=>.bad
 | .orr a b=>do
  let x<-ev Z a
  match x.d with
  | .bl true=>.ok (.cl (.bl true))|.bl false=>ev Z b|_=>.bad
 | .ife t a b=>do
  let x<-tst Z t
  if x then ev Z a else ev Z b
 | .cmp o a b=>do
  let x<-ev Z a
  let y<-ev Z b
  match bY o x.d y.d with
  | some k=>.ok (.cl (.bl k))|none=>.bad
 | .cmp2 o o' a b c=>do
  let x<-ev Z a
  let y<-ev Z b
  match bY o x.d y.d with
  | some true=>do
   let z<-ev Z c
   match bY o' y.d z.d with
   | some k=>.ok (.cl (.bl k))|none=>.bad
  | some false=>.ok (.cl (.bl false))|none=>.bad
 | .idx a b=>do let x<-ev Z a;let y<-ev Z b;bH x y
 | .sli a lo hi=>do
  let x<-ev Z a
  let l<-evs Z lo
  let h<-evs Z hi
  match l,h with
  | [],[]=>eG x none none|[l],[]=>match l.d with|.int l=>.iff (aH l) (eG x (some l) none)|_=>.bad
  | [],[h]=>match h.d with|.int h=>.iff (aH h) (eG x none (some h))|_=>.bad
  | [l],[h]=>match l.d,h.d with|.int l,.int h=>.iff (aH l&&aH h) (eG x (some l) (some h))|_,_=>.bad
  | _,_=>.bad
 | .tup es=>do let vs<-evs Z es;.ok (rV vs)
 | .lst es=>do let vs<-evs Z es;.ok (oV vs)
 | .dic ks vs=>do
  let ks<-evs Z ks
  let vs<-evs Z vs
  match (ks.map (λ(v:Vl)=>v.d):List D),(vs.map (λ(v:Vl)=>v.d):List D) with
  | [.int k],[.int v]=>.ok (.cl (.dic [(.int k,.int v)]))|[.int k],[.bl v]=>.ok (.cl (.dic [(.int k,.bl v)]))|_,_=>.bad
 | .call f es=>do
  let vs<-evs Z es
  let r<-W f (vs.map (·.d))
  .ok (cS vs r)
 | .bi b es=>do let vs<-evs Z es;biD b vs
 | .mth m o es=>do let x<-ev Z o;let ys<-evs Z es;mtD m x ys
 | .isi a cs=>do
  let x<-ev Z a
  match isI cs P x.d with
  | some k=>.ok (.cl (.bl k))|none=>.bad
 | .attr a f=>do
  let x<-ev Z a
  match x.d with
  | .err _ fs=>match fs[f]? with|some d=>.ok (x.sub d)|none=>.bad
  | _=>.bad
 | .comp k caps t it cond elt=>do
  let xs<-walk Z it
  let vs<-dD (λx=>do
   let Z1<-aT (Ae k .dead++caps.map λi=>((freeze Z xs.2)[i]?).getD .dead) x t
   let k<-tsts Z1 cond
   if k then do let y<-ev Z1 elt;.ok (some y) else .ok none) xs.1
  .iff (decide (vs.length<=lim)) (.ok (kC k caps xs.2 vs))
 | .numset a=>do
  let x<-ev Z a
  match x.d with
  | .lst ds=>match tZ ds with|some ks=>.iff (decide (ds.length<=1000)) (.ok (.cl (.int (aDv ks).length)))|none=>.bad
  | _=>.bad
 | .tget i a=>do
  let x<-ev Z a
  match x.d,P.tabs[i]? with
  | .str k,some t=>.ok (.cl ((t.lookup k).getD .non))|_,_=>.bad
 | .lzip a b=>do
  let x<-ev Z a
  let y<-ev Z b
  match jN x.d,jN y.d with
  | some as,some bs=>.iff (decide (as.length<=lim)) (.ok (aHG x y (jD as bs)))|_,_=>.bad
 | .lix i k=>do
  let y<-ev Z k
  match Z[i]? with
  | some (.lent ds)=>bH ⟨.lst ds,false,true,[]⟩ y|_=>.bad
 | .stp a k=>do
  let x<-ev Z a
  match x.d with
  | .lst ds=>.iff (decide (0<k)) (.ok ⟨.lst (aIJ k ds),true,x.pa&&!noLs ds,if noLs ds then [] else x.al⟩)|_=>.bad
 | .sset a=>do
  let x<-ev Z a
  match x.d with
  | .lst ds=>(match gO ds with
   | some ks=>.iff (neK ks&&decide ((ssT ks).length<=18)) (.ok ⟨.lst ((ssT ks).map rG),true,false,[]⟩)|none=>.bad)
  | _=>.bad
 | .callP f es=>do
  let vs<-evs Z es
  let r<-W f (vs.map (·.d))
  aFX r
 | .callC f a b c=>do
  let x<-ev Z a
  let y<-ev Z b
  let z<-ev Z c
  if z.pa then (do let r<-W f [x.d,y.d,z.d];.ok (cS [x,y,z] r))
  else .iff (aCb P f 2) (do let r<-W f [x.d,y.d,.err 2 [z.d]];.ok (aDx x y z r))
 | .srtD i=>match gX Z i with|some ks=>.iff (neK ks&&decide (ks.length<=60)) (.ok ⟨.lst ((ssT ks).map rG),true,false,[]⟩)|none=>.bad
noncomputable def tst(Z:Sg):E->R Bool
 | .nt a=>do let x<-tst Z a;.ok (!x)
 | .an a b=>do
  let x<-tst Z a
  if x then tst Z b else .ok false
 | .orr a b=>do
  let x<-tst Z a
  if x then .ok true else tst Z b
 | .c d=>fF (.cl d)|.v i=>do let x<-bV Z i;fF x
 | .cmp o a b=>do
  let x<-ev Z a
  let y<-ev Z b
  match bY o x.d y.d with
  | some k=>.ok k|none=>.bad
 | .cmp2 o o' a b c=>do
  let x<-ev Z a
  let y<-ev Z b
  match bY o x.d y.d with
  | some true=>do
   let z<-ev Z c
   match bY o' y.d z.d with
   | some k=>.ok k|none=>.bad
  | some false=>.ok false|none=>.bad
 | .call f es=>do
  let vs<-evs Z es
  let r<-W f (vs.map (·.d))
  fF (cS vs r)
 | .bi b es=>do let vs<-evs Z es;let x<-biD b vs;fF x
 | .mth m o es=>do let x<-ev Z o;let ys<-evs Z es;let z<-mtD m x ys;fF z
 | .idx a b=>do let x<-ev Z a;let y<-ev Z b;let z<-bH x y;fF z
 | .isi a cs=>do
  let x<-ev Z a
  match isI cs P x.d with
  | some k=>.ok k|none=>.bad
 | _=>.bad
noncomputable def evs(Z:Sg):Es->R (List Vl)
 | .nil=>.ok []|.cons e es=>do let x<-ev Z e;let xs<-evs Z es;.ok (x::xs)
noncomputable def walk(Z:Sg):It->R (List Vl×List Nat)
 | .seq e=>do
  let x<-ev Z e
  match x.d with
  | .lst ds=>.ok (items x ds,x.al)|.tup ds=>.ok (items x ds,x.al)|.str a=>.iff (decide (a.length<=lim)) (.ok (a.cps.toList.map λn=>.cl (.str ⟨#[n]⟩),[]))|_=>.bad
 | .rng a b=>do
  let x<-ev Z a
  let y<-ev Z b
  match x.d,y.d with
  | .int i,.int j=>.iff (aH i&&aH j) (.ok ((bX i j).map .cl,[]))|_,_=>.bad
 | .zip a b=>do
  let x<-ev Z a
  let y<-ev Z b
  match jN x.d,jN y.d with
  | some as,some bs=>.ok (items ⟨.non,false,x.pa||y.pa,x.al++y.al⟩ (jD as bs),x.al++y.al)|_,_=>.bad
 | .enum a=>do
  let x<-ev Z a
  match jN x.d with
  | some as=>.ok (items x (aHF 0 as),x.al)|none=>.bad
 | .rev a=>do
  let x<-ev Z a
  match jN x.d with
  | some as=>.ok (items x as.reverse,x.al)|none=>.bad
 | .rng3 a b c=>.iff (aH a&&aH b&&decide (0<c)&&decide (c<1000)) (.ok ((aFW a b c).map .cl,[]))
noncomputable def tsts(Z:Sg):Es->R Bool
 | .nil=>.ok true|.cons e es=>do
  let x<-tst Z e
  if x then tsts Z es else .ok false
end
set_option genInjectivity true in
inductive O where
 | next (Z:Sg)|brk (Z:Sg)|cnt (Z:Sg)|ret (v:Vl)|exc (x:D) (Z:Sg)|bad
 deriving Inhabited
def O.from{α:Type}(Z:Sg)(x:R α)(f:α->O):O:=match x with|.ok a=>f a|.exc e=>.exc e Z|.bad=>.bad
def O.on(o:O)(f:Sg->O):O:=match o with|.next Z=>f Z|o=>o
noncomputable def cA(f:Sg->Vl->O):List Vl->Sg->O
 | [],Z=>.next Z|x::xs,Z=>match f Z x with|.next Z'=>cA f xs Z'|.cnt Z'=>cA f xs Z'|.brk Z'=>.next Z'|o=>o
noncomputable def gY(t:Sg->R Bool)(f:Sg->O):Nat->Sg->O
 | 0,_=>.bad|n+1,Z=>O.from Z (t Z) λk=>if k then (match f Z with
     | .next Z'=>gY t f n Z'|.cnt Z'=>gY t f n Z'|.brk Z'=>.next Z'|o=>o) else .next Z
def aAH:Nat:=100000
def fJ(Z:Sg)(i:Nat):Option (Bool×List D):=match Z[i]? with|some (.own pa ds)=>some (pa,ds)|_=>none
noncomputable def put(Z:Sg)(i:Nat)(v:Vl)(f:List D->Option (List D)):O:=match fJ (freeze Z v.al) i with
 | some (pa,ds)=>match f ds with|some ds'=>if ds'.length<=lim then .next ((freeze Z v.al).set i (.own (pa||v.pa) ds')) else .bad|none=>.bad
 | none=>.bad
def aHH(Z:Sg)(i:Nat)(v:Vl):O:=put Z i v λds=>some (ds++[v.d])
noncomputable def oW(v:Vl):Option (Vl×List D):=match v.d with|.lst ds=>if v.fr||(noLs ds&&v.al.isEmpty) then some (⟨.non,false,v.pa&&!noLs ds,if noLs ds then [] else v.al⟩,ds) else none|_=>none
noncomputable def hG(Z:Sg)(i:Nat)(k:Option Int):R (Vl×Sg):=match fJ Z i with
 | some (pa,ds)=>match (match k with|none=>ixN ds.length (-1)|some k=>ixN ds.length k) with
  | some j=>match ds[j]? with|some d=>.ok (Vl.sub ⟨.non,false,pa,[]⟩ d,Z.set i (.own pa (ds.eraseIdx j)))|none=>.bad
  | none=>.bad
 | none=>.bad
noncomputable def zI(e:Sg->E->R Vl):Sg->List Vl->List Arg->R (List Vl×Sg)
 | Z,acc,[]=>.ok (acc,Z)|Z,acc,.e a::as=>do let x<-e Z a;zI e Z (acc++[x]) as
 | Z,acc,.pop j::as=>do
  let (x,Z')<-hG Z j none
  if (bR acc).contains j then .bad else zI e Z' (acc++[x]) as
noncomputable def aAI(e:Option (R Vl)):R (Option Int):=match e with
 | none=>.ok none|some x=>do
  let v<-x
  match v.d with
  | .int k=>.iff (aH k) (.ok (some k))|_=>.bad
def Vl.nr(v:Vl):Vl:=⟨v.d,false,v.pa,[]⟩
noncomputable def bK(Z:Sg)(l:Nat):Option (Bool×List D):=match Z[l]? with|some (.own pa ds)=>some (pa,ds)|some (.lent ds)=>some (true,ds)|_=>none
noncomputable def bZ(Z:Sg)(l:Nat)(pa:Bool)(ds:List D):Sg:=match Z[l]? with|some (.own _ _)=>Z.set l (.own pa ds)|some (.lent _)=>Z.set l (.lent ds)|_=>Z
def aAJ:Ss->Bool
 | .cons .lend _=>true|_=>false
def nG(P:Pg)(f:Nat):Bool:=match P.fns[f]? with|some F=>aAJ F.body|none=>false
def aDy:D->Option (D×List D)
 | .tup [d,.err 0 cs]=>some (d,cs)|_=>none
def noAl(v:Vl)(Z:Sg):R (Vl×Sg):=if v.al.isEmpty then .ok (v,Z) else .bad
noncomputable def fX(Z:Sg)(l:Nat)(pa:Bool)(vs:List Vl)(q:Rt):R (Vl×Sg):=match aDy q.1 with|some (d,cs)=>.ok (⟨d,q.2.1,q.2.2&&(pa||aU vs),[]⟩,bZ Z l (pa||aU vs) cs)|none=>.bad
noncomputable def dE(f:Sg->Vl->R (Vl×Sg)):List Vl->Sg->R (List Vl×Sg)
 | [],Z=>.ok ([],Z)|x::xs,Z=>do
  let y<-f Z x
  let r<-dE f xs y.2
  .ok (y.1::r.1,r.2)
noncomputable def chB(k:Nat)(caps:List Nat)(Z:Sg):Sg:=Ae k .dead++caps.map λi=>(Z[i]?).getD .dead
mutual
noncomputable def evl(l:Nat)(Z:Sg):EL->R (Vl×Sg)
 | .e a=>do let x<-ev P W Z a;noAl x Z
 | .op o a b=>do
  let x<-evl l Z a
  let y<-evl l x.2 b
  let z<-opD o x.1.nr y.1.nr
  noAl z y.2
 | .idx a b=>do
  let x<-evl l Z a
  let y<-evl l x.2 b
  let z<-bH x.1.nr y.1.nr
  noAl z y.2
 | .tup es=>do let r<-evls' l Z es;.ok (⟨.tup (r.1.map (·.d)),false,aU r.1,[]⟩,r.2)
 | .call f es=>R.iff ((bK Z l).isSome&&nG P f) do
  let r<-evls' l Z es
  match bK r.2 l with
  | some (pa,cs)=>do
   let q<-W f (.err 0 cs::r.1.map (·.d))
   fX r.2 l pa r.1 q
  | none=>.bad
 | .pcall f es=>do
  let r<-evls' l Z es
  let q<-W f (r.1.map (·.d))
  noAl (cS r.1 q) r.2  | .comp k caps t n l' elt=>do
  let r<-evl l Z n
  match r.1.d with
  | .int j=>.iff (aH j) do
   let q<-dE (λZ x=>do
    let Z1<-aT (chB k caps Z) x t
    let y<-evl l' Z1 elt
    match bK Z l,bK y.2 l' with
    | some _,some (pa,cs)=>.ok (y.1,bZ Z l pa cs)|_,_=>.bad) ((bX 0 j).map .cl) r.2
   .iff (decide (q.1.length<=lim)) (.ok (⟨.lst (q.1.map (·.d)),true,aU q.1,[]⟩,q.2))
  | _=>.bad
noncomputable def evls'(l:Nat)(Z:Sg):ELs->R (List Vl×Sg)
 | .nil=>.ok ([],Z)|.cons e es=>do
  let x<-evl l Z e
  let r<-evls' l x.2 es
  .ok (x.1::r.1,r.2)
end
def nH(v:Vl)(Z:Sg):O:=match Z[(0:Nat)]? with|some (.lent cs)=>.ret ⟨.tup [v.d,.err 0 cs],v.fr,v.pa,[]⟩|_=>.bad
mutual
noncomputable def ex(Z:Sg):S->O
 | .set t e=>O.from Z (ev P W Z e) λv=>O.from Z (aT (freeze Z v.al) v t) .next|.mov i j=>match Z[j]? with|some (.own pa ds)=>if i=j then .bad else .next ((Z.set j .dead).set i (.own pa ds))|some (.sh pa d)=>.next (Z.set i (.sh (pa&&!noL d) d))|_=>.bad
 | .setIx i k e=>O.from Z (ev P W Z e) λv=>O.from Z (ev P W Z k) λkv=>match kv.d with
  | .int k=>put Z i v λds=>match ixN ds.length k with|some j=>some (ds.set j v.d)|none=>none
  | _=>.bad
 | .app i e=>O.from Z (ev P W Z e) λv=>aHH Z i v|.ext i e=>O.from Z (ev P W Z e) λv=>match oW v with|some (v',ds')=>put Z i v' λds=>some (ds++ds')|none=>.bad
 | .pop t i k=>O.from Z (aAI (k.map λe=>ev P W Z e)) λk=>O.from Z (hG Z i k) λ(v,Z')=>match t with|none=>.next Z'|some t=>O.from Z' (aT Z' v t) .next
 | .clr i=>put Z i (.cl .non) λ_=>some []|.ins i k e=>O.from Z (ev P W Z k) λkv=>O.from Z (ev P W Z e) λv=>match kv.d with|.int k=>if 0<=k/\k<1000000 then put Z i v λds=>some (ds.take k.toNat++v.d::ds.drop k.toNat) else .bad|_=>.bad
 | .rev i=>put Z i (.cl .non) λds=>some ds.reverse|.appCall i f as=>O.from Z (zI (λZ a=>ev P W Z a) Z [] as) λ(vs,Z')=>O.from Z' (W f (vs.map (·.d))) λr=>aHH Z' i (cS vs r)|.ret e=>O.from Z (ev P W Z e) .ret|.retv i=>match Z[i]? with|some (.own pa ds)=>.ret ⟨.lst ds,true,pa,[]⟩|_=>O.from Z (bV Z i) .ret
 | .retN=>.ret (.cl .non)|.iff c a b=>O.from Z (tst P W Z c) λk=>if k then exs Z a else exs Z b|.for t it b=>O.from Z (walk P W Z it) λxs=>cA (λZ x=>O.from Z (aT Z x t) λZ'=>exs Z' b) xs.1 (freeze Z xs.2)|.whl c b=>gY (λZ=>tst P W Z c) (λZ=>exs Z b) aAH Z|.brk=>.brk Z|.cnt=>.cnt Z|.pass=>.next Z|.ex e=>O.from Z (ev P W Z e) λ_=>.next Z|.rse c keep es=>O.from Z (evs P W Z es) λvs=>.exc (.err c (if keep then vs.map (·.d) else [])) Z|.try b hs=>match exs Z b with|.exc x Z'=>hdl Z' x hs|o=>o
 | .lend=>match Z[(0:Nat)]? with|some (.sh true (.err 0 cs))=>.next (Z.set 0 (.lent cs))|_=>.bad
 | .cln z=>match Z[z]? with|some (.sh true (.err 2 [d]))=>.next (Z.set z (.sh false d))|_=>.next Z
 | .tryN b=>exs Z b|.dnew i=>.next (Z.set i (.dct []))|.dset i e=>O.from Z (ev P W Z e) λv=>match v.fr,v.d with
  | true,.lst ds=>(match cP ds with
   | some ks=>if ks.length<=1000 then .next (Z.set i (.dct (ks.foldl putKs []))) else .bad|none=>.bad)
  | _,_=>.bad
 | .dupd i e=>O.from Z (ev P W Z e) λv=>match v.fr,v.d with
  | true,.lst ds=>(match gX Z i,cP ds with
   | some js,some ks=>if js.length<=1000/\ks.length<=1000/\jO (ks.foldl putKs [])=true then .next (Z.set i (.dct ((ks.foldl putKs []).foldl putKs js))) else .bad|_,_=>.bad)
  | _,_=>.bad
 | .dput i k a=>O.from Z (ev P W Z a) λv=>O.from Z (ev P W Z k) λx=>match v.d,gX Z i,nF x.d with|.bl true,some ks,some k=>if ks.length<=1000 then .next (Z.set i (.dct (putKs ks k))) else .bad|_,_,_=>.bad
 | .lset i k e=>O.from Z (ev P W Z e) λv=>O.from Z (ev P W Z k) λkv=>match Z[i]?,kv.d with
  | some (.lent ds),.int k=>match ixN ds.length k with|some j=>if noL v.d then .next (Z.set i (.lent (ds.set j v.d))) else .bad|none=>.bad
  | _,_=>.bad
 | .setL i l fz e=>O.from Z (evl P W l (freeze Z fz) e) λr=>.next (r.2.set i r.1.slot)|.appL i l e=>if (fJ Z i).isSome then O.from Z (evl P W l Z e) λr=>put r.2 i r.1.nr λds=>some (ds++[r.1.d]) else .bad|.retL e=>O.from Z (evl P W 0 Z e) λr=>nH r.1 r.2|.retvL i=>match Z[i]? with|some (.own pa ds)=>nH ⟨.lst ds,true,pa,[]⟩ Z|_=>.bad
 | .iffL o a b x y=>O.from Z (evl P W 0 Z a) λr=>O.from r.2 (ev P W r.2 b) λz=>match bY o r.1.d z.d with|some k=>if k then exs r.2 x else exs r.2 y|none=>.bad
 | .forL t e b=>O.from Z (evl P W 0 Z e) λr=>match r.1.d with|.int j=>if aH j then cA (λZ x=>O.from Z (aT Z x t) λZ'=>exs Z' b) ((bX 0 j).map .cl) r.2 else .bad|_=>.bad
noncomputable def exs(Z:Sg):Ss->O
 | .nil=>.next Z|.cons s ss=>(ex Z s).on λZ'=>exs Z' ss
noncomputable def hdl(Z:Sg)(x:D):Hs->O
 | .nil=>.exc x Z|.cons cs n b hs=>match isI cs P x with
  | some true=>match n with|none=>exs Z b|some i=>match exs (Z.set i (.sh true x)) b with|.next Z'=>.next (Z'.set i .dead)|.brk Z'=>.brk (Z'.set i .dead)|.cnt Z'=>.cnt (Z'.set i .dead)|.exc x Z'=>.exc x (Z'.set i .dead)|o=>o
  | some false=>hdl Z x hs|none=>.bad
end
noncomputable def gU(f:Nat)(ds:List D):R Rt:=match P.fns[f]? with
 | none=>.bad|some F=>if ds.length=F.np then
  match exs P W ((ds.map λd=>Sl.sh true d)++Ae (F.ns-F.np) Sl.dead) F.body with
  | .ret v=>.ok (v.d,v.fr,v.pa)|.next _=>.ok (.non,false,false)|.exc x _=>.exc x|_=>.bad
  else .bad
end
noncomputable def call(P:Pg):Nat->Caller
 | 0=>λ_ _=>.bad|n+1=>gU P (call P n)
end Hp
namespace Hp
open PySem L2
abbrev Fg:=Aq
def kD:Key->D
 | .inl i=>.int i|.inr x=>.str x
def Hd(K:Fg)(ex:Addr->Prop):Prop:=∃c,K.lookup c≠none/\ex c
mutual
def Rep(K:Fg)(H:Hp)(ex:Addr->Prop):D->V->Prop
 | .non,v=>v=.non|.bl b,v=>v=.bl b|.int i,v=>v=.int i|.str x,v=>v=.str x|.tup ds,v=>∃a xs,v=.ref a/\SqT K H a xs/\Reps K H ex ds xs|.lst ds,v=>∃a xs,v=.ref a/\SqL K H a xs/\(¬ ex a/\(Hd K ex->H a=some (.lst xs)))/\Reps K H ex ds xs|.dic kvs,v=>∃a ks,v=.ref a/\H a=some (.dK ks)/\¬ ex a/\RepKV K H ex kvs ks|.err _ _,_=>False
def Reps(K:Fg)(H:Hp)(ex:Addr->Prop):List D->List V->Prop
 | [],xs=>xs=[]
 | d::ds,xs=>∃x r,xs=x::r/\Rep K H ex d x/\Reps K H ex ds r
def RepKV(K:Fg)(H:Hp)(ex:Addr->Prop):List (D×D)->List (Key×V)->Prop
 | [],ks=>ks=[]
 | (k,d)::r,ks=>∃k' x r',ks=(k',x)::r'/\kD k'=k/\Rep K H ex d x/\RepKV K H ex r r'
end
section
variable {K:Fg} {H H':Hp} {ex ex':Addr->Prop}
theorem aI.seqT(e:aI H H')(h:SqT K H a xs):SqT K H' a xs:=by rcases h with(h|⟨o,h⟩)|h;exact .inl (.inl (e _ _ h));exact .inl (.inr ⟨o,e _ _ h⟩);exact .inr h
def Mb(o:HO):Prop:=(∃xs,o=.lst xs)\/(∃ks,o=.dK ks)\/∃φ,o=.ext φ
theorem nI(z:Mb o)(B:∀xs,o≠.lst xs:=by intro _ h;cases h)(G:∀ks,o≠.dK ks:=by intro _ h;cases h)(I:∀φ,o≠.ext φ:=by intro _ h;cases h):False:=by
 rcases z with⟨_,e⟩|⟨_,e⟩|⟨_,e⟩
 exact B _ e;exact G _ e;exact I _ e
mutual
theorem Rep.imp(I:∀a xs,SqT K H a xs->SqT K H' a xs)(G:∀a xs,¬ ex a->SqL K H a xs->¬ ex' a/\SqL K H' a xs)(L:Hd K ex'->Hd K ex)(M:∀a xs,¬ ex a->H a=some (.lst xs)->H' a=some (.lst xs))(B:∀a ks,¬ ex a->H a=some (.dK ks)->¬ ex' a/\H' a=some (.dK ks)) :
 ∀(d:D) (v:V),Rep K H ex d v->Rep K H' ex' d v
 | .non,_,h=>h|.bl _,_,h=>h|.int _,_,h=>h|.str _,_,h=>h|.tup ds,_,h=>by obtain⟨a,xs,e,q,r⟩:=h;exact⟨a,xs,e,I a xs q,Reps.imp I G L M B ds xs r⟩|.lst ds,_,h=>by obtain⟨a,xs,e,q,n,r⟩:=h;obtain⟨U,W⟩:=G a xs n.1 q;exact⟨a,xs,e,W,⟨U,λz=>M a xs n.1 (n.2 (L z))⟩,Reps.imp I G L M B ds xs r⟩|.dic kvs,_,h=>by obtain⟨a,ks,e,q,n,r⟩:=h;obtain⟨U,W⟩:=B a ks n q;exact⟨a,ks,e,W,U,RepKV.imp I G L M B kvs ks r⟩|.err _ _,_,h=>h.elim
theorem Reps.imp(I:∀a xs,SqT K H a xs->SqT K H' a xs)(G:∀a xs,¬ ex a->SqL K H a xs->¬ ex' a/\SqL K H' a xs)(L:Hd K ex'->Hd K ex)(M:∀a xs,¬ ex a->H a=some (.lst xs)->H' a=some (.lst xs))(B:∀a ks,¬ ex a->H a=some (.dK ks)->¬ ex' a/\H' a=some (.dK ks)) :
 ∀(ds:List D) (xs:List V),Reps K H ex ds xs->Reps K H' ex' ds xs
 | [],_,h=>h|d::ds,_,h=>by obtain⟨x,r,e,U,W⟩:=h;exact⟨x,r,e,Rep.imp I G L M B d x U,Reps.imp I G L M B ds r W⟩
theorem RepKV.imp(I:∀a xs,SqT K H a xs->SqT K H' a xs)(G:∀a xs,¬ ex a->SqL K H a xs->¬ ex' a/\SqL K H' a xs)(L:Hd K ex'->Hd K ex)(M:∀a xs,¬ ex a->H a=some (.lst xs)->H' a=some (.lst xs))(B:∀a ks,¬ ex a->H a=some (.dK ks)->¬ ex' a/\H' a=some (.dK ks)) :
 ∀(ds:List (D×D)) (xs:List (Key×V)),RepKV K H ex ds xs->RepKV K H' ex' ds xs
 | [],_,h=>h|(k,d)::ds,_,h=>by obtain⟨k',x,r,e,U,W,h2⟩:=h;exact⟨k',x,r,e,U,Rep.imp I G L M B d x W,RepKV.imp I G L M B ds r h2⟩
end
theorem Rep.weak(h:Rep K H ex d v)(e:∀a,ex' a->ex a):Rep K H ex' d v:=Rep.imp (λ_ _ q=>q) (λa _ n q=>⟨λz=>n (e a z),q⟩) (λ⟨c,B,G⟩=>⟨c,B,e c G⟩) (λ_ _ _ q=>q) (λa _ n q=>⟨λz=>n (e a z),q⟩) d v h
theorem Reps.weak(h:Reps K H ex d v)(e:∀a,ex' a->ex a):Reps K H ex' d v:=Reps.imp (λ_ _ q=>q) (λa _ n q=>⟨λz=>n (e a z),q⟩) (λ⟨c,B,G⟩=>⟨c,B,e c G⟩) (λ_ _ _ q=>q) (λa _ n q=>⟨λz=>n (e a z),q⟩) d v h
theorem Rep.grow(h:Rep K H ex d v)(s:aI H H'):Rep K H' ex d v:=Rep.imp (λ_ _ q=>aI.seqT s q) (λ_ _ n q=>⟨n,s.seq q⟩) id (λ_ _ _ q=>s _ _ q) (λ_ _ n q=>⟨n,s _ _ q⟩) d v h
theorem Reps.grow(h:Reps K H ex d v)(s:aI H H'):Reps K H' ex d v:=Reps.imp (λ_ _ q=>aI.seqT s q) (λ_ _ n q=>⟨n,s.seq q⟩) id (λ_ _ _ q=>s _ _ q) (λ_ _ n q=>⟨n,s _ _ q⟩) d v h
theorem Rep.keep(h:Rep K H ex d v)(s:∀a o,H a=some o->(Mb o->¬ ex a)->H' a=some o):Rep K H' ex d v:=by refine Rep.imp (λa xs q=>?_) (λa xs n q=>⟨n,?_⟩) id (λa xs n q=>s _ _ q λ_=>n) (λa ks n q=>⟨n,s a _ q λ_=>n⟩) d v h;rcases q with(q|⟨o,q⟩)|q;exact .inl (.inl (s _ _ q λz=>(nI z).elim));exact .inl (.inr ⟨o,s _ _ q λz=>(nI z).elim⟩);exact .inr q;rcases q with(q|⟨o,q⟩)|q;exact .inl (.inl (s _ _ q λ_=>n));exact .inl (.inr ⟨o,s _ _ q λz=>(nI z).elim⟩);exact .inr q
theorem Reps.keep(h:Reps K H ex d v)(s:∀a o,H a=some o->(Mb o->¬ ex a)->H' a=some o):Reps K H' ex d v:=by refine Reps.imp (λa xs q=>?_) (λa xs n q=>⟨n,?_⟩) id (λa xs n q=>s _ _ q λ_=>n) (λa ks n q=>⟨n,s a _ q λ_=>n⟩) d v h;rcases q with(q|⟨o,q⟩)|q;exact .inl (.inl (s _ _ q λz=>(nI z).elim));exact .inl (.inr ⟨o,s _ _ q λz=>(nI z).elim⟩);exact .inr q;rcases q with(q|⟨o,q⟩)|q;exact .inl (.inl (s _ _ q λ_=>n));exact .inl (.inr ⟨o,s _ _ q λz=>(nI z).elim⟩);exact .inr q
mutual
theorem Rep.free:∀(d:D) (v:V),noL d=true->Rep K H ex d v->Rep K H ex' d v
 | .non,_,_,h=>h|.bl _,_,_,h=>h|.int _,_,_,h=>h|.str _,_,_,h=>h|.tup ds,_,n,h=>by obtain⟨a,xs,e,q,r⟩:=h;exact⟨a,xs,e,q,Reps.free ds xs (by simpa[noL] using n) r⟩|.lst ds,_,n,_=>by simp[noL] at n|.dic kvs,_,n,_=>by simp[noL] at n|.err _ _,_,n,_=>by simp[noL] at n
theorem Reps.free:∀(ds:List D) (xs:List V),noLs ds=true->Reps K H ex ds xs->Reps K H ex' ds xs
 | [],_,_,h=>h|d::ds,_,n,h=>by obtain⟨x,r,e,B,G⟩:=h;simp only[noLs,bA] at n;exact⟨x,r,e,Rep.free d x n.1 B,Reps.free ds r n.2 G⟩
end
theorem Reps.length:∀{ds:List D} {xs:List V},Reps K H ex ds xs->ds.length=xs.length
 | [],_,h=>by rw[show _=[] from h];rfl|d::ds,_,h=>by obtain⟨x,r,e,_,B⟩:=h;subst e;rw[lC,lC,Reps.length B]
theorem Reps.get:∀{ds:List D} {xs:List V} {j:Nat} {d:D},Reps K H ex ds xs->ds[j]? = some d->∃x,xs[j]? = some x/\Rep K H ex d x
 | [],_,_,_,_,e=>by simp at e|d::ds,_,0,_,h,e=>by obtain⟨x,r,B,G,_⟩:=h;subst B;simp at e;subst e;exact⟨x,rfl,G⟩|d::ds,_,j+1,d',h,e=>by obtain⟨x,r,B,_,I⟩:=h;subst B;obtain⟨y,L,q⟩:=Reps.get (j:=j) (d:=d') I (by simpa using e);exact⟨y,by simpa using L,q⟩
theorem Reps.get'{ds:List D}{xs:List V}{j:Nat}{x:V}(h:Reps K H ex ds xs)(e:xs[j]? = some x):∃d,ds[j]? = some d/\Rep K H ex d x:=by
 have I:=h.length;have G:j<xs.length:=(Au.mp e).1;obtain⟨d,hd⟩:∃d,ds[j]? = some d:=⟨ds[j],Af (by omega)⟩
 obtain⟨y,B,q⟩:=h.get hd;rw[e] at B;cases B;exact⟨d,hd,q⟩
theorem Reps.nil:Reps K H ex [] []:=rfl
theorem Reps.cons(h:Rep K H ex d x)(t:Reps K H ex ds xs):Reps K H ex (d::ds) (x::xs):=⟨x,xs,rfl,h,t⟩
theorem Reps.append:∀{ds es:List D} {xs B:List V},Reps K H ex ds xs->Reps K H ex es B->Reps K H ex (ds++es) (xs++B)
 | [],_,_,_,h,t=>by rw[show _=[] from h];exact t|d::ds,_,_,_,h,t=>by obtain⟨x,r,e,G,I⟩:=h;subst e;exact⟨x,_,rfl,G,Reps.append I t⟩
theorem Reps.take:∀{ds:List D} {xs:List V} (n:Nat),Reps K H ex ds xs->Reps K H ex (ds.take n) (xs.take n)
 | _,_,0,_=>by simp[Reps]|[],_,n+1,h=>by rw[show _=[] from h];simp[Reps]|d::ds,_,n+1,h=>by obtain⟨x,r,e,B,G⟩:=h;subst e;exact⟨x,_,rfl,B,Reps.take n G⟩
theorem Reps.drop:∀{ds:List D} {xs:List V} (n:Nat),Reps K H ex ds xs->Reps K H ex (ds.drop n) (xs.drop n)
 | _,_,0,h=>h|[],_,n+1,h=>by rw[show _=[] from h];simp[Reps]|d::ds,_,n+1,h=>by obtain⟨x,r,e,G,B⟩:=h;subst e;exact Reps.drop n B
theorem Reps.set:∀{ds:List D} {xs:List V} {d:D} {x:V} (j:Nat),Reps K H ex ds xs->Rep K H ex d x->Reps K H ex (ds.set j d) (xs.set j x)
 | [],_,_,_,_,h,_=>by rw[show _=[] from h];simp[Reps]|d::ds,_,_,_,0,h,q=>by obtain⟨x,r,e,G,B⟩:=h;subst e;exact⟨_,_,rfl,q,B⟩|d::ds,_,_,_,j+1,h,q=>by obtain⟨x,r,e,G,B⟩:=h;subst e;exact⟨x,_,rfl,G,Reps.set j B q⟩
theorem Reps.eraseIdx:∀{ds:List D} {xs:List V} (j:Nat),Reps K H ex ds xs->Reps K H ex (ds.eraseIdx j) (xs.eraseIdx j)
 | [],_,_,h=>by rw[show _=[] from h];simp[Reps]|d::ds,_,0,h=>by obtain⟨x,r,e,G,B⟩:=h;subst e;exact B|d::ds,_,j+1,h=>by obtain⟨x,r,e,G,B⟩:=h;subst e;exact⟨x,_,rfl,G,Reps.eraseIdx j B⟩
theorem Reps.flat:∀{ds:List D} {xs:List V},Reps K H ex ds xs->∀k:Nat,Reps K H ex (Ae k ds).flatten (Ae k xs).flatten
 | _,_,_,0=>by simp[Reps]|ds,xs,h,k+1=>by rw[Bb,Bb,B8,B8];exact h.append (Reps.flat h k)
end
end Hp
namespace Hp
open PySem
structure Ct where
 N:List Str
 sc:List (Str×Ck)
 fns:List Str
 cns:List (Str×D)
 cls:List Str
 fn:Bool
 tbs:List Str
def aDz(Γ:Ct)(x:Str):Bool:=match Γ.sc.lookup x with|some .local=>true|some .cell=>true|some .free=>true|_=>false
def wK(Γ:Ct)(x:Str):Bool:=match Γ.sc.lookup x with|some .local=>true|some .cell=>Γ.fn|_=>false
def kE(sc names:List (Str×Ck)):List (Str×Ck):=names.map λ(n,k)=>if (k==.free&&sc.lookup n==some .cell) then (n,.cell) else (n,k)
def rW:A2->Bool
 | .Tuple _ _ _=>true|_=>false
def tIx:T->List Nat
 | .n i=>[i]
 | .t is=>is
def bT(Γ:Ct)(x:Str):Bool:=match Γ.sc.lookup x with|some .globalImplicit=>true|_=>false
noncomputable def bO(x:Str):Bool:=!(x==("__debug__" : Str))&&!(x==("__classdict__" : Str))
def bG(Γ:Ct)(i:Nat)(x:Str):Bool:=(Γ.N[i]?==some x)&&aDz Γ x&&bO x
def aZ(Γ:Ct)(i:Nat)(x:Str):Bool:=(Γ.N[i]?==some x)&&wK Γ x&&bO x
def eqC:D->Const->Bool
 | .non,.none=>true|.bl a,.bool b=>a==b|.int a,.int b=>a==b|.str a,.str b=>a==b|_,_=>false
def eqK:D->D->Bool
 | .non,.non=>true|.bl a,.bl b=>a==b|.int a,.int b=>a==b|.str a,.str b=>a==b|_,_=>false
noncomputable def jP:Bi->Str
 | .len => "len" | .list => "list" | .tuple => "tuple" | .min => "min" | .max => "max" | .abs => "abs" | .int => "int" | .str => "str" | .sum => "sum" | .all => "all" | .any => "any" | .sorted => "sorted" | .bool => "bool" | .repr => "repr"
def aDA:Bi->Bool
 | .len=>true|.list=>true|.tuple=>true|.min=>true|.int=>true|.sum=>true
 | _=>false
def aOL:Cl->Bool
 | .own _=>false|.tValueError=>false|_=>true
noncomputable def zJ(Γ:Ct):Cl->Option Str
 | .tInt=>some "int" | .tBool=>some "bool" | .tStr=>some "str" | .tList=>some "list" | .tTuple=>some "tuple" | .tDict=>some "dict" | .tValueError=>some "ValueError"
 | .own c=>Γ.cls[c]?
def aHI(Γ:Ct)(c:Cl):A2->Bool
 | .Name x _=>(zJ Γ c==some x)&&bT Γ x&&bO x|_=>false
noncomputable def hU(Γ:Ct):T->A2->Bool
 | .n i,.Name x _=>aZ Γ i x|.t is,.Tuple es _ _=>is.length==es.length&&(is.zip es).all λp=>match p.2 with|.Name x _=>aZ Γ p.1 x|_=>false
 | _,_=>false
def cQ:A2->List Str
 | .Name x _=>[x]
 | .Tuple es _ _=>es.filterMap fun|.Name x _=>some x|_=>none
 | _=>[]
def zK:E->Bool
 | .c (.int i)=>i==0|_=>false
def asC(e:A2):Option { c:Const // ∃k p,e=.Constant c k p }:=match e with|.Constant c k p=>some ⟨c,k,p,rfl⟩|_=>none
def asN(e:A2):Option { x:Str // ∃p,e=.Name x p }:=match e with|.Name x p=>some ⟨x,p,rfl⟩|_=>none
def aHJ(e:A2):Option { r:A2×Operator×A2 // ∃p,e=.BinOp r.1 r.2.1 r.2.2 p }:=match e with|.BinOp l o r p=>some ⟨(l,o,r),p,rfl⟩|_=>none
def aLM(e:A2):Option { r:UnaryOp×A2 // ∃p,e=.UnaryOp r.1 r.2 p }:=match e with|.UnaryOp o x p=>some ⟨(o,x),p,rfl⟩|_=>none
def aLN(e:A2):Option { r:BoolOp×List A2×EJ // e=.BoolOp r.1 r.2.1 r.2.2 }:=match e with|.BoolOp o xs p=>some ⟨(o,xs,p),rfl⟩|_=>none
def aOM(e:A2):Option { r:A2×A2×A2 // ∃p,e=.IfExp r.1 r.2.1 r.2.2 p }:=match e with|.IfExp t a b p=>some ⟨(t,a,b),p,rfl⟩|_=>none
def aDB(e:A2):Option { r:A2×List CmpOp×List A2 // ∃p,e=.Compare r.1 r.2.1 r.2.2 p }:=match e with|.Compare l os rs p=>some ⟨(l,os,rs),p,rfl⟩|_=>none
def oX(e:A2):Option { r:A2×A2 // ∃p,e=.Subscript r.1 r.2 p }:=match e with|.Subscript x i p=>some ⟨(x,i),p,rfl⟩|_=>none
def aON(e:A2):Option { r:Option A2×Option A2 // ∃p,e=.Slice r.1 r.2 none p }:=match e with|.Slice l h none p=>some ⟨(l,h),p,rfl⟩|_=>none
def aHK(e:A2):Option { r:List A2 // ∃k p,e=.Tuple r k p }:=match e with|.Tuple xs k p=>some ⟨xs,k,p,rfl⟩|_=>none
def aLO(e:A2):Option { r:List A2 // ∃p,e=.List r p }:=match e with|.List xs p=>some ⟨xs,p,rfl⟩|_=>none
def fY(e:A2):Option { r:Str×List A2 // ∃p1 p2,e=.Call (.Name r.1 p1) r.2 [] p2 }:=match e with|.Call (.Name x p1) xs [] p2=>some ⟨(x,xs),p1,p2,rfl⟩|_=>none
def aLP(e:A2):Option { r:A2×List Comprehension×Dp // ∃p,e=.ListComp r.1 r.2.1 r.2.2 p }:=match e with|.ListComp e gs s p=>some ⟨(e,gs,s),p,rfl⟩|_=>none
def oB{α:Type}(o:Option α)(f:α->Bool):Bool:=match o with|some a=>f a|none=>false
def oS{α:Type}{q:α->Prop}(o:Option { a:α // q a })(f:α->Bool):Bool:=match o with|some a=>f a.1|none=>false
mutual
noncomputable def aQ(Γ:Ct):E->A2->Bool
 | .c d,e=>oS (asC e) (eqC d)||oS (asN e) λx=>bT Γ x&&bO x&&oB (Γ.cns.lookup x) (eqK d)|.v i,e=>oS (asN e) (bG Γ i)|.op o a b,e=>oS (aHJ e) λp=>o==p.2.1&&aQ Γ a p.1&&aQ Γ b p.2.2|.neg a,e=>oS (aLM e) λp=>p.1==.USub&&aQ Γ a p.2|.nt a,e=>oS (aLM e) λp=>p.1==.Not&&aQ Γ a p.2|.an a b,e=>oS (aLN e) λp=>p.1==.And&&(match p.2.1 with
  | [x,y]=>aQ Γ a x&&aQ Γ b y|x::y::z::r=>aQ Γ a x&&aQ Γ b (.BoolOp .And (y::z::r) p.2.2)|_=>false)
 | .orr a b,e=>oS (aLN e) λp=>p.1==.Or&&(match p.2.1 with
  | [x,y]=>aQ Γ a x&&aQ Γ b y|x::y::z::r=>aQ Γ a x&&aQ Γ b (.BoolOp .Or (y::z::r) p.2.2)|_=>false)
 | .ife t a b,e=>oS (aOM e) λp=>aQ Γ t p.1&&aQ Γ a p.2.1&&aQ Γ b p.2.2|.cmp o a b,e=>oS (aDB e) λp=>(match p.2.1,p.2.2 with
  | [o'],[r]=>o==o'&&aQ Γ a p.1&&aQ Γ b r|_,_=>false)
 | .cmp2 o1 o2 a b c,e=>oS (aDB e) λp=>(match p.2.1,p.2.2 with
  | [o1',o2'],[m,r]=>o1==o1'&&o2==o2'&&aQ Γ a p.1&&aQ Γ b m&&aQ Γ c r|_,_=>false)
 | .idx a b,e=>oS (oX e) λp=>aQ Γ a p.1&&aQ Γ b p.2|.sli a lo hi,e=>oS (oX e) λp=>oS (aON p.2) λq=>aQ Γ a p.1&&chkO Γ lo q.1&&chkO Γ hi q.2|.tup es,e=>oS (aHK e) λxs=>decide (xs.length<=1000)&&chkEs Γ es xs|.lst es,e=>oS (aLO e) λxs=>decide (xs.length<=1000)&&chkEs Γ es xs|.call f es,e=>oS (fY e) λp=>(Γ.fns[f]?==some p.1)&&bT Γ p.1&&bO p.1&&chkEs Γ es p.2|.sset a,e=>oS (fY e) λp=>(match p.2 with
  | [s]=>oS (fY s) λq=>(p.1==("sorted" : Str))&&bT Γ p.1&&(q.1==("set" : Str))&&bT Γ q.1&&(match q.2 with|[x]=>aQ Γ a x|_=>false)|_=>false)
 | .callP f es,e=>oS (fY e) λp=>(Γ.fns[f]?==some p.1)&&bT Γ p.1&&bO p.1&&!p.2.isEmpty&&chkEs Γ es p.2|.callC f a b c,e=>oS (fY e) λp=>(Γ.fns[f]?==some p.1)&&bT Γ p.1&&bO p.1&&(match p.2 with
  | [x,y,z]=>aQ Γ a x&&aQ Γ b y&&aQ Γ c z|_=>false)
 | .srtD i,e=>oS (fY e) λp=>(p.1==("sorted" : Str))&&bT Γ p.1&&(match p.2 with|[x]=>oS (asN x) (bG Γ i)|_=>false)|.bi b es,e=>oS (fY e) λp=>aDA b&&(jP b==p.1)&&bT Γ p.1&&bO p.1&&!p.2.isEmpty&&chkEs Γ es p.2|.mth _ _ _,_=>false|.numset _,_=>false|.tget _ _,_=>false|.lzip _ _,_=>false|.lix i k,e=>oS (oX e) λp=>oS (asN p.1) λx=>bG Γ i x&&aQ Γ k p.2|.stp _ _,_=>false|.isi a cs,e=>oS (fY e) λp=>(match cs,p.2 with
  | [c],[x,y]=>(p.1==("isinstance" : Str))&&bT Γ p.1&&aOL c&&aQ Γ a x&&aHI Γ c y|_,_=>false)
 | .comp k caps t it cond elt,e=>oS (aLP e) λp=>(match p.2.1 with
  | [⟨tg,iter,ifs,as⟩]=>
   as==0&&(cQ tg).length==k&&(caps.all λi=>decide (i<Γ.N.length))&&decide caps.Nodup&&p.2.2.kind==.function&&decide (cQ tg++caps.filterMap λi=>Γ.N[i]?).Nodup &&
   ((caps.filterMap λi=>Γ.N[i]?).all λx=>p.2.2.names.lookup x==some .free&&Γ.sc.lookup x==some .cell) &&
   (p.2.2.names.all λq=>q.2 != .cell&&(q.2 != .local||p.2.2.names.lookup q.1==some .local)&&(q.2 != .free||Γ.sc.lookup q.1==some .cell)) &&
   ((tIx t).all λi=>decide (i<k))&&decide (ifs.length<=1) &&
   hU { Γ with N:=cQ tg++caps.filterMap λi=>Γ.N[i]?,sc:=kE Γ.sc p.2.2.names,fn:=false } t tg&&chkI Γ (rW tg) it iter &&
   chkEs { Γ with N:=cQ tg++caps.filterMap λi=>Γ.N[i]?,sc:=kE Γ.sc p.2.2.names,fn:=false } cond ifs &&
   aQ { Γ with N:=cQ tg++caps.filterMap λi=>Γ.N[i]?,sc:=kE Γ.sc p.2.2.names,fn:=false } elt p.1
  | _=>false)
 | .dic _ _,_=>false|.attr _ _,_=>false
noncomputable def chkEs(Γ:Ct):Es->List A2->Bool
 | .nil,[]=>true|.cons e es,x::xs=>aQ Γ e x&&chkEs Γ es xs|_,_=>false
noncomputable def chkO(Γ:Ct):Es->Option A2->Bool
 | .nil,none=>true|.cons e .nil,some x=>aQ Γ e x|_,_=>false
noncomputable def chkI(Γ:Ct)(tt:Bool):It->A2->Bool
 | .rng a b,e=>oS (fY e) λp=>(p.1==("range" : Str))&&bT Γ p.1&&(match p.2 with
  | [x]=>zK a&&aQ Γ b x|[x,y]=>aQ Γ a x&&aQ Γ b y|_=>false)
 | .zip a b,e=>oS (fY e) λp=>(match p.2 with
  | [x,y]=>tt&&(p.1==("zip" : Str))&&bT Γ p.1&&aQ Γ a x&&aQ Γ b y|_=>false)
 | .seq c,x=>aQ Γ c x|.enum _,_=>false|.rev _,_=>false|.rng3 _ _ _,_=>false
end
mutual
noncomputable def bQ(Γ:Ct)(l:Nat):EL->A2->Bool
 | .e a,x=>aQ Γ a x|.op o a b,e=>oS (aHJ e) λp=>o==p.2.1&&bQ Γ l a p.1&&bQ Γ l b p.2.2|.idx a b,e=>oS (oX e) λp=>bQ Γ l a p.1&&bQ Γ l b p.2|.tup es,e=>oS (aHK e) λxs=>decide (xs.length<=1000)&&chkELs Γ l es xs|.call f es,e=>oS (fY e) λp=>(Γ.fns[f]?==some p.1)&&bT Γ p.1&&bO p.1&&(match p.2 with
  | x::xs=>oS (asN x) (bG Γ l)&&chkELs Γ l es xs|[]=>false)
 | .pcall f es,e=>oS (fY e) λp=>(Γ.fns[f]?==some p.1)&&bT Γ p.1&&bO p.1&&!p.2.isEmpty&&chkELs Γ l es p.2  | .comp k caps t n l' elt,e=>oS (aLP e) λp=>(match p.2.1 with
  | [⟨tg,iter,[],as⟩]=>
   as==0&&(cQ tg).length==k&&(caps.all λi=>decide (i<Γ.N.length))&&decide caps.Nodup&&p.2.2.kind==.function&&decide (cQ tg++caps.filterMap λi=>Γ.N[i]?).Nodup &&
   ((caps.filterMap λi=>Γ.N[i]?).all λx=>p.2.2.names.lookup x==some .free&&Γ.sc.lookup x==some .cell) &&
   (p.2.2.names.all λq=>q.2 != .cell&&(q.2 != .local||p.2.2.names.lookup q.1==some .local)&&(q.2 != .free||Γ.sc.lookup q.1==some .cell)) &&
   ((tIx t).all λi=>decide (i<k)) &&
   hU { Γ with N:=cQ tg++caps.filterMap λi=>Γ.N[i]?,sc:=kE Γ.sc p.2.2.names,fn:=false } t tg &&
   (oS (fY iter) λq=>(q.1==("range" : Str))&&bT Γ q.1&&(match q.2 with|[x]=>bQ Γ l n x|_=>false)) &&
   (decide (k<=l')&&(caps[l'-k]?==some l)) &&
   bQ { Γ with N:=cQ tg++caps.filterMap λi=>Γ.N[i]?,sc:=kE Γ.sc p.2.2.names,fn:=false } l' elt p.1
  | _=>false)
noncomputable def chkELs(Γ:Ct)(l:Nat):ELs->List A2->Bool
 | .nil,[]=>true|.cons e es,x::xs=>bQ Γ l e x&&chkELs Γ l es xs|_,_=>false
end
def fG:A2->Bool
 | .ListComp _ _ _ _=>true|.SetComp _ _ _ _=>true|.DictComp _ _ _ _ _=>true|_=>false
def oY:A2->Bool
 | .Tuple _ _ _=>true|.List _ _=>true|_=>false
def aIK:A2->Bool
 | .Name _ _=>true|_=>false
noncomputable def fZ(Γ:Ct)(i:Nat)(m:Str):A2->Option (List A2)
 | .Call (.Attribute (.Name x _) a ap) xs [] cp=>if (a==m)&&bG Γ i x&&(ap.endLine==cp.line) then some xs else none|_=>none
def uA(s:Cu):Option { r:A2×A2 // ∃p,s=.Assign [r.1] r.2 p }:=match s with|.Assign [t] v p=>some ⟨(t,v),p,rfl⟩|_=>none
def sEx(s:Cu):Option { r:A2 // ∃p,s=.Expr r p }:=match s with|.Expr v p=>some ⟨v,p,rfl⟩|_=>none
def aDC(s:Cu):Option { r:Option A2 // ∃p,s=.Return r p }:=match s with|.Return v p=>some ⟨v,p,rfl⟩|_=>none
def sIf(s:Cu):Option { r:A2×List Cu×List Cu // ∃p,s=.If r.1 r.2.1 r.2.2 p }:=match s with|.If t x y p=>some ⟨(t,x,y),p,rfl⟩|_=>none
def aLQ(s:Cu):Option { r:A2×A2×List Cu // ∃p,s=.For r.1 r.2.1 r.2.2 [] p }:=match s with|.For t i b [] p=>some ⟨(t,i,b),p,rfl⟩|_=>none
def aOO(s:Cu):Option { r:A2×List Cu // ∃p,s=.While r.1 r.2 [] p }:=match s with|.While t b [] p=>some ⟨(t,b),p,rfl⟩|_=>none
def aOP(s:Cu):Option { r:Unit // ∃p,s=.Break p }:=match s with|.Break p=>some ⟨(),p,rfl⟩|_=>none
def aOQ(s:Cu):Option { r:Unit // ∃p,s=.Continue p }:=match s with|.Continue p=>some ⟨(),p,rfl⟩|_=>none
def aLR(s:Cu):Option { r:Unit // ∃p,s=.Pass p }:=match s with|.Pass p=>some ⟨(),p,rfl⟩|_=>none
def aOR(e:A2):Option { r:Unit // ∃p,e=.Dict [] [] p }:=match e with|.Dict [] [] p=>some ⟨(),p,rfl⟩|_=>none
def aLS(s:Cu):Option { r:List Cu // ∃h hs p,s=.Try r (h::hs) [] [] p }:=match s with|.Try b (h::hs) [] [] p=>some ⟨b,h,hs,p,rfl⟩|_=>none
mutual
noncomputable def cN(Γ:Ct):S->Cu->Bool
 | .set t e,s=>oS (uA s) λr=>hU Γ t r.1&&aQ Γ e r.2&&(aIK r.1||!oY r.2)|.mov i j,s=>oS (uA s) λr=>oS (asN r.1) λx=>oS (asN r.2) λy=>aZ Γ i x&&bG Γ j y|.setIx i k e,s=>oS (uA s) λr=>oS (oX r.1) λu=>oS (asN u.1) λx=>bG Γ i x&&aQ Γ k u.2&&aQ Γ e r.2|.app i e,s=>oS (sEx s) λc=>(match fZ Γ i "append" c with|some [a]=>aQ Γ e a|_=>false)
 | .appCall _ _ _,_=>false|.ext i e,s=>oS (sEx s) λc=>(match fZ Γ i "extend" c with|some [a]=>aQ Γ e a|_=>false)
 | .pop t i k,s=>(match t,k with
  | none,none=>oS (sEx s) λc=>(match fZ Γ i "pop" c with|some []=>true|_=>false)
  | none,some _=>false|some t,none=>oS (uA s) λr=>hU Γ t r.1&&(match fZ Γ i "pop" r.2 with|some []=>true|_=>false)|some _,some _=>false)
 | .clr _,_=>false|.rev _,_=>false|.ret e,s=>oS (aDC s) λr=>oB r (aQ Γ e)|.retv i,s=>oS (aDC s) λr=>oB r λv=>oS (asN v) (bG Γ i)|.retN,s=>oS (aDC s) λr=>r.isNone|.iff c a b,s=>oS (sIf s) λr=>aQ Γ c r.1&&chkSs Γ a r.2.1&&chkSs Γ b r.2.2|.for t it b,s=>oS (aLQ s) λr=>hU Γ t r.1&&chkI Γ (rW r.1) it r.2.1&&chkSs Γ b r.2.2|.whl c b,s=>oS (aOO s) λr=>aQ Γ c r.1&&chkSs Γ b r.2|.brk,s=>oS (aOP s) λ_=>true|.cnt,s=>oS (aOQ s) λ_=>true|.pass,s=>oS (aLR s) λ_=>true|.ex e,s=>oS (sEx s) λv=>aQ Γ e v&&!fG v|.rse _ _ _,_=>true|.ins _ _ _,_=>false|.try _ _,_=>false|.lend,_=>false|.cln _,_=>false|.tryN b,s=>oS (aLS s) λr=>chkSs Γ b r|.dnew i,s=>oS (uA s) λr=>oS (asN r.1) λx=>aZ Γ i x&&oS (aOR r.2) λ_=>true|.dset i e,s=>oS (uA s) λr=>oS (asN r.1) λx=>aZ Γ i x&&oS (fY r.2) λp=>(p.1==("dict" : Str))&&bT Γ p.1&&(match p.2 with|[y]=>aQ Γ e y|_=>false)|.dupd i e,s=>oS (sEx s) λc=>(match fZ Γ i "update" c with|some [a]=>oS (fY a) λp=>(p.1==("dict" : Str))&&bT Γ p.1&&(match p.2 with|[y]=>aQ Γ e y|_=>false)|_=>false)
 | .dput i k e,s=>oS (uA s) λr=>oS (oX r.1) λu=>oS (asN u.1) λx=>bG Γ i x&&aQ Γ k u.2&&aQ Γ e r.2|.lset i k e,s=>oS (uA s) λr=>oS (oX r.1) λu=>oS (asN u.1) λx=>bG Γ i x&&aQ Γ k u.2&&aQ Γ e r.2|.setL i l _ e,s=>oS (uA s) λr=>oS (asN r.1) λx=>aZ Γ i x&&bQ Γ l e r.2&&!fG r.2|.appL i l e,s=>oS (sEx s) λc=>(match fZ Γ i "append" c with|some [a]=>bQ Γ l e a|_=>false)
 | .retL e,s=>oS (aDC s) λr=>oB r (bQ Γ 0 e)|.retvL i,s=>oS (aDC s) λr=>oB r λv=>oS (asN v) (bG Γ i)|.iffL o a b x y,s=>oS (sIf s) λr=>(oS (aDB r.1) λp=>(match p.2.1,p.2.2 with
  | [o'],[z]=>o==o'&&bQ Γ 0 a p.1&&aQ Γ b z|_,_=>false))&&chkSs Γ x r.2.1&&chkSs Γ y r.2.2
 | .forL t e b,s=>oS (aLQ s) λr=>hU Γ t r.1&&(oS (fY r.2.1) λp=>(p.1==("range" : Str))&&bT Γ p.1&&(match p.2 with
  | [x]=>bQ Γ 0 e x|_=>false))&&chkSs Γ b r.2.2
noncomputable def chkSs(Γ:Ct):Ss->List Cu->Bool
 | .nil,[]=>true|.cons .lend ss,xs=>chkSs Γ ss xs|.cons (.cln _) ss,xs=>chkSs Γ ss xs|.cons s ss,x::xs=>cN Γ s x&&chkSs Γ ss xs|_,_=>false
end
end Hp
namespace L2
open PySem PySem.Spec PyProof.Rows SetTable
set_option maxRecDepth 100000
noncomputable def tm(m:Nat)(ps:List Nat)(mv:Nat)(led:Bool):SetTable:={ mask:=m,place:=ps.toArray,dummies:=#[],finger:=0,led:=led,moves:=mv,plain:=true }
abbrev kF(ps:List Nat):Prop:=ps.Pairwise (· < ·)
theorem kF.lt{ps:List Nat}(h:kF ps){i k v u:Nat}(B:i<k)(hi:ps[i]? = some v)(G:ps[k]? = some u):v<u:=by obtain⟨a,rfl⟩:=Au.mp hi;obtain⟨b,rfl⟩:=Au.mp G;exact Fb.mp h i k a b B
theorem oZ{ps:List Nat}{j:Nat}(L:kF ps):∀(B lo hi:Nat),lo<=hi->hi<=ps.length->hi-lo<=B->(∀i v,i<lo->ps[i]? = some v->v<j)->(∀i v,hi<=i->ps[i]? = some v->j<=v) ->
 ∃r,below.go ps.toArray j B lo hi=r/\r<=ps.length/\(∀i v,i<r->ps[i]? = some v->v<j)/\(∀i v,r<=i->ps[i]? = some v->j<=v)
 | 0,lo,hi,h1,h2,h3,a,b=>⟨lo,rfl,by omega,a,λi v q=>b i v (by omega)⟩
 | f+1,lo,hi,h1,h2,h3,a,b=>by
  rw[below.go];by_cases c:lo<hi;rw[if_pos c];have U:(lo+hi) / 2<ps.length:=by omega
  have e:ps.toArray.getD ((lo+hi) / 2) j=ps[(lo+hi) / 2]:=by simp[Array.getD,U]
  have I:ps[(lo+hi) / 2]? = some ps[(lo+hi) / 2]:=Af U;dsimp only;rw[e];by_cases d:ps[(lo+hi) / 2]<j;rw[if_pos d];refine oZ L f _ _ (by omega) h2 (by omega) (λi v M G=>?_) b;rcases AS i ((lo+hi) / 2) with q|q;exact EB (L.lt q G I) d;obtain rfl:i=(lo+hi) / 2:=by omega
  rw[I] at G;cases G;exact d;rw[if_neg d];refine oZ L f _ _ (by omega) (by omega) (by omega) a λi v M G=>?_;rcases AS ((lo+hi) / 2) i with q|q;exact Dy (Hb (by omega) (L.lt q I G));obtain rfl:i=(lo+hi) / 2:=by omega
  rw[I] at G;cases G;omega;rw[if_neg c];exact⟨lo,rfl,by omega,a,λi v q=>b i v (by omega)⟩
theorem bel{ps:List Nat}(B:kF ps)(j:Nat):below ps.toArray j<=ps.length/\(∀i v,i<below ps.toArray j->ps[i]? = some v->v<j)/\(∀i v,below ps.toArray j<=i->ps[i]? = some v->j<=v):=by obtain⟨r,e,h⟩:=oZ (j:=j) B ps.length 0 ps.length (AA _) (Ak _) (by omega) (λi v h=>absurd h (Ci _)) (λi v h q=>by rw[Cz h] at q;cases q);rw[show below ps.toArray j=r from by unfold below;rw[Aj];exact e];exact h
theorem zL{ps:List Nat}(B:kF ps){i j:Nat}(h:ps[i]? = some j):below ps.toArray j=i:=by obtain⟨L,G,I⟩:=bel B j;rcases Fh (below ps.toArray j) i with q|q|q;have M:=(Au.mp h).1;have:=I _ _ (Ak _) (Af (by omega));have:=B.lt q (Af (by omega)) h;omega;exact q;exact absurd (G i j q h) (AC _)
section
variable {m mv:Nat} {ps:List Nat} {led:Bool} {h:Int}
theorem fK(B:kF ps)(h:ps[i]? = some j):(tm m ps mv led).slot j=.live i:=by unfold J1;show(if ((ps.toArray)[below ps.toArray j]?==some j)=true then Slot.live (below ps.toArray j) else _)=_;rw[zL B h,C0,h,if_pos (by simp)]
theorem zM(h:j∉ps):(tm m ps mv led).slot j=.empty:=by unfold J1;show(if ((ps.toArray)[below ps.toArray j]?==some j)=true then Slot.live (below ps.toArray j) else if has #[] j=true then Slot.dummy else Slot.empty)=_;rw[if_neg (λq=>h (mG (by rw[C0] at q;exact of_decide_eq_true (by simpa using q)))),if_neg (by simp[has])]
def stp(m:Nat)(p:Probe):Probe:=(tm m [] 0 true).advance p
def pth(m:Nat)(h:Int):Nat->Probe
 | 0=>(tm m [] 0 true).probeStart h|n+1=>stp m (pth m h n)
theorem aCc(p:Probe):(stp m p).dummy=p.dummy:=by unfold stp Ej;split <;> rfl
theorem rX:∀n,(pth m h n).dummy=none
 | 0=>rfl|n+1=>(aCc _).trans (rX n)
theorem probe_go(hr:kF ps)(g:Nat->Int)(hN:(pth m h N).j∉ps)(hl:∀n,n<N->(pth m h n).j∈ps):∀L n,n<=N->N-n<L ->
 ((∀G,(∀i,i<ps.length->G i=g i)->probe.go (tm m ps mv led) G h L (pth m h n)=some (.empty (pth m h N).j none))/\∀I i,n<=I->I<N->ps[i]? = some (pth m h I).j->g i≠h) \/
 ∃I i,n<=I/\I<N/\ps[i]? = some (pth m h I).j/\g i=h/\(∀G,(∀i,i<ps.length->G i=g i)->probe.go (tm m ps mv led) G h L (pth m h n)=some (.candidate (pth m h I).j i (pth m h (I+1))))/\∀B i,n<=B->B<I->ps[i]? = some (pth m h B).j->g i≠h
 | 0,n,_,h2=>absurd h2 (Ci _)|f+1,n,h1,h2=>by
  rcases AS n N with q|q;obtain⟨i,hi⟩:=BQ.mp (hl n q);have q0:=(Au.mp hi).1;by_cases c:g i=h;refine .inr ⟨n,i,Ak _,q,hi,c,λG U=>?_,λB i a b=>absurd a (by omega)⟩;rw[probe.go,fK hr hi];dsimp only;rw[if_pos (by rw[U i q0,c];simp)];rfl;have q1:∀W,ps[W]? = some (pth m h n).j->g W≠h:=λW M=>by have:=fK (m:=m) (mv:=mv) (led:=led) hr M;rw[fK hr hi] at this;cases this;exact c
  have one:∀G,(∀i,i<ps.length->G i=g i)->probe.go (tm m ps mv led) G h (f+1) (pth m h n)=probe.go (tm m ps mv led) G h f (pth m h (n+1)):=λG U=>by rw[probe.go,fK hr hi];dsimp only;rw[if_neg (by rw[U i q0];simpa using c)];rfl
  have step:∀{I B:Nat} {W:Nat},(∀B i,n+1<=B->B<I->ps[i]? = some (pth m h B).j->g i≠h)->n<=B->B<I->ps[W]? = some (pth m h B).j->g W≠h:=λH a b M=>by rcases AS n _ with z|z;exact H _ _ z b M;have:_=n:=FR z a;rw[this] at M;exact q1 _ M
  rcases probe_go hr g hN hl f (n+1) (by omega) (by omega) with⟨e,H⟩|⟨I,W,a1,a2,a3,a4,a5,a6⟩
  exact .inl ⟨λG U=>(one G U).trans (e G U),λI W a b c=>step H a b c⟩;exact .inr ⟨I,W,by omega,a2,a3,a4,λG U=>(one G U).trans (a5 G U),λB q2 a b c=>step a6 a b c⟩;obtain rfl:n=N:=by omega
  refine .inl ⟨λG U=>?_,λI i a b=>absurd a (by omega)⟩;rw[probe.go,zM hN];dsimp only;rw[rX]
def lps(m:Nat)(h:Int):Nat->Nat×Nat
 | 0=>(bits h % (m+1),bits h)
 | c+1=>leap m (lps m h c).1 (lps m h c).2
def rn(m:Nat)(x:Nat×Nat)(k:Nat):Probe:={ j:=x.1+k,more:=runEnd m x.1-x.1-k,i:=x.1,perturb:=x.2,dummy:=none }
def off(m:Nat)(h:Int):Nat->Nat
 | 0=>0|c+1=>off m h c+(runEnd m (lps m h c).1-(lps m h c).1)+1
theorem aDD(i:Nat):i<=runEnd m i/\runEnd m i<=i+9:=by unfold runEnd;split <;> omega
theorem nZ:∀c,(∀k,k<=runEnd m (lps m h c).1-(lps m h c).1->pth m h (off m h c+k)=rn m (lps m h c) k):=by
 have more:∀{c},pth m h (off m h c)=rn m (lps m h c) 0->∀k,k<=runEnd m (lps m h c).1-(lps m h c).1->pth m h (off m h c+k)=rn m (lps m h c) k:=by
  intro c e k
  induction k with
  | zero=>intro _;exact e|succ k B=>intro G;show stp m (pth m h (off m h c+k))=_;rw[B (by omega)];unfold stp Ej;rw[if_pos (show(rn m (lps m h c) k).more>0 by show runEnd m (lps m h c).1-(lps m h c).1-k>0;omega)];rfl
 intro c
 induction c with
 | zero=>exact more rfl|succ c B=>refine more ?_;show stp m (pth m h (off m h c+(runEnd m (lps m h c).1-(lps m h c).1)))=_;rw[B _ (Ak _)];unfold stp Ej;rw[if_neg (show ¬ (rn m (lps m h c) _).more>0 by show ¬ (runEnd m (lps m h c).1-(lps m h c).1-(runEnd m (lps m h c).1-(lps m h c).1)>0);omega)];rfl
theorem zN:∀c,off m h c<=10*c
 | 0=>Ak _|c+1=>by have:=zN c;have:=aDD (m:=m) (lps m h c).1;show off m h c+(runEnd m (lps m h c).1-(lps m h c).1)+1<=_;omega
theorem aAK:∀c,(lps m h c).2=bits h / 32 ^ c
 | 0=>by rw[Nat.pow_zero,Kl];rfl|c+1=>by show(lps m h c).2 / 32=_;rw[aAK c,Nat.div_div_eq_div_mul,JO]
theorem aFZ:∀c,(lps m h c).1<m+1
 | 0=>EQ _ (EC _)|c+1=>EQ _ (EC _)
theorem aIL(n:Nat):(pth m h n).j<m+1:=by
 have run:∀i,i<m+1->i+(runEnd m i-i)<m+1:=λi hi=>by unfold runEnd;split <;> omega
 have:∀n,(pth m h n).j+(pth m h n).more<m+1:=by
  intro n
  induction n with
  | zero=>exact run _ (EQ _ (EC _))|succ n B=>show(stp m (pth m h n)).j+(stp m (pth m h n)).more<m+1;unfold stp Ej;split;rename_i q;show(pth m h n).j+1+((pth m h n).more-1)<m+1;omega;exact run _ (EQ _ (EC _))
 exact Hb (Dz _ _) (this n)
def itr(m:Nat):Nat->Nat->Nat
 | 0,i=>i|d+1,i=>(itr m d i*5+1) % (m+1)
theorem aGa:∀d,lps m h (13+d)=(itr m d (lps m h 13).1,0):=by
 have z:(lps m h 13).2=0:=by
  rw[aAK];refine Nat.div_eq_of_lt ?_;have:bits h<2 ^ 64:=by unfold bits;have:=He h (b:=2 ^ 64) (by decide);have:=Iy h (b:=2 ^ 64) (by decide);omega
  exact A7 this (by decide)
 intro d
 induction d with
 | zero=>exact Kh rfl z|succ d B=>show leap m (lps m h (13+d)).1 (lps m h (13+d)).2=_;rw[B];unfold leap;simp[itr]
theorem aOS:∀i,i<8->∀j,j<8->∃d,d<8/\itr 7 d i=j:=by
 have:∀i∈A9 8,∀j∈A9 8,∃d∈A9 8,itr 7 d i=j:=by decide +kernel
 intro i hi j B;obtain⟨d,a,b⟩:=this i (Bn.mpr hi) j (Bn.mpr B);exact⟨d,Bn.mp a,b⟩
theorem aLT:∀i,i<32->∀j,j<32->∃d,d<32/\itr 31 d i=j:=by
 have:∀i∈A9 32,∀j∈A9 32,∃d∈A9 32,itr 31 d i=j:=by decide +kernel
 intro i hi j B;obtain⟨d,a,b⟩:=this i (Bn.mpr hi) j (Bn.mpr B);exact⟨d,Bn.mp a,b⟩
abbrev M2(m:Nat):Prop:=m=7\/m=31
theorem aHL(I:M2 m)(B:j<m+1):∃c,c<m+14/\(lps m h c).1=j:=by
 have G:=aFZ (m:=m) (h:=h) 13;have:∃d,d<m+1/\itr m d (lps m h 13).1=j:=by rcases I with rfl|rfl;exact aOS _ G _ B;exact aLT _ G _ B
 obtain⟨d,a,b⟩:=this;exact⟨13+d,by omega,by rw[aGa];exact b⟩
theorem rY(G:ps.length<=m):∃j,j<m+1/\j∉ps:=by refine Bk λq=>?_;have:=F3.length_le_of_subset (l₁:=A9 (m+1)) (l₂:=ps) λj B=>Bk λz=>q ⟨j,Bn.mp B,z⟩;rw[Ce] at this;omega
theorem aIM{P:Nat->Prop}:∀n,P n->∃k,k<=n/\P k/\∀i,i<k->¬ P i:=by
 intro n
 induction n using Nat.strongRecOn with
 | _ n B=>intro h;by_cases q:∃i,i<n/\P i;obtain⟨i,a,b⟩:=q;obtain⟨k,c,d⟩:=B i a b;exact⟨k,by omega,d⟩;exact⟨n,Ak _,h,λi hi z=>q ⟨i,hi,z⟩⟩
theorem zO(L:M2 m)(I:ps.length<=m)(h:Int):∃N,N<10*(m+15)/\(pth m h N).j∉ps/\∀n,n<N->(pth m h n).j∈ps:=by
 obtain⟨j,a,b⟩:=rY I;obtain⟨c,d,e⟩:=aHL (h:=h) L a;have z:(pth m h (off m h c)).j=j:=by have:=nZ (m:=m) (h:=h) c 0 (AA _);rw[Nat.add_zero] at this;rw[this];exact e
 obtain⟨N,U,B,G⟩:=aIM (P:=λn=>(pth m h n).j∉ps) (off m h c) (by rw[z];exact b);have:=zN (m:=m) (h:=h) c;exact⟨N,by omega,B,λn M=>Bk λq=>G n M q⟩
end
def Rod(m:Nat)(P:Nat->Prop)(h:Int)(j:Nat):Prop:=∃n,n<10*(m+15)/\(pth m h n).j=j/\∀n',n'<n->P (pth m h n').j
theorem Rod.mono{P B:Nat->Prop}(I:∀x,P x->B x):Rod m P h j->Rod m B h j:=λ⟨n,a,b,c⟩=>⟨n,a,b,λL G=>I _ (c L G)⟩
theorem aAL(ow:Array (Option Nat)):∀I c,(∃L,c<=L/\L<c+I/\ow.getD (lps m h L).1 (some 0)=none) ->
 ∃n j,layClean.free m ow I (lps m h c).1 (lps m h c).2=some j/\n<10*(c+I)/\(pth m h n).j=j/\ow.getD j (some 0)=none/\∀B,off m h c<=B->B<n->ow.getD (pth m h B).j (some 0)≠none
 | 0,c,⟨L,a,b,_⟩=>absurd b (by omega)|f+1,c,⟨L,a,b,e⟩=>by
  rw[layClean.free];have hr:=aDD (m:=m) (lps m h c).1;have ho:=zN (m:=m) (h:=h) c;cases q:(A9 (runEnd m (lps m h c).1+1-(lps m h c).1)).find? λk=>(ow.getD ((lps m h c).1+k) (some 0)).isNone with
  | some k=>
   obtain⟨k1,k2,M⟩:=List.find?_range_eq_some.mp q;have q1:=Bn.mp k2;have at_:∀G,G<=k->(pth m h (off m h c+G)).j=(lps m h c).1+G:=λG W=>by rw[nZ c G (by omega)];rfl
   refine⟨off m h c+k,(lps m h c).1+k,rfl,by omega,at_ k (Ak _),by simpa using k1,λB h1 U=>?_⟩;have:=at_ (B-off m h c) (by omega);rw[show off m h c+(B-off m h c)=B by omega] at this;rw[this];have:=M (B-off m h c) (by omega);intro z;rw[z] at this;simp at this
  | none=>
   have M:=List.find?_range_eq_none.mp q;have at_:∀G,G<=runEnd m (lps m h c).1-(lps m h c).1->ow.getD (pth m h (off m h c+G)).j (some 0)≠none:=λG W=>by rw[nZ c G W];intro z;have:=M G (by omega);rw[show ow.getD ((lps m h c).1+G) (some 0)=none from z] at this;simp at this
   have q0:c≠L:=λz=>by subst z;have:=at_ 0 (AA _);rw[nZ c 0 (AA _)] at this;exact this e
   obtain⟨n,j,r1,r2,r3,r4,r5⟩:=aAL ow f (c+1) ⟨L,by omega,by omega,e⟩;refine⟨n,j,r1,by omega,r3,r4,λB h1 U=>?_⟩;rcases AS B (off m h (c+1)) with z|z;have z':B<off m h c+(runEnd m (lps m h c).1-(lps m h c).1)+1:=z;have:=at_ (B-off m h c) (by omega);rw[show off m h c+(B-off m h c)=B by omega] at this;exact this;exact r5 B z U
structure Ow (hs:List Int) (ow:Array (Option Nat)) (ps:List Nat):Prop where
 sz:ow.size=32
 len:ps.length=hs.length
 at_:∀j x:Nat,ow[j]? = some (some x)↔ps[x]? = some j
 rod:∀(x:Nat) h j,hs[x]? = some h->ps[x]? = some j->Rod 31 (·∈ps) h j
theorem Ow.step{hs:List Int}{ow:Array (Option Nat)}(o:Ow hs ow ps)(hl:hs.length<=31)(h:Int):∃j,layClean.free 31 ow (turns 31) (bits h % 32) (bits h)=some j/\Ow (hs++[h]) (ow.setIfInBounds j (some hs.length)) (ps++[j]):=by
 have B:∀j,ow.getD j (some 0)≠none->j<32->j∈ps:=λj G q0=>by
  cases q:ow[j]? with
  | none=>rw[ES,o.sz] at q;omega|some y=>
   cases y with
   | none=>exact absurd (by simp[A8,q]) G|some x=>exact mG ((o.at_ j x).mp q)
 obtain⟨j0,a,b⟩:=rY (m:=31) (ps:=ps) (by rw[o.len];exact hl);obtain⟨c,d,e⟩:=aHL (h:=h) (.inr rfl) a;obtain⟨n,j,r1,r2,r3,L,r5⟩:=aAL (m:=31) (h:=h) ow (31+15) 0 ⟨c,AA _,by omega,by
  rw[e];exact Bk λq=>b (B j0 q a)⟩
 have G:ow[j]? = some none:=by
  rw[A8] at L;cases q:ow[j]? with
  | none=>rw[q] at L;cases L|some y=>rw[q] at L;exact congrArg some L
 have I:j<32:=by rw[<-o.sz];exact(Cv.mp G).1
 refine⟨j,r1,by rw[Array.size_setIfInBounds];exact o.sz,by rw[lA,lA,o.len];rfl,λW x=>?_,λx h' W M U=>?_⟩;rw[Array.getElem?_setIfInBounds];by_cases q:j=W;subst q;rw[if_pos rfl,if_pos (by rw[o.sz];exact I)];constructor;intro z;cases z;rw[<-o.len];simp;intro z;rcases AS x ps.length with k|k;rw[A4 k] at z;rw[(o.at_ j x).mpr z] at G;cases G;rw[Az k] at z;have:x-ps.length=0:=by have:=(Au.mp z).1;simp at this;omega
 rw[show x=hs.length by have:=o.len;omega];rw[if_neg q,o.at_ W x];constructor;intro z;rw[A4 (Au.mp z).1];exact z;intro z;rcases AS x ps.length with k|k;rw[A4 k] at z;exact z;rw[Az k] at z;have:=mG z;exact absurd (Ap.mp this).symm q;rcases AS x hs.length with k|k;rw[A4 k] at M;rw[A4 (by rw[o.len];exact k)] at U;exact(o.rod x h' W M U).mono λy hy=>AE _ hy;rw[Az k] at M;rw[Az (by rw[o.len];exact k)] at U;obtain rfl:=(Ap.mp (mG M))
 obtain rfl:=(Ap.mp (mG U))
 exact⟨n,by omega,r3,λn' hn=>AE _ (B _ (r5 n' (AA _) hn) (aIL n'))⟩
set_option maxRecDepth 100000
theorem Ow.nil:Ow [] (E1 32 none) [] where
 sz:=by simp
 len:=rfl
 at_:=λj x=>by rw[Array.getElem?_replicate];constructor;intro z;split at z <;> cases z;intro z;simp at z
 rod:=λx h j B=>by simp at B
def aIN(acc:Option (Array (Option Nat)×Nat))(h:Int):Option (Array (Option Nat)×Nat):=do
 let (owner,k)<-acc
 let j<-layClean.free 31 owner (turns 31) (bits h % (31+1)) (bits h)
 pure (owner.setIfInBounds j (some k),k+1)
theorem wL:∀(rest hs:List Int) (ow:Array (Option Nat)) (ps:List Nat),Ow hs ow ps->hs.length+rest.length<=31->∃B G,rest.foldl aIN (some (ow,hs.length))=some (B,(hs++rest).length)/\Ow (hs++rest) B G
 | [],hs,ow,ps,o,_=>⟨ow,ps,by rw[AH];rfl,by rw[AH];exact o⟩
 | h::rest,hs,ow,ps,o,hl=>by
  rw[lC] at hl;obtain⟨j,e,o'⟩:=o.step (by omega) h;have:=wL rest (hs++[h]) _ _ o' (by rw[lA];show hs.length+1+rest.length<=31;omega);rw[Cd,lA] at this;have I:aIN (some (ow,hs.length)) h=some (ow.setIfInBounds j (some hs.length),hs.length+1):=by show(do let j<-layClean.free 31 ow (turns 31) (bits h % (31+1)) (bits h);pure (ow.setIfInBounds j (some hs.length),hs.length+1))=_;rw[e];rfl
  rw[Bm,I];exact this
theorem aGb(hs:List Int)(hl:hs.length<=31)(f mv:Nat)(led pl:Bool):∃B:List (Nat×Nat),
 laid 31 f mv led pl hs.toArray=some ({ mask:=31,place:=(B.map (·.1)).toArray,dummies:=#[],finger:=f,led:=led,moves:=mv,plain:=pl },(B.map (·.2)).toArray) /\
 kF (B.map (·.1))/\(B.map (·.2)).Perm (A9 hs.length)/\∀p∈B,∀h,hs[p.2]? = some h->Rod 31 (·∈B.map (·.1)) h p.1:=by
 obtain⟨ow,ps,e,o⟩:=wL hs [] _ _ Ow.nil (by simpa using hl);rw[Dg] at e o;refine⟨(A9 32).filterMap λj=>(ow.getD j none).map (j,·),?_,?_,?_,?_⟩
 . unfold laid;have:layClean 31 hs.toArray=some ow:=by unfold layClean;rw[<-Array.foldl_toList];show(hs.foldl aIN (some (E1 32 none,0))).map (·.1)=some ow;rw[show(some (E1 32 none,0):Option (Array (Option Nat)×Nat))=some (E1 32 none,([]:List Int).length) from rfl,e];rfl
   rw[this];rfl
 all_goals
  have mem:∀j x,(ow.getD j none).map (j,·)=some x->x.1=j/\ps[x.2]? = some j:=λj x G=>by
   rw[A8] at G;cases q:ow[j]? with
   | none=>rw[q] at G;cases G|some y=>
    rw[q] at G;cases y with
    | none=>cases G|some z=>cases G;exact⟨rfl,(o.at_ j z).mp q⟩
 . rw[kF,C7];exact F4 _ (λa a' h b M b' L=>by rw[(mem _ _ M).1,(mem _ _ L).1];exact h) FJ
 all_goals
  have I:∀x j,ps[x]? = some j->(j,x)∈(A9 32).filterMap λj=>(ow.getD j none).map (j,·):=λx j G=>by have q:=(o.at_ j x).mpr G;refine B3.mpr ⟨j,Bn.mpr (by rw[<-o.sz];exact(Cv.mp q).1),?_⟩;rw[A8,q];rfl
 refine(List.perm_ext_iff_of_nodup ?_ F3).mpr λx=>?_;rw[K5,C7];exact F4 _ (λa a' h b M b' L z=>by
  have h1:=(mem _ _ M).2;have h2:=(mem _ _ L).2;rw[z,h2] at h1;cases h1;exact AC _ h) FJ
 rw[Bn,<-o.len];constructor;intro q;obtain⟨p,W,rfl⟩:=A0.mp q;obtain⟨j,_,U⟩:=B3.mp W;exact(Au.mp (mem _ _ U).2).1;intro q;exact A0.mpr ⟨(ps[x],x),I _ _ (Af q),rfl⟩;intro p W h hh;obtain⟨j,_,U⟩:=B3.mp W;obtain⟨e1,e2⟩:=mem _ _ U;rw[e1];refine(o.rod p.2 h j hh e2).mono λy hy=>?_;obtain⟨x,G⟩:=BQ.mp hy;exact A0.mpr ⟨(y,x),I _ _ G,rfl⟩
end L2
namespace L2
open PySem PySem.Spec PyProof.Rows SetTable
open Hp (tupHs)
set_option maxRecDepth 100000
abbrev KA:=List Int×Addr
def bW(xs:List KA):Array (Int×Value):=(xs.map λx=>(tupHs x.1,AB x.2)).toArray
theorem bM(xs:List KA):(bW xs).size=xs.length:=by unfold bW;rw[Aj,lM]
theorem kG(xs:List KA)(i:Nat):(bW xs)[i]? = (xs[i]?).map λx=>(tupHs x.1,AB x.2):=by unfold bW;rw[C0,Ar]
structure Tb (xs:List KA) (m:Nat) (ps:List Nat):Prop where
 m2:M2 m
 rise:kF ps
 len:ps.length=xs.length
 nd:(xs.map (·.1)).Nodup
 few:xs.length<=18
 few7:m=7->xs.length<=4
 rod:∀(i:Nat) x j,xs[i]? = some x->ps[i]? = some j->Rod m (·∈ps) (tupHs x.1) j
theorem Tb.lt{ps:List Nat}(T:Tb xs m ps):ps.length<m:=by have G:=T.len;have I:=T.few;have B:=T.few7;rcases T.m2 with rfl|rfl;have:=B rfl;omega;omega
def dA(w:AG):Bool:=w.params.followText "set-order"
noncomputable def aT(w:AG)(xs:List KA)(ep m:Nat)(ps:List Nat)(mv:Nat):Obj:={ cls:=.type "set",dict:=none,data:=.set (bW xs) ep (tm m ps mv (!dA w)),slots:=#[] }
theorem Tb.fits{xs:List KA}{m:Nat}{ps:List Nat}(T:Tb xs m ps){mv:Nat}{led:Bool}:(tm m ps mv led).fits (bW xs).size=true:=by have B:=T.len;have G:=T.lt;unfold J2 GM tm;rw[bM];simp;omega
section
variable {prog:A3} {w:AG} {A:Bh} {E:Value->Ad->Prop} {s:Ad} {S a:Addr} {k:List Int} {xs:List KA} {m mv ep:Nat} {ps:List Nat}
abbrev IsK(prog:A3)(w:AG)(h:Heap)(x:KA):Prop:=IsTupleKey (Da prog w) h x.1 x.2
theorem aDE(n:Nat)(h:DX v=true):Dj n v=pure false:=by
 cases v with
 | ref a=>simp[DX] at h|_=>first|rfl|simp[Dj]|(unfold Dj;rfl)
theorem aAM{Q:Bool->Ad->Prop}(M:IsK prog w s.heap (k,a))(h:Q false s):wpAny (A1 prog w) A (Dj 8 (.ref a)) Q E s:=by have U:=M.typeIs;obtain⟨o,items,n,W,_,hd,hi⟩:=M;unfold Dj;refine Aa (BY U ?_);dsimp only;rw[if_pos (by decide +kernel)];refine Aa (Ac ?_);rw[if_neg (by decide)];refine Aa (BB W hd ?_);dsimp only;rw[<-ET];refine Aa (D1 _ (λrest r L=>r.1=none/\L=s/\∀v∈rest,DX v=true) _ ?_ ?_ _ _ ⟨rfl,rfl,hi.byValue⟩);rintro v rest r L ⟨G,rfl,B⟩;rw[aDE _ (B v Ai)];refine Aa (Ac ?_);rw[if_neg (by decide)];exact Ac ⟨rfl,rfl,λu I=>B u (Ag _ I)⟩;rintro ⟨r1,r2⟩ L ⟨G,rfl,_⟩;simp only at G;subst G;exact Ac h
theorem aAN{k:Int}{v:Value}(h:(Da prog w).is k v=true):∃t,v=.int k t:=by change Ih k v=true at h;cases v <;> simp[Ih] at h;exact⟨_,by rw[h]⟩
theorem aLU{Q:Bool->Ad->Prop}(L:IsK prog w s.heap (k,a))(h:Q true s):wpAny (A1 prog w) A (Gm 8 (.ref a)) Q E s:=by
 have W:=L.typeIs;obtain⟨o,items,n,ho,_,hd,hi⟩:=L;unfold Gm;refine Aa (DJ W PySem.F.slot_tuple_hash.lookup ?_);dsimp only;refine Aa (BB ho hd ?_);dsimp only[Option.getD_some];rw[<-ET];refine Aa (D1 _ (λrest r I=>r.1=none/\I=s/\∃ks,ItemsAre (Da prog w) ks rest) _ ?_ ?_ _ _ ⟨rfl,rfl,_,hi⟩);rintro v rest r I ⟨G,rfl,ks,B⟩;cases B with
 | cons M U=>obtain⟨tk,rfl⟩:=aAN M;rw[show Gm 7 (.int _ tk)=pure true by unfold Gm;rfl];refine Aa (Ac ?_);rw[if_neg (by decide)];exact Ac ⟨rfl,rfl,_,U⟩
 rintro ⟨r1,r2⟩ I ⟨G,rfl,_⟩;simp only at G;subst G;exact Ac h
theorem aIO{Q:Bool->Ad->Prop}(W:IsK prog w s.heap (k,a)):∀(L:List KA),(∀y∈L,IsK prog w s.heap y)->Q false s->wpAny (A1 prog w) A (H0 (.ref a) (L.map λy=>AB y.2)) Q E s:=by
 intro L U h;unfold H0;refine Aa (D1 _ (λrest r I=>r.1=none/\I=s/\∃G:List KA,rest=G.map (λy=>AB y.2)/\∀y∈G,IsK prog w s.heap y) _ ?_ ?_ _ _ ⟨rfl,rfl,L,rfl,U⟩);rintro v rest r I ⟨M,rfl,G,hz,B⟩;cases G with
 | nil=>cases hz|cons z G=>cases hz;dsimp only;have tl:∀y∈G,IsK prog w I.heap y:=λy U=>B y (Ag _ U);by_cases c:((a==z.2)||(DX (.ref a)&&DX (.ref z.2)))=true;rw[if_pos c];exact Ac ⟨rfl,rfl,G,rfl,tl⟩;rw[if_neg c];refine Aa (FX W ?_);rw[if_neg (by decide)];refine Aa (FX (B z Ai) ?_);rw[if_neg (by decide)];refine Aa (aAM W ?_);rw[if_neg (by decide)];refine Aa (aAM (k:=z.1) (B z Ai) ?_);rw[if_neg (by decide)];exact Ac ⟨rfl,rfl,G,rfl,tl⟩
 rintro ⟨r1,r2⟩ I ⟨M,rfl,_⟩;simp only at M;subst M;exact Ac h
theorem aOT(T:Tb xs m ps){led:Bool}:(tm m ps mv led).gaveWay=false:=by rcases T.m2 with rfl|rfl <;> simp[KP,tm]
theorem prb{led:Bool}{h:Int}{p:Probe}{met:Met}(e:∀B,(∀i,i<ps.length->B i=((xs[i]?).map λx=>tupHs x.1).getD 0)->probe.go (tm m ps mv led) B h (10*turns m) p=some met)(B:Nat->Int)(y:∀i,B i=(((bW xs)[i]?).map (·.1)).getD 0):(tm m ps mv led).probe B h p=some met:=
 e B λi _=>by rw[y,kG,Option.map_map];rfl
theorem aCd(k:List Int):((bW xs).filter λx=>x.1==tupHs k).toList.map (·.2)=(xs.filter λx=>tupHs x.1==tupHs k).map λy=>AB y.2:=by unfold bW;rw[GA,Iz,AJ];rfl
theorem rZ(hu:A.units<C5)(T:Tb xs m ps)(ho:s.heap.get? S=some (aT w xs ep m ps mv))(hk:∀x∈xs,IsK prog w s.heap x)(ha:IsK prog w s.heap (k,a)){N:Nat}(hN:(pth m (tupHs k) N).j∉ps)(hl:∀n,n<N->(pth m (tupHs k) n).j∈ps)(hb:N<10*(m+15)){Q:SetFound->Ad->Prop}
 (h1:k∈xs.map (·.1)->Q (.there none) s) (h2:k∉xs.map (·.1)->Q (.free (pth m (tupHs k) N).j false) s):∀I n B,n<=N->N-n<I->(∀n' (i:Nat) x,n'<n->ps[i]? = some (pth m (tupHs k) n').j->xs[i]? = some x->x.1≠k)->B.getD (pth m (tupHs k) 0)=pth m (tupHs k) n ->
 wpAny (A1 prog w) A (GN S (.ref a) (tupHs k) true I B) Q E s
 | 0,n,_,_,hf,_,_=>absurd hf (Ci _)|f+1,n,B,hn,hf,hno,hst=>by
  rw[GN];refine Aa (BN ho rfl T.fits ?_);dsimp only;rw[if_neg (by rw[aOT T];decide)];rw[show(tm m ps mv (!dA w)).probeStart (tupHs k)=pth m (tupHs k) 0 from rfl,hst];have q7:=T.len;rcases probe_go (mv:=mv) (led:=!dA w) T.rise (λi=>((xs[i]?).map λx=>tupHs x.1).getD 0) hN hl (10*turns m) n hn (by unfold turns;omega) with⟨e,H⟩|⟨n',i,a1,a2,a3,a4,e,H⟩
  all_goals
   rw[prb e]
   case y=>exact λ_=>rfl
  dsimp only;refine Ac (h2 λhm=>?_);obtain⟨x,L,rfl⟩:=A0.mp hm;obtain⟨i,hi⟩:=BQ.mp L;have q4:=(Au.mp hi).1;obtain⟨M,b1,b2,b3⟩:=T.rod i x _ hi (Af (by omega));have b4:ps[i]? = some (pth m (tupHs x.1) M).j:=by rw[b2];exact Af _
  have q5:M<N:=by rcases Fh M N with z|z|z;exact z;exact absurd (mG b4) (by rw[z];exact hN);exact absurd (b3 N z) hN
  rcases AS M n with z|z;exact hno M i x z b4 hi rfl;exact H M i z q5 b4 (by rw[hi];rfl)
  . have q4:=(Au.mp a3).1;obtain⟨x,L⟩:∃x,xs[i]? = some x:=⟨_,Af (by omega)⟩
    have U:=mG L;have q0:x.1≠k->wpAny (A1 prog w) A (GN S (.ref a) (tupHs k) true f (some (pth m (tupHs k) (n'+1)))) Q E s:=λc=>
     rZ hu T ho hk ha hN hl hb h1 h2 f (n'+1) _ (by omega) (by omega) (λG W q6 q1 q2 q3=>by
      rcases AS G n with z|z;exact hno G W q6 z q2 q3;rcases AS G n' with z'|z';intro z3;exact H G W z z' q2 (by rw[q3];exact congrArg tupHs z3);obtain rfl:G=n':=by omega
      have:=(zL T.rise a3).symm.trans (zL T.rise q2);subst this;rw[L] at q3;cases q3;exact c) rfl
    dsimp only;split
    case' isTrue=>refine Aa ?_;rw[aCd];refine aIO ha _ (λy hy=>hk y (Df.mp hy).1) ?_;rw[if_neg (by decide)]
    all_goals
     rw[kG,L];dsimp only[E2];refine Aa (AR (wpAny_eqBool_tuple hu (hk x U) ha ?_));refine Aa (BN ho rfl T.fits ?_);dsimp only;by_cases c:x.1=k;rw[if_pos (by simp[c])];exact Ac (h1 (A0.mpr ⟨x,U,c⟩));rw[if_neg (by simp[c]),show(tm m ps mv (!dA w)).sameMemory (tm m ps mv (!dA w)).moves (tm m ps mv (!dA w)).mask=some true by unfold Kz;rw[if_pos (beq_self_eq_true _)]];dsimp only;rw[if_pos rfl,fK T.rise a3];dsimp only;rw[kG,L];dsimp only[E2];refine Aa ?_;unfold isSame;dsimp only;rw[if_pos (beq_self_eq_true _)];refine Ac (Aa (Ac ?_));rw[if_pos rfl];dsimp only;rw[if_neg (by simp[c])];exact q0 c
end
set_option maxRecDepth 100000
def dO{α:Type}(l:List α)(p:Nat)(x:α):List α:=l.take p++x::l.drop p
theorem kH{α:Type}(l:List α)(p:Nat)(x:α):H9 l.toArray p x=(dO l p x).toArray:=by unfold H9 dO;apply Array.ext';simp[List.extract_eq_drop_take];rw[DY (by rw[CT];omega)]
theorem hW{α:Type}{l:List α}{p:Nat}{x:α}:(dO l p x).length=l.length+1:=by unfold dO;rw[lA,lC,Bl,CT];omega
theorem lX{α:Type}{l:List α}{p:Nat}{x:α}:(dO l p x).Perm (x::l):=by unfold dO;refine List.perm_middle.trans ?_;rw[Ec]
theorem aAO{α:Type}{l:List α}{p:Nat}{x:α}(G:p<=l.length)(i:Nat):(dO l p x)[i]? = if i<p then l[i]? else if i=p then some x else l[i-1]? := by unfold dO;by_cases h:i<p;rw[if_pos h,A4 (by rw[Bl];omega),Hf,if_pos h];rw[if_neg h,Az (by rw[Bl];omega),Bl,Nat.min_eq_left G];by_cases B:i=p;rw[if_pos B,B,Nat.sub_self];rfl;rw[if_neg B,show i-p=(i-1-p)+1 by omega,gS,EU,show p+(i-1-p)=i-1 by omega]
theorem wM{α B:Type}(f:α->B)(l:List α)(p:Nat)(x:α):(dO l p x).map f=dO (l.map f) p (f x):=by unfold dO;rw[Bd,mC,J3,J4]
theorem aDF{ps:List Nat}(I:kF ps)(hj:j∉ps):kF (dO ps (below ps.toArray j) j):=by
 obtain⟨h1,U,W⟩:=bel I j;have up:∀i v,below ps.toArray j<=i->ps[i]? = some v->j<v:=λi v a b=>by have:=W i v a b;have:j≠v:=λz=>hj (z▸mG b);omega
 unfold dO kF;rw[Gn];refine⟨I.sublist (Hu _ _),BU.mpr ⟨λv M=>?_,I.sublist (List.drop_sublist _ _)⟩,λv M u L=>?_⟩;obtain⟨i,hi⟩:=BQ.mp M;rw[EU] at hi;exact up _ _ (Dz _ _) hi;obtain⟨i,hi⟩:=BQ.mp M;rw[Hf] at hi;split at hi;have G:=U i v ‹_› hi;rcases As.mp L with rfl|L;exact G;obtain⟨i',B⟩:=BQ.mp L;rw[EU] at B;exact EB G (up _ _ (Dz _ _) B);cases hi
theorem aIP{xs:List KA}(T:Tb xs m ps){a:Addr}(M:k∉xs.map (·.1))(L:N<10*(m+15))(hN:(pth m (tupHs k) N).j∉ps)(U:∀n,n<N->(pth m (tupHs k) n).j∈ps) :
 let p:=below ps.toArray (pth m (tupHs k) N).j
 (∀(i:Nat) x j,(dO xs p (k,a))[i]? = some x->(dO ps p (pth m (tupHs k) N).j)[i]? = some j->Rod m (·∈dO ps p (pth m (tupHs k) N).j) (tupHs x.1) j)/\((dO xs p (k,a)).map (·.1)).Nodup:=by intro p;have I:p<=ps.length:=(bel T.rise _).1;have sub:∀y,y∈ps->y∈dO ps p (pth m (tupHs k) N).j:=λy hy=>lX.mem_iff.mpr (Ag _ hy);refine⟨λi x j G B=>?_,?_⟩;rw[aAO (by rw[<-T.len];exact I)] at G;rw[aAO I] at B;split at G;rw[if_pos ‹_›] at B;exact(T.rod i x j G B).mono sub;rw[if_neg ‹_›] at B;split at G;rw[if_pos ‹_›] at B;cases G;cases B;exact⟨N,L,rfl,λn W=>sub _ (U n W)⟩;rw[if_neg ‹_›] at B;exact(T.rod _ x j G B).mono sub;rw[wM];exact(lX.nodup_iff).mpr (AZ.mpr ⟨M,T.nd⟩)
theorem aAP{α:Type}{xs:List α}:∀(l:List Nat),(∀x∈l,x<xs.length)->(l.filterMap λi=>xs[i]?).length=l.length/\∀i:Nat,(l.filterMap λi=>xs[i]?)[i]? = (l[i]?).bind λi=>xs[i]?
 | [],_=>⟨rfl,λi=>by simp⟩
 | y::l,h=>by
  obtain⟨G,I⟩:=aAP (xs:=xs) l λx L=>h x (Ag _ L);have B:=h y Ai;rw[Cj,Af B];dsimp only;refine⟨by rw[lC,lC,G],λi=>?_⟩;cases i with
  | zero=>simp[B]|succ i=>rw[gS,gS,I]
section
variable {prog:A3} {w:AG} {A:Bh} {E:Value->Ad->Prop} {s:Ad} {S a:Addr} {k:List Int} {xs:List KA} {m mv ep:Nat} {ps:List Nat}
theorem wN{h:Heap}(M:h.get? S=some (aT w xs ep m ps mv))(I:List KA)(L:Nat)(G:List Nat)(B:Nat):(h.update S (K6 (bW I) (tm L G B (!dA w)))).get? S=some (aT w I (ep+1) L G B):=by have:=B9 (K6 (bW I) (tm L G B (!dA w))) M rfl;exact this
theorem aLV{led:Bool}{j:Nat}:(tm m ps mv led).put j=(tm m (dO ps (below ps.toArray j) j) mv led,below ps.toArray j):=by unfold SetTable.put tm;dsimp only;rw[kH,if_neg (by simp[has])]
theorem aDG(p:Nat):insertAt (bW xs) p (tupHs k,AB a)=bW (dO xs p (k,a)):=by unfold bW;rw[kH,wM]
theorem aGc(ho:s.heap.get? S=some (aT w xs ep 7 ps mv))(hf:(tm 7 ps mv (!dA w)).fits (bW xs).size=true)(hl:xs.length=5)(q6:(xs.map (·.1)).Nodup){Q:Unit->Ad->Prop}
 (h:∀h' L q0 I q3,B5 S s.heap h'->Tb L 31 q0->h'.get? S=some (aT w L q3 31 q0 I)->L.Perm xs->Q () { s with heap:=h' }):wpAny (A1 prog w) A (setRelay S 20) Q E s:=by
 unfold setRelay;refine Aa (BN ho rfl hf ?_);dsimp only;rw[if_neg (by decide +kernel)];obtain⟨B,e,h1,M,h3⟩:=aGb (xs.map λx=>tupHs x.1) (by rw[lM];omega) 0 ((tm 7 ps mv (!dA w)).movedTo 31) (!dA w) true;have W:(tm 7 ps mv (!dA w)).relaid ((bW xs).map (·.1)) 20=some (tm 31 (B.map (·.1)) ((tm 7 ps mv (!dA w)).movedTo 31) (!dA w),(B.map (·.2)).toArray):=by
  have:(bW xs).map (·.1)=(xs.map λx=>tupHs x.1).toArray:=by unfold bW;rw[List.map_toArray,AJ];rfl
  rw[this];exact e
 rw[W];generalize (tm 7 ps mv (!dA w)).movedTo 31=I;rw[lM] at M;have q5:∀x∈B.map (·.2),x<xs.length:=λx hx=>Bn.mp (M.mem_iff.mp hx);obtain⟨q1,q2⟩:=aAP (xs:=xs) (B.map (·.2)) q5;have G:(B.map (·.2)).length=xs.length:=by rw[M.length_eq,Ce]
 have q4:((B.map (·.2)).toArray.filterMap λi=>(bW xs)[i]?)=bW ((B.map (·.2)).filterMap λi=>xs[i]?):=by
  apply HW.mp;rw[Array.toList_filterMap];unfold bW;show(B.map (·.2)).filterMap (λi=>(xs.map λx=>(tupHs x.1,AB x.2)).toArray[i]?)=((B.map (·.2)).filterMap λi=>xs[i]?).map λx=>(tupHs x.1,AB x.2)
  rw[List.map_filterMap];refine congrArg (λf=>List.filterMap f _) (funext λi=>?_);rw[C0,Ar]
 refine Aa ?_;show wpAny _ _ (if (((B.map (·.2)).toArray.filterMap λi=>(bW xs)[i]?).size != (bW xs).size)=true then _ else _) _ _ _;rw[q4,if_neg (by rw[bM,bM,q1,G];simp)];refine Ac ?_;refine HA ho rfl ?_ (by rw[bM,q1,G,hl];decide);refine h _ ((B.map (·.2)).filterMap λi=>xs[i]?) (B.map (·.1)) I (ep+1) (AQ s.heap S _) ?_ ?_ ?_;have pm:((B.map (·.2)).filterMap λi=>xs[i]?).Perm xs:=by have:=M.filterMap λi=>xs[i]?;rw[D9] at this;exact this
 refine⟨.inr rfl,h1,by rw[q1,lM,lM],((pm.map _).nodup_iff).mpr q6,by rw[q1,G];omega,λz=>absurd z (by decide),λi x j hx U=>?_⟩;rw[q2,Ar] at hx;rw[Ar] at U;cases hp:B[i]? with
 | none=>rw[hp] at U;cases U|some p=>rw[hp] at hx U;cases U;refine h3 p (mG hp) _ ?_;rw[Ar,show xs[p.2]? = some x from hx];rfl
 exact wN ho _ _ _ _;have:=M.filterMap λi=>xs[i]?;rw[D9] at this;exact this
theorem aLW(hu:A.units<C5)(T:Tb xs m ps)(ho:s.heap.get? S=some (aT w xs ep m ps mv))(hk:∀x∈xs,IsK prog w s.heap x)(ha:IsK prog w s.heap (k,a))(q0:k∉xs.map (·.1)->xs.length<=17){Q:Bool->Ad->Prop}
 (h:∀h' b B m' I U L,B5 S s.heap h'->Tb B m' I->h'.get? S=some (aT w B L m' I U)->(if k∈xs.map (·.1) then B=xs else B.Perm ((k,a)::xs))->Q b { s with heap:=h' }):wpAny (A1 prog w) A (JP S (.ref a) (tupHs k)) Q E s:=by
 obtain⟨N,hb,hN,hl⟩:=zO T.m2 (Dy T.lt) (tupHs k);unfold JP setAddHashedIn;refine AR (Aa (BN ho rfl T.fits ?_));dsimp only;rw[if_neg (by unfold byScan;simp[Value.scannable])];unfold setSearch;have q3:m<=31:=by rcases T.m2 with rfl|rfl <;> omega
 refine Aa (rZ hu T ho hk ha hN hl hb (λW=>?_) (λW=>?_) 100000 0 none (AA _) (by omega) (λn' i x z=>absurd z (Ci _)) rfl);dsimp only;refine Ac ?_;exact h s.heap false xs m ps mv ep (Fi S s.heap) T ho (by rw[if_pos W]);dsimp only;refine Aa (BN ho rfl T.fits ?_);dsimp only;rw[aLV];dsimp only;rw[if_pos (show(tm m _ mv (!dA w)).plain=true from rfl)];refine Aa (aLU ha ?_);rw[if_pos rfl,aDG];obtain⟨g1,g2⟩:=aIP (a:=a) T W hb hN hl;have g3:=aDF T.rise hN;generalize below ps.toArray (pth m (tupHs k) N).j=p at g1 g2 g3 ⊢;generalize hj:(pth m (tupHs k) N).j=j at g1 g3 ⊢;have q1:(dO ps p j).length=(dO xs p (k,a)).length:=by rw[hW,hW,T.len]
 have G:(dO xs p (k,a)).length=xs.length+1:=hW;have q4:=q0 W;refine Aa (HA ho rfl ?_ (by rw[bM,G];exact AI (show xs.length+1<=18 by omega) (by decide)));have q2:=wN ho (dO xs p (k,a)) m (dO ps p j) mv;have M:(tm m (dO ps p j) mv (!dA w)).tooFull=decide ((xs.length+1)*5 ≥ m*3):=by unfold KQ GM tm;simp[hW,T.len]
 have pm:(dO xs p (k,a)).Perm ((k,a)::xs):=lX;rw[M,bM];by_cases c:(xs.length+1)*5 ≥ m*3;have h7:m=7/\xs.length=4:=by rcases T.m2 with rfl|rfl;have:=T.few7 rfl;omega;omega
 obtain⟨rfl,h4⟩:=h7;rw[if_pos (by simpa using c),h4,show grown (4+1)=20 by decide];refine Aa (aGc (s:={ s with heap:=_ }) q2 ?_ (by rw[G,h4]) g2 λh' B I U L b1 b2 b3 b4=>?_);unfold J2 GM tm;rw[bM,G,h4];simp[hW,T.len,h4];exact Ac (h h' true B 31 I U L ((AQ s.heap S _).trans b1) b2 b3 (by rw[if_neg W];exact b4.trans pm));rw[if_neg (by simpa using c)];refine Ac (h _ true _ m _ mv (ep+1) (AQ s.heap S _) ⟨T.m2,g3,q1,g2,by rw[G];omega,λz=>?_,g1⟩ q2 (by rw[if_neg W];exact pm));subst z;rw[G];omega
end
set_option maxRecDepth 100000
def jH(w:AG)(h:Heap)(S:Addr)(us:List KA):Prop:=∃xs m ps mv ep,Tb xs m ps/\h.get? S=some (aT w xs ep m ps mv)/\(∀x∈xs,x∈us)/\∀y∈us,y.1∈xs.map (·.1)
section
variable {prog:A3} {w:AG} {A:Bh} {R:GX->Ad->Prop} {I:Addr} {fp wr:List Addr} {G:Array Gg->Array Gg->Prop} {n:Nat} {P:Nat->Value->Prop} {St:Nat->Ad->Prop}
theorem jH.keep{h h':Heap}{S:Addr}{us:List KA}(x:jH w h S us)(e:∀o,h.get? S=some o->h'.get? S=some o):jH w h' S us:=by obtain⟨xs,m,ps,mv,ep,T,B,r⟩:=x;exact⟨xs,m,ps,mv,ep,T,e _ B,r⟩
theorem IsK.keep{h h':Heap}{x:KA}(q:IsK prog w h x)(e:∀o,h.get? x.2=some o->h'.get? x.2=some o):IsK prog w h' x:=by obtain⟨o,its,n,B,r⟩:=q;exact⟨o,its,n,e _ B,r⟩
theorem aCe(W0:WalksS prog w A.in1 I fp wr G n P St)(hu:A.units+10<C5)(S:Addr)(q2:S∉fp)(us:List KA)(q9:∀i v,P i v->∃x,us[i]? = some x/\v=AB x.2)(hn:us.length=n)(q7:∀x∈us,x.2∉S::wr)(ks:List (List Int))(z4:ks.length<=18)(q3:∀x∈us,x.1∈ks) :
 ∀(m i:Nat) (s:Ad),n-i=m->i<=n->St i s->jH w s.heap S (us.take i)->(∀x∈us,IsK prog w s.heap x) ->
  (∀B,Moved (S::wr) G s B->jH w B.heap S us->R (.ok (.ret .none)) B) ->
  Eo (A1 prog w) A (.builtin "set.update.loop" ⟨[.ref S,.ref I],[]⟩) R s:=by
 have nw:S∉wr:=λh=>q2 (W0.sub _ h);have sb:∀b∈wr,b∈S::wr:=λb hb=>Ag _ hb;intro m
 induction m with
 | zero=>
  intro i s hk hi W hS hK hR;obtain rfl:i=n:=by omega
  refine BF DA ?_;rw[Bv Cm _];show wpAny _ A.in1 (D8 (.ref I) >>= _) _ _ s;refine Aa (W0.done s _ _ W λB hm=>?_);show wpAny _ A.in1 (ret Bj) _ _ B;rw[DY (by omega)] at hS;exact Ac (hR B (hm.mono sb) (hS.keep λo e=>hm.heap S o nw e))
 | succ m ih=>
  intro i s hk hi W hS hK hR;have q5:i<n:=by omega
  refine BF DA ?_;rw[Bv Cm _];show wpAny _ A.in1 (D8 (.ref I) >>= _) _ _ s;refine Aa (W0.item i s _ _ q5 W λv B hP q8 hm=>?_);obtain⟨x,q4,rfl⟩:=q9 i v hP;have q0:=mG q4;obtain⟨xs,m',ps,mv,ep,T,ho,r1,r2⟩:jH w B.heap S (us.take i):=hS.keep λo e=>hm.heap S o nw e;have M:∀x∈us,IsK prog w B.heap x:=λx hx=>(hK x hx).keep λo e=>hm.heap _ o (λz=>q7 x hx (Ag _ z)) e;have w8:us.take (i+1)=us.take i++[x]:=by rw[Go,q4];rfl
  show wpAny _ A.in1 (Ff [AB x.2] (setAdd S (AB x.2)) >>= _) _ _ B;refine Aa (AR ?_);unfold setAdd;refine AR ?_;refine Aa (Hg (ks:=x.1) (by show A.units+1<C5;omega) (M x q0) ?_);refine aLW (k:=x.1) (s:={ B with toks:=B.toks+(x.1.length+1) }) (by show A.units+1<C5;omega) T ho (λy L=>M y (Bw (r1 y L))) (M x q0) (λw6=>?_) λh' b z3 w9 z1 z0 w3 U T' w7 hp=>?_;have:=(AZ.mpr ⟨w6,T.nd⟩).length_le_of_subset (l₂:=ks) λy L=>by rcases As.mp L with rfl|L;exact q3 x q0;obtain⟨z,hz,rfl⟩:=A0.mp L;exact q3 z (Bw (r1 z hz))
  rw[lC,lM] at this;omega;have w5:jH w h' S (us.take (i+1)):=by rw[w8];refine⟨z3,w9,z1,z0,w3,T',w7,?_,?_⟩;intro y L;split at hp;rw[hp] at L;exact AE _ (r1 y L);rcases As.mp (hp.mem_iff.mp L) with rfl|q;exact A5 _ (Ap.mpr rfl);exact AE _ (r1 y q);intro y L;split at hp;rw[hp];rcases AY.mp L with q|q;exact r2 y q;rw[Ap.mp q];assumption;refine(hp.map _).mem_iff.mpr ?_;rcases AY.mp L with q|q;exact Ag _ (r2 y q);rw[Ap.mp q];exact Ai
  have w4:∀y∈us,IsK prog w h' y:=λy L=>(M y L).keep λo e=>by rw[U.2 y.2 λz=>q7 y L (by rw[z];exact Ai)];exact e
  refine Ac ⟨CH Cm _,ih (i+1) _ (by omega) q5 (W0.frame _ B _ _ q8 (by show B.toks<=B.toks+_;omega) λb hb o e=>?_) w5 w4 λz2 q6 q1=>?_⟩;rw[U.2 b λh:b=S=>q2 (by rw[<-h];exact hb)];exact e;refine hR z2 (Moved.trans W0.gtrans ((hm.mono sb).then_heap (by show B.toks<=B.toks+_;omega) λb o hb e=>?_) q6) q1;rw[U.2 b λh:b=S=>hb (by rw[h];exact Ai)];exact e
end
section
variable {prog:A3} {w:AG} {A:Bh} {E:Value->Ad->Prop} {s:Ad}
theorem aDH(a:Value){Q₁:Value->Ad->Prop}(h:Q₁ (.ref s.heap.objs.size) { s with heap:=s.heap.push { cls:=.type "set",dict:=none,data:=.set #[] 0 (.fresh 0 0 (!dA w)) } }) :
 Eo (A1 prog w) A (.call (.builtin "set.__new__") ⟨[.type "set",a],[]⟩) (wants Q₁ E) s:=by
 refine IA ?_;show wpAny _ A.in1 (do checkBuiltinCall "set.__new__" ⟨[.type "set",a],[]⟩;again (.builtin "set.__new__" ⟨[.type "set",a],[]⟩)) _ _ s;refine Aa (Gp (F.newCall_set_1 a) (Ac ⟨CH IB _,BF F.entry_set_new ?_⟩));rw[Bv IB _];unfold BX.«set.__new__» Jb;have B:=sub_set_self;obtain⟨G,g,d,tk,os⟩:=s;dsimp only
 wp_walk
 refine D2 (Ac ?_);dsimp only;simp only[newObj];refine Aa (wpAny_alloc (Ac ?_));exact Ac h
set_option maxHeartbeats 3200000 in
theorem aCf{l:Addr}{items:Array Value}{us:List KA}{Q:Value->Ad->Prop}(hh:A.handled=none)(hu:A.units+20<C5)(hl:s.heap.IsList l items)(hi:items.toList=us.map λx=>AB x.2)(hK:∀x∈us,IsK prog w s.heap x)(ks:List (List Int))(w5:ks.length<=18)(w3:∀x∈us,x.1∈ks)
 (h:∀(h':Heap) (tk:Nat),jH w h' s.heap.objs.size us->(∀b o,b<s.heap.objs.size->s.heap.get? b=some o->h'.get? b=some o)->Q (.ref s.heap.objs.size) { s with heap:=h',toks:=tk }) :
 wpAny (A1 prog w) A (call (.type "set") [.ref l]) Q E s:=by
 have hn:us.length=items.size:=by rw[<-A6,hi,lM]
 obtain⟨c,tl,z0⟩:=BH.mro;have w6:=BH.made;have z3:=BH.sub;refine wpAny_call (IA ?_);show wpAny _ _ (callAny (.type "set") _) _ _ _;refine Ac ⟨Code.quiet_builtin _ (by decide +kernel),BF F.entry_type_call ?_⟩;rw[Around.under_plain (weight_type_call_type "set" [.ref l] []) rfl];have h1:=BH.notType;have h2:=BH.canCreate;have z6:=PySem.F.typeCall_set_1 (.ref l)
 repeat (any_goals (first|assumption|wp_step))
 refine EA (aDH (.ref l) (E:=E) (Q₁:=λobj L=>obj=.ref s.heap.objs.size/\L={ s with heap:=s.heap.push { cls:=.type "set",dict:=none,data:=.set #[] 0 (.fresh 0 0 (!dA w)) } }) ⟨rfl,rfl⟩) λr L hr=>?_;cases r with
 | error e=>exact hr|ok fl=>
  cases fl with
  | ret obj=>
   obtain⟨rfl,rfl⟩:=hr;generalize q4:(!dA w)=led at *;have hS:(s.heap.push { cls:=.type "set",dict:=none,data:=.set #[] 0 (.fresh 0 0 led) }).get? s.heap.objs.size=some { cls:=.type "set",dict:=none,data:=.set #[] 0 (.fresh 0 0 led) }:=Al _ rfl;have hT:Ep { s with heap:=s.heap.push { cls:=.type "set",dict:=none,data:=.set #[] 0 (.fresh 0 0 led) } } (.ref s.heap.objs.size) "set" := ⟨_,hS,rfl⟩
   have z7:=BH.init.lookup;have z5:=BH.init.bind (.ref s.heap.objs.size)
   repeat (any_goals (first|assumption|wp_step))
   refine EA (codeAny_call_builtin (R:=wants (λr M=>r=.none/\∃h' tk,M={ s with heap:=h',toks:=tk }/\jH w h' s.heap.objs.size us /\
    (∀b o,b<s.heap.objs.size->s.heap.get? b=some o->h'.get? b=some o)) E) BH.init.plain F.entry_set_init (check_set_init_1 hT ?_)) λq7 M B=>?_
   . obtain⟨ol,q5,q1,nl,hdl⟩:=hl;obtain⟨z4,q0,w7,I⟩:=ol;simp only at q1 hdl;subst q1;subst hdl;have q6:(s.heap.push { cls:=.type "set",dict:=none,data:=.set #[] 0 (.fresh 0 0 led) }).get? l=some { cls:=.type "list",dict:=q0,data:=.seq items nl,slots:=I }:=Ab _ q5;have z2:=PySem.F.sub_list_set;have z1:=PySem.F.sub_list_frozenset;have z8:(Eg "list" == Eg "dict")=false:=by decide
     have q2:(s.heap.push { cls:=.type "set",dict:=none,data:=.set #[] 0 (.fresh 0 0 led) }).IsList l items:=⟨_,q6,rfl,nl,rfl⟩
     unfold BX.«set.__init__» noKeywords IC;generalize q8:GW=PI
     wp_walk
     subst q8;refine Dl q2 ?_;refine Aa (Gq ?_);have q3:l<s.heap.objs.size:=Am q5;have q9:A.in1.in1.in1.handled=none:=by simp[hh]
     have hsz:(s.heap.push { cls:=.type "set",dict:=none,data:=.set #[] 0 (.fresh 0 0 led) }).objs.size=s.heap.objs.size+1:=BC _ _;refine aCe ((K7 q9 _ l (by rw[hsz];exact Aw (Br q3)) items).toS) (by show A.units+1+1+10<C5;omega) s.heap.objs.size
      (by
       rw[hsz];intro z;rcases As.mp z with q|q;exact absurd q (Aw (Bz _));exact absurd (Ap.mp q) (BE q3)) us
      (λi v hv=>by
       have G:items.toList[i]? = some v:=by rw[AL];exact hv
       rw[hi,Ar] at G;cases q:us[i]? with
       | none=>rw[q] at G;cases G|some x=>rw[q] at G;cases G;exact⟨x,rfl,rfl⟩) hn
      (λx hx z=>by
       obtain⟨o,_,_,ho,_⟩:=hK x hx;have:=Am ho;rw[hsz] at z;rcases As.mp z with q|q;exact absurd q (Aw this);exact absurd (Ap.mp q) (Aw (Br this))) ks w5 w3 (items.size-0) 0 _ (by omega) (AA _)
      ⟨⟨_,Al _ rfl,rfl,rfl⟩,(q2.push _)⟩ ?hS0 ?hK0 ?hR
     case hS0=>refine⟨[],7,[],0,0,⟨.inl rfl,BM,rfl,Gr,by decide,λ_=>by decide,λi x j hx=>by simp at hx⟩,?_,λx hx=>by simp at hx,λy hy=>by simp at hy⟩;unfold aT;rw[q4];exact Ab _ hS
     case hK0=>exact λx hx=>(hK x hx).keep λo e=>Ab _ (Ab _ e)
     case hR=>intro s' hm W;obtain⟨h',g',d',w9,w8⟩:=s';have eg:g'=s.gens:=hm.gens;have ed:d'=s.drawn:=hm.drawn;have eo:w8=s.os:=hm.os;subst eg;subst ed;subst eo;show wpAny _ _ _ _ _ _;refine Ac ?_;show wpAny _ _ (ret Bj) _ _ _;refine Ac ⟨rfl,h',w9,rfl,W,λb o hb e=>?_⟩;refine hm.heap b o ?_ (Ab _ (Ab _ e));rw[hsz];intro z;rcases As.mp z with q|q;exact absurd q (Aw hb);exact absurd (Ap.mp q) (Aw (Br hb))
   . cases q7 with
     | error e=>exact B|ok U=>
      cases U with
      | ret r=>
       obtain⟨rfl,h',tk,rfl,W,w4⟩:=B
       repeat (any_goals (first|assumption|wp_step))
       exact h _ _ W w4
      | _=>exact B.elim
  | _=>exact hr.elim
end
end L2
namespace L2
open PySem PySem.Spec PyProof.Rows
open Hp (tupHs)
set_option maxRecDepth 100000
theorem cB:Slot "set_iterator" "__next__" "set_iterator.__next__" :=
 .of (owner:= "set_iterator") (n:= "__next__") (by rw[FS,Ed];kernel_rfl) (by decide +kernel) (by decide +kernel) (by decide +kernel)
  (by first|exact .inl (by decide +kernel)|exact .inr (by decide +kernel)) (by rw[EV];kernel_rfl)
theorem gP:Jc KU "set_iterator.__next__" = some BX.«set_iterator.__next__»:=HX (by kernel_rfl)
theorem hZ(a:Value):K8 "set_iterator.__next__" ⟨[a],[]⟩:=by unfold K8;kernel_rfl
theorem pA:Jc KU "set.__iter__" = some BX.«frozenset.__iter__»:=
 Jd (id':= "frozenset.__iter__") (by kernel_rfl) rfl (by decide +kernel) (by kernel_rfl)
theorem iA:Slot "set_iterator" "__iter__" "set_iterator.__iter__" :=
 .of (owner:= "set_iterator") (n:= "__iter__") (by rw[FS,Ed];kernel_rfl) (by decide +kernel) (by decide +kernel) (by decide +kernel)
  (by first|exact .inl (by decide +kernel)|exact .inr (by decide +kernel)) (by rw[EV];kernel_rfl)
theorem nV:Jc KU "set_iterator.__iter__" = some BX.«dict_keyiterator.__iter__»:=
 Jd (id':= "dict_keyiterator.__iter__") (by kernel_rfl) rfl (by decide +kernel) (by kernel_rfl)
theorem pB(a:Value):K8 "set_iterator.__iter__" ⟨[a],[]⟩:=by unfold K8;kernel_rfl
theorem pC{α:Type}:∀(l:List α) (j:Nat) (h:j<l.length),(l[j]::l.eraseIdx j).Perm l
 | [],_,h=>absurd h (Ci _)|a::l,0,_=>DZ _|a::l,j+1,h=>(KW a (l[j]'(by simpa using h)) _).trans ((pC l j (by simpa using h)).cons a)
theorem sA{α:Type}(next:Nat->Nat):∀(G k:Nat) (B:List α) (out:Array α),B.length=G->(HB next G k B out).toList.Perm (out.toList++B)
 | 0,_,B,out,h=>by have:B=[]:=List.eq_nil_of_length_eq_zero h;subst this;rw[HB,AH]|G+1,k,B,out,h=>by
  have I:next k % B.length<B.length:=EQ _ (by omega)
  rw[HB,Af I];dsimp only;refine(sA next G (k+1) _ _ (by rw[List.length_eraseIdx_of_lt I];omega)).trans ?_;rw[Array.toList_push,Cd];exact Kb _ (pC _ _ I)
def pD(w:AG)(S:Addr)(ep:Nat)(es:Array (Int×Value)):Array (Int×Value):=if dA w then pickOrder (w.params.setOrder S ep) es else es
theorem wP(w:AG)(S:Addr)(ep:Nat)(es:Array (Int×Value)):(pD w S ep es).toList.Perm es.toList:=by unfold pD;split;unfold pickOrder;refine(sA _ _ _ _ _ (by rw[A6])).trans ?_;simp;exact DZ _
theorem kI(w:AG)(S:Addr)(ep:Nat)(es:Array (Int×Value)):(pD w S ep es).size=es.size:=by rw[<-A6,(wP w S ep es).length_eq,A6]
def zP(ps:List Nat):Nat->Nat
 | 0=>0|i+1=>ps.getD i 0+1
def slotV(w:AG)(ps:List Nat)(i:Nat):Nat:=if dA w then 0 else zP ps i
theorem aCg{ps:List Nat}(G:kF ps):∀i,i<=ps.length->Dq ps.toArray (zP ps i)=i
 | 0,_=>by obtain⟨M,B,I⟩:=bel G 0;rcases Nat.eq_zero_or_pos (Dq ps.toArray 0) with z|z;exact z;exact absurd (B 0 _ z (Af (by omega))) (Ci _)
 | i+1,hi=>by
  show Dq ps.toArray (ps.getD i 0+1)=i+1;obtain⟨M,B,I⟩:=bel G (ps.getD i 0+1);have L:ps[i]? = some (ps.getD i 0):=by rw[AU,Af (by omega)];rfl
  rcases Fh (Dq ps.toArray (ps.getD i 0+1)) (i+1) with z|z|z;have:=I i _ (by omega) L;omega;exact z;have q:=Af (l:=ps) (i:=i+1) (by omega);have:=B (i+1) _ z q;have:=G.lt (Bz i) L q;omega
section
variable {prog:A3} {w:AG} {A:Bh} {E:Value->Ad->Prop} {s:Ad}
def lY(w:AG)(S:Addr)(ep:Nat)(ps:List Nat)(i:Nat):Obj:={ cls:=.type "set_iterator",dict:=none,data:=.fields #[BZ (slotV w ps i),BZ i,.ref S,BZ ps.length,BZ ep],slots:=#[] }
variable {S I:Addr} {ep i m mv:Nat} {ps:List Nat} {xs:List KA}
theorem aHM{Q:Option (Value×Nat)->Ad->Prop}(T:Tb xs m ps)(W:s.heap.get? S=some (aT w xs ep m ps mv))(hi:i<=ps.length)
 (h:Q (((pD w S ep (bW xs))[i]?).map λe=>(e.2,slotV w ps (i+1))) s):wpAny (A1 prog w) A (JQ S (slotV w ps i) i ep) Q E s:=by
 have U:(tm m ps mv (!dA w)).fits (bW xs).size=true:=T.fits;unfold JQ;refine Aa (BN W rfl U ?_);dsimp only;unfold Je;refine Aa (Aa (D2 (Ac ?_)));show wpAny _ _ (if dA w=true then _ else _) _ _ s;unfold pD slotV at h;unfold slotV;cases G:dA w with
 | true=>rw[G,if_pos rfl,if_pos rfl] at h;rw[if_pos rfl,if_pos rfl];rw[if_neg (by simp)];unfold setWalk;refine Aa (Aa (BN W rfl U ?_));dsimp only;unfold Je;refine Aa (Aa (D2 (Ac ?_)));show wpAny _ _ (if dA w=true then _ else _) _ _ s;rw[G,if_pos rfl];refine Aa (D2 (Ac ?_));exact Ac h|false=>
  rw[G,if_neg bN,if_neg bN] at h;rw[if_neg bN,if_neg bN];show wpAny _ _ (if (!true&&decide ((bW xs).size>1))=true then _ else _) _ _ s;rw[if_neg (by simp)];refine Aa ?_;show wpAny _ _ (if (!(!false)&&!(bW xs).isEmpty)=true then _ else _) _ _ s;rw[if_neg (by simp)];refine Ac ?_;have L:=aCg T.rise i hi;show wpAny _ _ (pure (match (bW xs)[Dq ps.toArray (zP ps i)]?,ps.toArray[Dq ps.toArray (zP ps i)]? with
   | some (_,x),some j=>some (x,j+1)|_,_=>none)) _ _ s
  rw[L];refine Ac ?_;have e:(match (bW xs)[i]?,ps.toArray[i]? with|some (_,x),some j=>some (x,j+1)|_,_=>none)=((bW xs)[i]?).map λe=>(e.2,zP ps (i+1)):=by
   by_cases B:i<ps.length;have M:i<xs.length:=by have:=T.len;omega
   rw[kG,Af M,C0,Af B];simp[zP,B];have M:xs.length<=i:=by have:=T.len;omega
   rw[kG,Cz M];rfl
  rw[e];exact h
theorem aLX{e:Int×Value}{Q:Option Value->Ad->Prop}(T:Tb xs m ps)(M:s.heap.get? S=some (aT w xs ep m ps mv))(B:s.heap.get? I=some (lY w S ep ps i))(q1:S≠I)(L:(pD w S ep (bW xs))[i]? = some e)
 (hQ:∀h',h'.get? I=some (lY w S ep ps (i+1))->B5 I s.heap h'->Q (some e.2) { s with heap:=h' }):wpAny (A1 prog w) A (D8 (.ref I)) Q E s:=by
 have hf:(tm m ps mv (!dA w)).fits (bW xs).size=true:=T.fits;have G:s.TypeIs (.ref I) "set_iterator" := ⟨_,B,rfl⟩
 have q0:i<ps.length:=by have:=(Cv.mp L).1;rw[kI,bM] at this;have:=T.len;omega
 unfold D8;refine Aa (Er (Bg (name:=C6 "__next__") G cB (AV cB G gP ?_ (hZ _))));unfold BX.«set_iterator.__next__» Km;simp only[Ek,CI,bF,↓reduceIte,bind_assoc,lN,bne_self_eq_false];refine Aa (Ac ?_)
 try dsimp only
 refine Aa (Gs B rfl ?_);show wpAny _ _ (setEntries S >>= _) _ _ s;refine Aa (E8 M rfl hf ?_);rw[if_neg (by rw[bM,T.len];simp)];show wpAny _ _ (JQ S ((slotV w ps i:Int).toNat) ((i:Int).toNat) ((ep:Int).toNat) >>= _) _ _ s;rw[Bt,Bt,Bt];refine Aa (aHM T M (by omega) ?_);rw[L];dsimp only[E2];refine Aa (B4 B (by simp) λh1 g1 U=>?_);refine Aa (B4 (s:={ s with heap:=h1 }) g1 (by simp) λh2 g2 W=>?_);refine Ac ⟨e.2,rfl,Ac (hQ h2 ?_ (U.trans W))⟩;rw[g2];simp[lY,BZ]
theorem aOU{Q:Option Value->Ad->Prop}(L:A.handled=none)(T:Tb xs m ps)(M:s.heap.get? S=some (aT w xs ep m ps mv))(B:s.heap.get? I=some (lY w S ep ps ps.length))
 (W:∀h',Gu I s.heap h'->Q none { s with heap:=h' }):wpAny (A1 prog w) A (D8 (.ref I)) Q E s:=by
 have hf:(tm m ps mv (!dA w)).fits (bW xs).size=true:=T.fits;have G:s.TypeIs (.ref I) "set_iterator" := ⟨_,B,rfl⟩
 have he:(pD w S ep (bW xs))[ps.length]? = none:=by rw[ES,kI,bM,T.len];exact Ak _
 unfold D8;refine Aa (Er (Bg (name:=C6 "__next__") G cB (AV cB G gP ?_ (hZ _))));unfold BX.«set_iterator.__next__» Km;simp only[Ek,CI,bF,↓reduceIte,bind_assoc,lN,bne_self_eq_false];refine Aa (Ac ?_)
 try dsimp only
 refine Aa (Gs B rfl ?_);show wpAny _ _ (setEntries S >>= _) _ _ s;refine Aa (E8 M rfl hf ?_);rw[if_neg (by rw[bM,T.len];simp)];show wpAny _ _ (JQ S ((slotV w ps ps.length:Int).toNat) ((ps.length:Int).toNat) ((ep:Int).toNat) >>= _) _ _ s;rw[Bt,Bt,Bt];refine Aa (aHM T M (Ak _) ?_);rw[he];dsimp only[Option.map_none];refine Aa (B4 B (by simp) λh1 g1 U=>?_);show wpAny _ _ (Jf (.type "StopIteration") [] >>= _) _ _ _;refine Aa ?_;simp only[Jf,Kn];refine Aa (AM ?_ (by size_fits));refine Aa (m:=Dr _ _) (Gp (a:=Bj) (by first|rfl|(simp only[Dr];rfl)) ?_);refine AM ?_ (by size_fits);simp only[Ko];refine Aa (GO ?_)
 first|rw[show A.in1.handled=none from L]|rw[L]
 refine Aa (Ac (Io ?_));refine Aa (CU (T:= "StopIteration") (b:=true) ⟨_,Al _ rfl,rfl⟩ Gv ?_);exact Ac (W _ ((U.extBut.push _).push _))
theorem aIQ(hh:A.handled=none)(T:Tb xs m ps)(L:S≠I):Walks prog w A I [I,S] [I] ps.length (λi v=>∃e,(pD w S ep (bW xs))[i]? = some e/\v=e.2) (λi h=>h.get? I=some (lY w S ep ps i)/\h.get? S=some (aT w xs ep m ps mv)) where
 sub:=λb W=>by rw[Ap.mp W];exact Ai
 frame:=λi h h' st k=>⟨k I Ai _ st.1,k S (Ag _ (Ap.mpr rfl)) _ st.2⟩
 item:=λi s Q E hi st B=>by
  have G:i<(pD w S ep (bW xs)).size:=by rw[kI,bM,<-T.len];exact hi
  refine aLX T st.2 st.1 L (AD G) λh' g b=>B _ h' s.toks ⟨_,AD G,rfl⟩ ⟨g,?_⟩ λc o U e=>?_;rw[b.2 S L];exact st.2;rw[b.2 c λz=>U (by rw[z];exact Ap.mpr rfl)];exact e
 done:=λs Q E st B=>aOU hh T st.2 st.1 λh' b=>B h' s.toks λc o U e=>b c o (λz=>U (by rw[z];exact Ap.mpr rfl)) e
 self:=λi s Q E st B=>by
  have M:s.TypeIs (.ref I) "set_iterator" := ⟨_,st.1,rfl⟩
  refine Fj M iA (AV iA M nV ?_ (pB _));show wpAny _ _ (ret (.ref I)) _ _ s;exact Ac ⟨_,rfl, "set_iterator",_,M,cB.lookup,B⟩
theorem aLY{Q:Value->Ad->Prop}(T:Tb xs m ps)(B:s.heap.get? S=some (aT w xs ep m ps mv))(h:Q (.ref s.heap.objs.size) { s with heap:=s.heap.push (lY w S ep ps 0) }):wpAny (A1 prog w) A (GW (.ref S)) Q E s:=by
 have G:(tm m ps mv (!dA w)).fits (bW xs).size=true:=T.fits;have L:s.TypeIs (.ref S) "set" := ⟨_,B,rfl⟩
 refine Fj L FY (AV FY L pA ?_ (PySem.F.args_set_iter_1 _));unfold BX.«frozenset.__iter__» JI Km;simp only[Ek,CI,bF,↓reduceIte,bind_assoc,lN,bne_self_eq_false];unfold J5 J6;refine Aa (Ac ?_)
 try dsimp only
 refine Aa (Ac ?_);refine Aa (Aa (E8 B rfl G (Ac ?_)));unfold setDrawn Je;refine Aa (Aa (BN B rfl G ?_));dsimp only;refine Aa (Aa (D2 (Ac ?_)));refine Ac ?_;show wpAny _ _ (if (!dA w&&(!true&&decide ((bW xs).size>1)))=true then _ else _) _ _ s;rw[if_neg (by simp)];refine Aa (Ac ?_);refine Aa (wpAny_setEpoch_of B rfl G ?_);refine Aa (AM ?_);have e:(#[BZ 0,BZ 0,AB S,BZ ((bW xs).size:Int),BZ (ep:Int)]:Array Value)=#[BZ (slotV w ps 0),BZ ((0:Nat):Int),.ref S,BZ ps.length,BZ ep]:=by
  rw[bM,T.len];have:slotV w ps 0=0:=by unfold slotV zP;split <;> rfl
  rw[this];rfl
 refine Ac ⟨_,rfl, "set_iterator",_,⟨_,Al _ rfl,rfl⟩,cB.lookup,?_⟩;show Q (.ref s.heap.objs.size) { s with heap:=s.heap.push { cls:=.type "set_iterator",data:=.fields #[BZ 0,BZ 0,AB S,BZ ((bW xs).size:Int),BZ (ep:Int)] } };rw[e];exact h
theorem sB{P:Nat->Value->Prop}{acc:Array Value}{od:List (Int×Value)}(G:∀i v,P i v->∃e,od[i]? = some e/\v=e.2)(h:ItemsOf P acc m)(W:od.length=m):acc.toList=od.map (·.2):=by refine HC λj=>?_;rw[AL,Ar];by_cases B:j<acc.size;obtain⟨e,L,M⟩:=G j acc[j] (h.2 j _ (AD B));rw[AD B,L,M];rfl;have U:=h.1;rw[FK (by omega),Cz (by omega)];rfl
theorem aDI{Q:List Value->Ad->Prop}(hh:A.handled=none)(T:Tb xs m ps)(ho:s.heap.get? S=some (aT w xs ep m ps mv))
 (hQ:∀G acc,(∀b o,s.heap.get? b=some o->G.heap.get? b=some o)->(s.heap.objs.size<G.heap.objs.size/\∃tk h',G={ s with heap:=h',toks:=tk })->acc=(pD w S ep (bW xs)).toList.map (·.2)->Q acc G):wpAny (A1 prog w) A (JR (.ref S)) Q E s:=by
 have hT:s.TypeIs (.ref S) "set" := ⟨_,ho,rfl⟩
 have B:S<s.heap.objs.size:=Am ho;unfold JR;refine Aa (Gq (BF FZ ?_));rw[Bv Ga _];show wpAny _ A.in1 (JS [] >>= λl=>again (.builtin "list.__iadd__" ⟨[l,.ref S],[]⟩)) _ _ s;refine Aa (AM ?_);refine Ac ⟨CH Ea _,BF HD ?_⟩;rw[Bv Ea _];have M:(s.heap.push { cls:=.type "list",data:=.seq ([]:List Value).toArray }).get? S=some (aT w xs ep m ps mv):=Ab _ ho;have w7:Ep { s with heap:=s.heap.push { cls:=.type "list",data:=.seq ([]:List Value).toArray } } (.ref S) "set" := ⟨_,M,rfl⟩
 have w3:(s.heap.push { cls:=.type "list",data:=.seq ([]:List Value).toArray }).get? s.heap.objs.size=some { cls:=.type "list",data:=.seq ([]:List Value).toArray }:=Al _ rfl;have h1:CJ (.ref s.heap.objs.size) (.ref S)=false:=by simp only[CJ,beq_eq_false_iff_ne];exact BE B
 show wpAny _ A.in1 (Cp (.ref s.heap.objs.size) (.ref S) (.ref s.heap.objs.size)) _ _ _;unfold Cp;refine Aa (BY w7 ?_);rw[if_neg (by rw[h1];decide)];refine Aa (aLY T M ?_);refine Aa (AR ?_);have q9:((s.heap.push { cls:=.type "list",data:=.seq ([]:List Value).toArray }).push (lY w S ep ps 0)).get? S=some (aT w xs ep m ps mv):=Ab _ M;have L:Ep { s with heap:=(s.heap.push { cls:=.type "list",data:=.seq ([]:List Value).toArray }).push (lY w S ep ps 0) } (.ref S) "set" := ⟨_,q9,rfl⟩
 unfold ED;refine Aa (DJ L PySem.F.slot_set_len.lookup ?_);generalize q7:("set.__len__" : String)=id0
 wp_delta
 rw[show splitId id0=some ("set", "__len__") from by subst q7;decide +kernel];subst q7;refine Aa (CU (b:=true) L (by rw[EV];kernel_rfl) ?_);rw[if_neg (by decide)];dsimp only;rw[if_pos (by decide +kernel)];refine Aa (BY L ?_);refine Ac ?_;rw[if_pos (by decide +kernel)];refine Aa (Ds ?_);unfold FL;have q3:((s.heap.push { cls:=.type "list",data:=.seq ([]:List Value).toArray }).push (lY w S ep ps 0)).get? s.heap.objs.size=some { cls:=.type "list",data:=.seq ([]:List Value).toArray }:=Ab _ w3;refine Aa (Aa (Di (f:=λx=>x.push Bj) q3 rfl ?_));have q4:=DK (c:= "list") (xs:=#[]) (n:=0) q3 (λx=>x.push Bj);refine Di (f:=λx=>x.pop) q4 rfl ?_;have w4:=DK q4 (λx=>x.pop);have q2:(s.heap.push { cls:=.type "list",data:=.seq ([]:List Value).toArray }).objs.size=s.heap.objs.size+1:=Hi _ _;have q1:((s.heap.push { cls:=.type "list",data:=.seq ([]:List Value).toArray }).push (lY w S ep ps 0)).get? (s.heap.push { cls:=.type "list",data:=.seq ([]:List Value).toArray }).objs.size=some (lY w S ep ps 0):=Al _ rfl;rw[q2] at q1 ⊢;have keep:∀b o,b≠s.heap.objs.size->((s.heap.push { cls:=.type "list",data:=.seq ([]:List Value).toArray }).push (lY w S ep ps 0)).get? b=some o->((((s.heap.push { cls:=.type "list",data:=.seq ([]:List Value).toArray }).push (lY w S ep ps 0)).update s.heap.objs.size (B0 λx=>x.push Bj)).update s.heap.objs.size (B0 λx=>x.pop)).get? b=some o:=λb o U e=>by rw[CL _ _ _ _ U,CL _ _ _ _ U];exact e
 have w5:S≠s.heap.objs.size+1:=λz=>DN.mpr (Ev _) (z▸B);have w6:s.heap.objs.size∉[s.heap.objs.size+1,S]:=λW=>by rcases As.mp W with z|z;exact absurd z (by omega);rw[<-Ap.mp z] at B;exact AC _ B
 have q8:ps.length<=18:=by rw[T.len];exact T.few
 refine Ac ⟨CH GB _,Gw (aIQ (A:=A.in1) (ep:=ep) (I:=s.heap.objs.size+1) hh T w5).toS (AI q8 (by decide)) _ w6 _ ps.length 0 _ #[] 2 (EE _) (AA _) ⟨keep _ _ (by omega) q1,keep _ _ (Aw B) q9⟩ w4 (Kq _) λG q0 c' W q5 q6=>?_⟩;show wpAny _ A (load s.heap.objs.size >>= _) _ _ G;refine Aa (IQ q5 ?_);refine Ac (hQ G q0.toList (λb o e=>?_) ?_ ?_);have U:b<s.heap.objs.size:=Am e;refine W.heap b o (λz=>?_) (keep b o (Aw U) (Ab _ (Ab _ e)));rcases As.mp z with z|z;exact Aw U z;exact DN.mpr (Ev _) (Ap.mp z▸U);obtain⟨h',g',d',w9,w8⟩:=G;have eg:g'=s.gens:=W.gens;have ed:d'=s.drawn:=W.drawn;have eo:w8=s.os:=W.os;subst eg;subst ed;subst eo;exact⟨Am q5,w9,h',rfl⟩;exact sB (P:=λi v=>∃e,(pD w S ep (bW xs))[i]? = some e/\v=e.2) (λi v ⟨e,he,hv⟩=>⟨e,by rw[AL];exact he,hv⟩) q6 (by rw[A6,kI,bM,T.len])
end
end L2
namespace L2
open PySem PySem.Spec PyProof.Rows PySem.W
set_option maxRecDepth 100000
def okT{α:Type}(n:Nat)(o:Nat->Nat->Bool):KasT α->(α->Prop)->Prop
 | .ret a,P=>P a|.ask i j k,P=>i<n/\j<n/\okT n o (k (o i j)) P
section
variable {n:Nat} {o:Nat->Nat->Bool} {α β:Type}
theorem fL{f:α->KasT β}{P:β->Prop}:∀t:KasT α,okT n o t (λa=>okT n o (f a) P)->okT n o (t.bind f) P
 | .ret _,h=>h|.ask i j k,h=>⟨h.1,h.2.1,fL (k (o i j)) h.2.2⟩
theorem dW{P B:α->Prop}(G:∀a,P a->B a):∀t:KasT α,okT n o t P->okT n o t B
 | .ret a,h=>G a h|.ask i j k,h=>⟨h.1,h.2.1,dW G (k (o i j)) h.2.2⟩
theorem aDJ{cmp:Nat->Nat->(Bool->Ad->Prop)->Ad->Prop}{Q:α->Ad->Prop}{P:α->Prop}(B:∀i j C,i<n->j<n->C (o i j) s->cmp i j C s)(G:∀a,P a->Q a s):∀t:KasT α,okT n o t P->t.kasWp cmp Q s
 | .ret a,h=>G a h|.ask i j k,h=>B i j _ h.1 h.2.1 (aDJ B G (k (o i j)) h.2.2)
structure Lin (n:Nat) (o:Nat->Nat->Bool):Prop where
 tr:∀i j k,i<n->j<n->k<n->o i j=true->o j k=true->o i k=true
 tot:∀i j,i<n->j<n->i≠j->o i j=false->o j i=true
 as:∀i j,i<n->j<n->o i j=true->o j i=false
abbrev Pmo(n:Nat)(p:Array Nat):Prop:=p.toList.Perm (A9 n)
def rl(o:Nat->Nat->Bool)(p:Array Nat)(i j:Nat):Bool:=o (p.getD i 0) (p.getD j 0)
variable {p:Array Nat}
theorem Pmo.size(h:Pmo n p):p.size=n:=by rw[<-A6,h.length_eq,Ce]
theorem Pmo.at(h:Pmo n p)(hi:i<n):p[i]? = some (p.getD i 0):=by have:=h.size;rw[A8,AD (by omega)];rfl
theorem Pmo.lt(h:Pmo n p)(hi:i<n):p.getD i 0<n:=by have e:=h.at hi;rw[<-AL] at e;exact Bn.mp (h.mem_iff.mp (mG e))
theorem Pmo.ne(h:Pmo n p)(hi:i<n)(L:j<n)(B:i≠j):p.getD i 0≠p.getD j 0:=by have G:=h.at hi;have I:=h.at L;intro z;rw[z,<-I,<-AL,<-AL] at G;have nd:=h.nodup_iff.mpr F3;have:=h.size;exact B ((HE (by rw[A6];omega) nd).mp G)
variable (L:Lin n o)
theorem aAQ(L:Lin n o)(h:Pmo n p)(hi:i<n)(B:j<n)(G:k<n):rl o p i j=true->rl o p j k=true->rl o p i k=true:=L.tr _ _ _ (h.lt hi) (h.lt B) (h.lt G)
theorem aDK(L:Lin n o)(h:Pmo n p)(hi:i<n)(G:j<n)(B:i≠j):rl o p i j=false->rl o p j i=true:=L.tot _ _ (h.lt hi) (h.lt G) (h.ne hi G B)
def Srt(o:Nat->Nat->Bool)(p:Array Nat)(b:Nat):Prop:=∀i j,i<j->j<b->rl o p i j=true
def Dsc(o:Nat->Nat->Bool)(p:Array Nat)(b:Nat):Prop:=∀i j,i<j->j<b->rl o p j i=true
theorem Srt.succ(L:Lin n o)(h:Pmo n p)(I:1<=b)(G:b<n)(s:Srt o p b)(e:rl o p (b-1) b=true):Srt o p (b+1):=λi j B M=>by
 rcases AS j b with z|z;exact s i j B z;obtain rfl:j=b:=by omega
 rcases AS i (j-1) with y|y;exact aAQ L h (by omega) (by omega) G (s i (j-1) y (by omega)) e;obtain rfl:i=j-1:=by omega
 exact e
theorem Dsc.succ(L:Lin n o)(h:Pmo n p)(I:1<=b)(G:b<n)(s:Dsc o p b)(e:rl o p b (b-1)=true):Dsc o p (b+1):=λi j B M=>by
 rcases AS j b with z|z;exact s i j B z;obtain rfl:j=b:=by omega
 rcases AS i (j-1) with y|y;exact aAQ L h G (by omega) (by omega) e (s i (j-1) y (by omega));obtain rfl:i=j-1:=by omega
 exact e
theorem zQ(L:Lin n o)(h:Pmo n p):∀f m,1<=m->m+f<=n->Srt o p m->okT n o (kas_asc p f m) (λr=>m<=r/\r<=m+f/\Srt o p r/\(r<m+f->rl o p r (r-1)=true))
 | 0,m,_,_,s=>⟨Ak _,Ak _,s,λz=>absurd z (by omega)⟩
 | f+1,m,h1,h2,s=>by
  refine⟨h.lt (by omega),h.lt (by omega),?_⟩;cases c:o (p.getD m 0) (p.getD (m-1) 0) with
  | true=>exact⟨Ak _,by omega,s,λ_=>c⟩|false=>refine dW (λr B=>⟨by omega,by omega,B.2.2.1,λz=>B.2.2.2 (by omega)⟩) _ (zQ L h f (m+1) (by omega) (by omega) (s.succ L h h1 (by omega) (aDK L h (by omega) (by omega) (by omega) c)))
theorem aAR(L:Lin n o)(h:Pmo n p):∀f m,1<=m->m+f<=n->Dsc o p m->okT n o (kas_desc f p m 0) (λr=>r.1=p/\r.2.2=0/\m<=r.2.1/\r.2.1<=m+f/\Dsc o p r.2.1)
 | 0,m,_,_,s=>⟨rfl,rfl,Ak _,Ak _,s⟩
 | f+1,m,h1,h2,s=>by
  refine⟨h.lt (by omega),h.lt (by omega),?_⟩;cases c:o (p.getD m 0) (p.getD (m-1) 0) with
  | true=>show okT n o (kas_desc f p (m+1) 0) _;exact dW (λr B=>⟨B.1,B.2.1,by omega,by omega,B.2.2.2.2⟩) _ (aAR L h f (m+1) (by omega) (by omega) (s.succ L h h1 (by omega) c))|false=>refine⟨h.lt (by omega),h.lt (by omega),?_⟩;rw[show o (p.getD (m-1) 0) (p.getD m 0)=true from aDK L h (by omega) (by omega) (by omega) c];exact⟨rfl,rfl,Ak _,Dz _ _,s⟩
theorem aDL(h:Pmo n p)(i j:Nat):Pmo n (JT p i j):=(EW.mp (mirror_perm p i j _)).trans h
theorem aGd(h:Pmo n p)(B:b<=n)(s:Dsc o p b):Srt o (JT p 0 b) b:=λi j G I=>by
 have at_:∀k,k<b->(JT p 0 b).getD k 0=p.getD (b-1-k) 0:=λk M=>by rw[A8,A8];unfold JT;rw[getElem?_mirror_all (by rw[h.size];exact B),if_pos ⟨AA _,M⟩,Nat.zero_add]
 unfold rl;rw[at_ i (by omega),at_ j I];exact s (b-1-j) (b-1-i) (by omega) (by omega)
abbrev Got(n:Nat)(o:Nat->Nat->Bool)(r:Nat×Array Nat):Prop:=1<=r.1/\r.1<=n/\Pmo n r.2/\Srt o r.2 r.1
theorem aGe(L:Lin n o)(h:Pmo n p)(B:1<=m)(G:m<=n)(s:Dsc o p m):okT n o (kas_tail3 m n p) (Got n o):=
 fL _ (dW (λr I=>⟨by omega,by omega,aDL h _ _,I.2.2.1⟩) _ (zQ L (aDL h 0 m) (n-m) m B (by omega) (aGd h G s)))
theorem aDM(L:Lin n o)(h:Pmo n p)(hn:1<=n):okT n o (kas_count n p) (Got n o):=by
 unfold kas_count;refine fL _ (dW (λr G=>?_) _ (zQ L h (n-1) 1 (Ak _) (by omega) λi j a b=>absurd b (by omega)));obtain⟨I,h2,B,M⟩:=G;by_cases c:(r==n)=true;rw[if_pos c];exact⟨I,by omega,h,B⟩;rw[if_neg c];have U:r≠n:=λz=>c (by simp[z]);have e:=M (by omega);by_cases d:r>1;rw[if_pos d];refine⟨h.lt (by omega),h.lt (by omega),?_⟩;rw[show o (p.getD 0 0) (p.getD (r-1) 0)=true from B 0 (r-1) (by omega) (by omega)];exact⟨I,by omega,h,B⟩;rw[if_neg d];obtain rfl:r=1:=by omega
 refine fL _ (dW (λr G=>?_) _ (aAR L h (n-2) 2 (by omega) (by omega) λi j a b=>?_));obtain⟨W,q2,q3,q4,q5⟩:=G;rw[if_neg (by omega),W];exact aGe L h (by omega) (by omega) q5;obtain⟨rfl,rfl⟩:i=0/\j=1:=by omega
 exact e
theorem pE(L:Lin n o)(h:Pmo n p)(B:k<n)(s:Srt o p k):∀f l r,l<=r->r<=k->r-l<=f->(∀i,i<l->rl o p i k=true)->(∀i,r<=i->i<k->rl o p k i=true) ->
 okT n o (kas_place p k f l r) (λx=>x<=k/\(∀i,i<x->rl o p i k=true)/\∀i,x<=i->i<k->rl o p k i=true)
 | 0,l,r,h1,h2,h3,a,b=>⟨by omega,a,λi hi=>b i (by omega)⟩
 | f+1,l,r,h1,h2,h3,a,b=>by
  unfold kas_place;by_cases c:l ≥ r;rw[if_pos c];exact⟨by omega,a,λi hi=>b i (by omega)⟩;rw[if_neg c];refine⟨h.lt B,h.lt (by omega),?_⟩;cases d:o (p.getD k 0) (p.getD ((l+r) / 2) 0) with
  | true=>
   refine pE L h B s f _ _ (by omega) (by omega) (by omega) a λi hi G=>?_;rcases AS ((l+r) / 2) i with z|z;exact aAQ L h B (by omega) (by omega) d (s _ i z G);obtain rfl:i=(l+r) / 2:=by omega
   exact d
  | false=>
   have d':rl o p ((l+r) / 2) k=true:=aDK L h B (by omega) (by omega) d;refine pE L h B s f _ _ (by omega) (by omega) (by omega) (λi hi=>?_) b;rcases AS i ((l+r) / 2) with z|z;exact aAQ L h (by omega) (by omega) B (s i _ z (by omega)) d';obtain rfl:i=(l+r) / 2:=by omega
   exact d'
theorem aIR(h:Pmo n p)(k d:Nat):Pmo n (bubble p k d):=(EW.mp (bubble_perm p k d)).trans h
theorem aGf(h:Pmo n p)(W:k<n)(hl:l<=k)(s:Srt o p k)(a:∀i,i<l->rl o p i k=true)(b:∀i,l<=i->i<k->rl o p k i=true):Srt o (bubble p k (k-l)) (k+1):=λi j B hj=>by
 have at_:∀x,(bubble p k (k-l)).getD x 0=if x=l then p.getD k 0 else if l<x/\x<=k then p.getD (x-1) 0 else p.getD x 0:=λx=>by rw[A8,getElem?_bubble (by rw[h.size];exact W) _ (by omega),show k-(k-l)=l by omega];split;rw[A8];split <;> rw[A8]
 unfold rl;rw[at_ i,at_ j];by_cases G:i=l;rw[if_pos G,if_neg (by omega),if_pos ⟨by omega,by omega⟩];exact b (j-1) (by omega) (by omega);rw[if_neg G];by_cases I:l<i/\i<=k;rw[if_pos I,if_neg (by omega),if_pos ⟨by omega,by omega⟩];exact s (i-1) (j-1) (by omega) (by omega);rw[if_neg I];by_cases M:j=l;rw[if_pos M];exact a i (by omega);rw[if_neg M];by_cases U:l<j/\j<=k;rw[if_pos U];rcases AS i (j-1) with z|z;exact s i (j-1) z (by omega);omega;rw[if_neg U];exact s i j B (by omega)
theorem aDN(L:Lin n o):∀f p k,Pmo n p->k+f=n->Srt o p k->okT n o (kas_bin f p k) (λr=>Pmo n r/\Srt o r n)
 | 0,p,k,h,e,s=>⟨h,by rw[<-e];exact s⟩
 | f+1,p,k,h,e,s=>fL _ (dW (λl B=>aDN L f _ (k+1) (aIR h _ _) (by omega) (aGf h (by omega) B.1 s B.2.1 B.2.2)) _ (pE L h (by omega) s k 0 k (AA _) (Ak _) (by omega) (λi hi=>absurd hi (Ci _)) λi a b=>absurd a (by omega)))
theorem aGg(L:Lin n o)(M:1<=n):okT n o (kas_sort n) (λr=>Pmo n r/\Srt o r n):=by
 unfold kas_sort;refine fL _ (dW (λr U=>?_) _ (aDM L (p:=(A9 n).toArray) (DZ _) M));obtain⟨I,W,B,G⟩:=U;by_cases c:r.1<n;rw[if_pos c,Nat.max_eq_left I];exact aDN L _ _ _ B (by omega) G;rw[if_neg c];obtain e:r.1=n:=by omega
 exact⟨B,by rw[<-e];exact G⟩
end
end L2
namespace L2
open PySem PySem.Spec PyProof.Rows PySem.W
open Hp (tupHs lexI putKs)
set_option maxRecDepth 100000
theorem oA:∀{a b c:List Int},lexI a b=true->lexI b c=true->lexI a c=true
 | [],[],_,h,_=>by cases h|[],_::_,[],_,h=>by cases h|[],_::_,_::_,_,_=>rfl|_::_,[],_,h,_=>by cases h|_::_,_::_,[],_,h=>by cases h|a::as,b::bs,c::cs,h1,h2=>by unfold lexI at h1 h2 ⊢;split at h1;split at h2;rw[if_pos (by omega)];exact oA h1 h2;have:=of_decide_eq_true h2;rw[if_neg (by omega)];exact Ao (by omega);have:=of_decide_eq_true h1;split at h2;rw[if_neg (by omega)];exact Ao (by omega);have:=of_decide_eq_true h2;rw[if_neg (by omega)];exact Ao (by omega)
theorem lexI_ir:∀a:List Int,lexI a a=false
 | []=>rfl|a::as=>by unfold lexI;rw[if_pos rfl];exact lexI_ir as
theorem pF:∀{a b:List Int},a≠b->lexI a b=false->lexI b a=true
 | [],[],h,_=>absurd rfl h|[],_::_,_,h=>by cases h|_::_,[],_,_=>rfl|a::as,b::bs,h,h1=>by unfold lexI at h1 ⊢;split at h1;rename_i e;subst e;rw[if_pos rfl];exact pF (λz=>h (by rw[z])) h1;have:=of_decide_eq_false h1;rw[if_neg (by omega)];exact Ao (by omega)
theorem aAS(h:lexI a b=true):lexI b a=false:=by
 cases q:lexI b a with
 | false=>rfl|true=>rw[<-lexI_ir a,<-oA h q]
theorem sC:∀{as bs:List (List Int)},as.Pairwise (lexI · ·=true)->bs.Pairwise (lexI · ·=true)->(∀x,x∈as↔x∈bs)->as=bs
 | [],[],_,_,_=>rfl|[],b::bs,_,_,h=>absurd ((h b).mpr Ai) (by simp)|a::as,[],_,_,h=>absurd ((h a).mp Ai) (by simp)|a::as,b::bs,ha,hb,h=>by
  have G:=BU.mp ha;have I:=BU.mp hb;have e:a=b:=by rcases As.mp ((h a).mp Ai) with q|q;exact q;rcases As.mp ((h b).mpr Ai) with r|r;exact r.symm;have B:=I.1 a q;rw[aAS (G.1 b r)] at B;cases B
  subst e;rw[sC G.2 I.2 λx=>?_];constructor;intro q;rcases As.mp ((h x).mp (Ag _ q)) with rfl|r;have B:=G.1 _ q;rw[lexI_ir] at B;cases B;exact r;intro q;rcases As.mp ((h x).mpr (Ag _ q)) with rfl|r;have B:=I.1 _ q;rw[lexI_ir] at B;cases B;exact r
section
variable {prog:A3} {w:AG} {A:Bh} {E:Value->Ad->Prop} {s:Ad}
theorem aIS{Q:Bool->Ad->Prop}{vs:List Value}(M:Gx (Da prog w) ks vs):∀{js:List Int} {us:List Value} (I:Gx (Da prog w) js us) (i:Nat) (B:Bool),B=decide (vs.length<us.length)->Q (lexI ks js) s->KatLex prog w A true B Q (vs.zip us) i s:=by
 induction M with
 | nil=>
  intro js us I i B L G;cases I with
  | nil=>rw[L];exact G|cons _ _=>rw[L];exact G
 | @cons k v ks vs h1 _ ih=>
  intro js us I i B L G;cases I with
  | nil=>rw[L];exact G|@cons j u js us h2 I=>
   obtain⟨U,rfl⟩:=aAN h1;obtain⟨W,rfl⟩:=aAN h2;rw[Ba];refine kat_cons (HP ?_);unfold lexI at G;by_cases c:k=j;rw[if_pos c] at G;rw[show(k==j)=true by simpa using c];exact kat_yes (ih I (i+1) B (by rw[L,lC,lC];simp) G);rw[if_neg c] at G;rw[show(k==j)=false by simpa using c];refine kat_no ?_;cases(true&&i==0) with
   | true=>exact oneLt_int G|false=>exact kat_one _ _ (lt_int G)
theorem aOV{x y:KA}{Q:Bool->Ad->Prop}(M:IsK prog w s.heap x)(U:IsK prog w s.heap y)(h:Q (lexI x.1 y.1) s):wpAny (A1 prog w) A (keyLt' (KI true) (.ref x.2) (.ref y.2)) Q E s:=by obtain⟨o,its,n,L,_,hd,hi⟩:=M;obtain⟨o',its',W,I,_,B,G⟩:=U;exact kat_lt L hd I B (aIS hi G 0 _ (by rw[A6,A6]) h)
theorem aAT:∀{us:List KA},(∀x∈us,IsK prog w s.heap x)->(∀x∈us,x.1≠[])->∃fs:List Value,KatTups s.heap (us.map λx=>AB x.2) fs/\fs.length=us.length/\∀v∈fs,∃i t,v=EH i t
 | [],_,_=>⟨[],KatTups.nil,rfl,λv hv=>by simp at hv⟩
 | x::us,h,hne=>by
  obtain⟨fs,M,U,W⟩:=aAT (us:=us) (λy G=>h y (Ag _ G)) (λy G=>hne y (Ag _ G));obtain⟨o,its,n,ho,hc,hd,hi⟩:=h x Ai;cases I:x.1 with
  | nil=>exact absurd I (hne x Ai)|cons k ks=>
   rw[I] at hi;cases q:its.toList with
   | nil=>rw[q] at hi;cases hi|cons v vs=>
    rw[q] at hi;cases hi with
    | cons L g2=>obtain⟨t,rfl⟩:=aAN L;refine⟨.int k t::fs,KatTups.cons ho hc hd (by rw[<-AL,q];rfl) M,by rw[lC,lC,U],λu B=>?_⟩;rcases As.mp B with rfl|B;exact⟨k,t,rfl⟩;exact W u B
theorem aIT{us:List KA}(h:∀x∈us,IsK prog w s.heap x)(B:∀x∈us,x.1≠[])(W:0<us.length){Q:SortKind->Ad->Prop}(L:Q (KI true) s):wpAny (A1 prog w) A (keyKind' (us.map λx=>AB x.2).toArray) Q E s:=by obtain⟨fs,G,U,I⟩:=aAT h B;refine kat_kind (T:=.type "int") G (by omega) (λv M=>?_) (by decide) L;obtain⟨i,t,rfl⟩:=I v M;exact .now
end
set_option maxRecDepth 100000
abbrev rfs(us:List KA):List Value:=us.map λx=>AB x.2
theorem zR{α L:Type}{f:α->L}{l I:List L}(h:l.Perm I):∀{xs:List α},I=xs.map f->∃us:List α,us.Perm xs/\l=us.map f:=by
 induction h with
 | nil=>
  intro xs e;cases xs with
  | nil=>exact⟨[],DZ _,rfl⟩|cons _ _=>cases e
 | @cons x l1 l2 _ ih=>
  intro xs e;cases xs with
  | nil=>cases e|cons y xs=>cases e;obtain⟨us,a,b⟩:=ih rfl;exact⟨y::us,a.cons y,by rw[b];rfl⟩
 | swap x y l=>
  intro xs e
  match xs,e with
  | a::b::xs,e=>cases e;exact⟨b::a::xs,.swap _ _ _,rfl⟩
 | trans _ _ B G=>intro xs e;obtain⟨us,a,b⟩:=G e;obtain⟨vs,c,d⟩:=B b;exact⟨vs,c.trans a,d⟩
theorem aIU{us:List KA}(nd:(us.map (·.1)).Nodup):Lin us.length λi j=>lexI (us.getD i ([],0)).1 (us.getD j ([],0)).1 where
 tr:=λi j k _ _ _ a b=>oA a b
 as:=λi j _ _ a=>aAS a
 tot:=λi j hi G B h=>pF (λz=>B (by
  have e:∀x,x<us.length->(us.map (·.1))[x]? = some (us.getD x ([],0)).1:=λx I=>by rw[Ar,AU,Af I];rfl
  exact(HE (by rw[lM];exact hi) nd).mp (by rw[e i hi,e j G,z]))) h
theorem aDO{us:List KA}{p:Array Nat}(I:Pmo us.length p)(hs:Srt (λi j=>lexI (us.getD i ([],0)).1 (us.getD j ([],0)).1) p us.length) :
 (p.toList.map λi=>us.getD i ([],0)).Perm us/\(p.toList.map λi=>us.getD i ([],0)).Pairwise λx y=>lexI x.1 y.1=true:=by refine⟨(I.map _).trans (KS ?_),?_⟩;refine HC λi=>?_;rw[Ar];rcases AS i us.length with q|q;rw[GC q,Af q];show some (us.getD i ([],0))=_;rw[AU,Af q];rfl;rw[Cz (by rw[Ce];exact q),Cz q];rfl;rw[C7];refine Fb.mpr λi j hi G B=>?_;have hsz:=I.size;rw[A6] at hi G;have:=hs i j B (by omega);unfold rl at this;rw[A8,A8,AD hi,AD G] at this;simpa using this
section
variable {prog:A3} {w:AG} {A:Bh} {E:Value->Ad->Prop} {s:Ad}
theorem nJ{us:List KA}{P:PySem.Fin->Ad->Prop}(ho:s.heap.get? a=some (Cq "list" (rfs us).toArray n))(hK:∀x∈us,IsK prog w s.heap x)(q5:∀x∈us,x.1≠[])(nd:(us.map (·.1)).Nodup)(q3:us.length<64)
 (h:∀B:List KA,B.Perm us->(B.Pairwise λx y=>lexI x.1 y.1=true)->P (.done (.ret .none)) { s with heap:=sortedHeap s.heap a (rfs us) (rfs B).toArray }) :
 wpAny (A1 prog w) A (BX.«list.sort» ⟨[.ref a],[]⟩) P E s:=by
 rw[list_sort_plain];have ha:a<s.heap.objs.size:=Am ho;have I:(rfs us).length=us.length:=by rw[lM]
 refine Aa (listItems_at ho rfl ?_);refine Aa (Di ho rfl ?_ (by rw[Aj,Bf];omega) (AA _));obtain⟨e1,q1⟩:∃e1,(s.heap.update a (B0 λ_=>(#[]:Array Value))).get? a=some (Cq "list" #[] e1):=⟨_,DK ho λ_=>#[]⟩
 refine Aa (Ip q1 rfl ?_);refine Aa (Jg ?_ (by show(rfs us).length<=_;rw[Bf];omega));refine Aa (GP ?_ (AA _));refine AR ?_;have keep:∀b o,b≠a->s.heap.get? b=some o->(((s.heap.update a (B0 λ_=>(#[]:Array Value))).push (Cq "tuple" (rfs us).toArray 0)).push (Cq "list" #[] 0)).get? b=some o:=λb o hb e=>Ab _ (Ab _ (by rw[CL _ _ _ _ hb];exact e));have M:(((s.heap.update a (B0 λ_=>(#[]:Array Value))).push (Cq "tuple" (rfs us).toArray 0)).push (Cq "list" #[] 0)).get? a=some (Cq "list" #[] e1):=Ab _ (Ab _ q1);show wpAny (A1 prog w) A _ P E { s with heap:=((s.heap.update a (B0 λ_=>(#[]:Array Value))).push (Cq "tuple" (rfs us).toArray 0)).push (Cq "list" #[] 0) };dsimp only;have q0:∀B:List KA,B.Perm us->(B.Pairwise λx y=>lexI x.1 y.1=true)->∀out:Array Value,out=(rfs B).toArray->P (.done (.ret .none)) { s with heap:=sortedHeap s.heap a (rfs us) out }:=λB a b out e=>e▸h B a b;by_cases L:(rfs us).toArray.size<2;rw[if_pos L,if_pos L];refine Aa (Ac ?_);rw[StateT.run_pure];refine Aa (Ac ?_);dsimp only;refine Aa (Ip M rfl ?_);refine Aa (Di M rfl ?_ (AA _) (by rw[Array.size_map];show(pairsOf (rfs us)).size<=_;rw[pairsOf_size,Bf];omega));simp only[bne_self_eq_false,bF,if_false];refine Ac (q0 us (DZ _) ?_ _ ?_)
 . rw[Aj,I] at L
   match us,L with
   | [],_=>exact .nil|[x],_=>exact Cf _ _|_::_::_,L=>simp at L;omega
 apply HW.mp;show((pairsOf (rfs us)).map (·.2)).toList=_;rw[Array.toList_map,pairsOf_toList];exact List.map_snd_zip (Ak _);rw[if_neg L,if_neg L];have q2:2<=us.length:=by rw[Aj,I] at L;omega
 have W:∀x∈us,IsK prog w (((s.heap.update a (B0 λ_=>(#[]:Array Value))).push (Cq "tuple" (rfs us).toArray 0)).push (Cq "list" #[] 0)) x:=λx hx=>by have q:=hK x hx;refine q.keep λo e=>keep x.2 o ?_ e;rintro rfl;obtain⟨o',_,_,g1,g2,_⟩:=q;rw[ho] at g1;cases g1;exact absurd (show Eg "list" = Eg "tuple" from g2) (by decide)
 refine Aa (aIT W q5 (by omega) ?_);refine Aa (CC (kat_run (vs:=rfs us) (ks:=rfs us) (prog:=prog) (w:=w) (A:=A) (κ:=KI true) (s:={ s with heap:=((s.heap.update a (B0 λ_=>(#[]:Array Value))).push (Cq "tuple" (rfs us).toArray 0)).push (Cq "list" #[] 0) })
  (G:=λp s'=>s'={ s with heap:=((s.heap.update a (B0 λ_=>(#[]:Array Value))).push (Cq "tuple" (rfs us).toArray 0)).push (Cq "list" #[] 0) }/\Pmo us.length p/\Srt (λi j=>lexI (us.getD i ([],0)).1 (us.getD j ([],0)).1) p us.length)
  (Q:=λU s'=>s'={ s with heap:=((s.heap.update a (B0 λ_=>(#[]:Array Value))).push (Cq "tuple" (rfs us).toArray 0)).push (Cq "list" #[] 0) }/\failedOf U=none/\∃B:List KA,B.Perm us/\(B.Pairwise λx y=>lexI x.1 y.1=true)/\(arrOf U).map (·.2)=(rfs B).toArray)
  rfl (by rw[I];exact q2) (by rw[I];exact q3) (λp U s' a1 a2 a3 a4=>⟨a4.1,a3,_,(aDO a4.2.1 a4.2.2).1,(aDO a4.2.1 a4.2.2).2,?_⟩) ?_) ?_ λ_ _ e=>e)
 rw[kat_snds rfl a2];unfold rfs;rw[AJ];refine congrArg List.toArray (DB λi hi=>?_);have q4:i<us.length:=Bn.mp (a4.2.1.mem_iff.mp hi);show(us.map λx=>AB x.2).getD i Bj=AB (us.getD i ([],0)).2;rw[AU,AU,Ar,Af q4];rfl;rw[I];refine aDJ (λi j C hi hj hC=>?_) (λp hp=>⟨rfl,hp⟩) _ (aGg (aIU nd) (by omega));unfold kas_ask;have e:∀x,x<us.length->(rfs us).getD x Bj=AB (us.getD x ([],0)).2/\us.getD x ([],0)∈us:=λx hx=>by rw[AU,AU,Ar,Af hx];exact⟨rfl,AO hx⟩
 rw[(e i hi).1,(e j hj).1];exact aOV (W _ (e i hi).2) (W _ (e j hj).2) hC;rintro ⟨⟨⟩,U⟩ s' ⟨rfl,hf,B,g1,g2,g3⟩;dsimp only;refine Aa (Ip M rfl ?_);refine Aa (Di M rfl ?_ (AA _) (by rw[g3,Aj,lM,g1.length_eq,Bf];omega));rw[hf];simp only[bne_self_eq_false,bF,if_false];exact Ac (q0 B g1 g2 _ g3)
theorem wQ{Q:Value->Ad->Prop}(hh:A.handled=none)(hS:jH w s.heap S us)(hK:∀x∈us,IsK prog w s.heap x)(q1:∀x∈us,x.1≠[])
 (h:∀(h':Heap) (tk:Nat) (L:Addr) (xs:List KA) (n:Nat),s.heap.objs.size<=L->(∀b o,s.heap.get? b=some o->h'.get? b=some o)->h'.get? L=some (Cq "list" (rfs xs).toArray n)->(∀x∈xs,x∈us)->(∀y∈us,y.1∈xs.map (·.1))->(xs.Pairwise λx y=>lexI x.1 y.1=true)->Q (.ref L) { s with heap:=h',toks:=tk }) :
 wpAny (A1 prog w) A (call (.builtin "sorted") [.ref S]) Q E s:=by
 obtain⟨xs,m,ps,mv,ep,T,ho,r1,r2⟩:=hS;refine Fc Kr JU JV (JW _) ?_;unfold BX.«sorted»;refine Aa (m:=checkCount "sorted" 1 1 _) (Ac ?_);refine Aa (aDI hh T ho λs' acc hk q2 W=>?_);obtain⟨q0,tk,U,rfl⟩:=q2;obtain⟨M,y1,y2⟩:=zR (f:=λx:KA=>(tupHs x.1,AB x.2)) (wP w S ep (bW xs)) (xs:=xs) (by unfold bW;rw[GD]);have B:acc=rfs M:=by rw[W,y2,AJ];rfl
 subst B;have hl:M.length<=18:=by rw[y1.length_eq];exact T.few
 refine Aa (GP ?_ (by rw[lM,Bf];omega));have G:(U.push (Cq "list" (rfs M).toArray 0)).get? U.objs.size=some (Cq "list" (rfs M).toArray 0):=Al _ rfl;have hY:∀x∈M,x∈us:=λx I=>r1 x (y1.mem_iff.mp I);refine Aa (AR (AV (s:={ s with heap:=U.push (Cq "list" (rfs M).toArray 0),toks:=tk }) Jh ⟨_,G,rfl⟩ ID (nJ G (λx I=>(hK x (hY x I)).keep λo e=>Ab _ (hk _ o e)) (λx I=>q1 x (hY x I)) ((y1.map _).nodup_iff.mpr T.nd) (by omega) λzs z1 z2=>⟨_,rfl,?_⟩) (Ji _)));obtain⟨n,hL⟩:=J7 (out:=(rfs zs).toArray) G;refine Ac ⟨_,rfl,h _ _ U.objs.size zs n (Dy q0) (λb o q=>?_) hL (λx I=>hY x (z1.mem_iff.mp I)) (λy hy=>(z1.map _).mem_iff.mpr ((y1.map _).mem_iff.mpr (r2 y hy))) z2⟩;have hb:b<U.objs.size:=Am (hk b o q);rw[Jj (Aw hb) (by rw[Hi];exact Br hb)];exact Ab _ (hk b o q)
end
set_option maxRecDepth 100000
set_option maxHeartbeats 4000000
def jQ(x:KA):Cs:=⟨tupHs x.1,.ref x.2,.bool true⟩
def fM(a:Addr)(xs:List KA)(h:Heap):Prop:=
 (a==CB)=false/\xs.length<=sizeLine/\∃o es ep,h.get? a=some o/\o.ExactDict/\o.data=.dict es ep/\es.toList=xs.map jQ/\(xs.map (·.1)).Nodup
abbrev cT(a:Addr)(xs:List KA):HO:=.ext (fM a xs)
theorem kJ:∀I L:Heap,fM a xs I->(∀o,I.get? a=some o->L.get? a=some o)->fM a xs L:=by rintro I L ⟨U,W,o',G,B,z3,z4⟩ M;exact⟨U,W,o',G,B,M _ z3,z4⟩
section
variable {prog:A3} {w:AG} {A:Bh} {E:Value->Ad->Prop} {s:Ad} {it d:Addr} {i ep:Nat} {o:Obj} {es:Array Cs}
theorem aLZ{Q:Value->Ad->Prop}(hd:(d==CB)=false)(I:s.heap.get? d=some o)(M:o.ExactDict)(B:o.data=.dict es ep)
 (L:Q (.ref s.heap.objs.size) { s with heap:=s.heap.push { cls:=.type "dict_keyiterator",data:=.fields #[.ref d,.int 0 0,.int es.size 0,.int ep 0] } }):wpAny (A1 prog w) A (GW (.ref d)) Q E s:=by
 have G:s.TypeIs (.ref d) "dict" := ⟨o,I,M.1⟩
 refine Fj G Eb (AV Eb G PySem.F.entry_dict_iter ?_ (PySem.F.args_dict_iter_1 _));unfold BX.«dict.__iter__»;refine Aa ?_;unfold Js;refine Aa (Ee G ?_);show wpAny _ _ (pure (AB d)) _ _ s;refine Ac ?_;show wpAny _ _ (Ef d >>= _) _ _ s;unfold Ef;rw[if_neg (by rw[hd];exact bN)];refine Aa (Ac (Aa (Cg I B (Aa (E3 I B ?_)))));exact Aa (AM (Ac ⟨_,rfl, "dict_keyiterator",_,⟨_,Al _ rfl,rfl⟩,Cw.lookup,L⟩))
theorem aHN{Q:Option Value->Ad->Prop}(hh:A.handled=none)(B:s.heap.IsKeyIter it d i es.size ep)(U:s.heap.get? d=some o)(I:o.data=.dict es ep)
 (h1:∀e h',es[i]? = some e->h'.IsKeyIter it d (i+1) es.size ep->B5 it s.heap h'->Q (some e.key) { s with heap:=h' })
 (h2:∀h',es.size<=i->Gu it s.heap h'->Q none { s with heap:=h' }):wpAny (A1 prog w) A (D8 (.ref it)) Q E s:=by
 obtain⟨oi,W,hc,hd⟩:=id B;unfold D8;refine Aa (Er (Bg (name:=C6 "__next__") B.typeIs Cw (AV Cw B.typeIs PySem.F.entry_dict_keyiterator_next ?_ (PySem.F.args_dict_keyiterator_next_1 _))));refine Aa (Ac (Aa (Aa ?_)));refine Aa (CY B.typeIs (Ac ?_));refine Aa (Gs W hd ?_);simp only[show IE "dict_keyiterator" = false by decide,bF,if_false];show wpAny _ _ (if (AB d==Bj)=true then _ else _) _ _ s;rw[if_neg (show ¬ ((AB d==Bj)=true) from bN)];refine Aa (Ac (Aa (Cg U I ?_)));rw[if_neg (by simp)];refine Aa (Ac (Aa (E3 U I ?_)));rw[if_neg (by simp)];refine Ac ?_;rcases AS i es.size with M|L;simp only[show ¬ ((i:Int)<0) from by omega,if_false,Bt,AD M];refine Aa (Aa (CY B.typeIs (Ac ?_)));refine Aa (Gb B.typeIs ?_);show wpAny _ _ (setField (.ref it) 1 (BZ ((i:Int)+1)) >>= _) _ _ s;refine Aa (EX W hd (by simp) ?_);have G:(s.heap.update it (J8 (·.setIfInBounds 1 (BZ ((i:Int)+1))))).IsKeyIter it d (i+1) es.size ep:=
  ⟨_,B9 _ W (Gc (DO hd _)),(HF ..).trans hc,by rw[DO hd];simp[BZ]⟩
 refine Aa (AR ?_);refine Aa (Gb (s:={ s with heap:=s.heap.update it (J8 (·.setIfInBounds 1 (BZ ((i:Int)+1)))) }) G.typeIs ?_);show wpAny _ _ (pure es[i].key) _ _ _;exact Ac (Ac ⟨_,rfl,Ac (h1 es[i] _ (AD M) G (AQ ..))⟩);simp only[show ¬ ((i:Int)<0) from by omega,if_false,Bt,FK L];refine Aa (Aa (CY B.typeIs (Ac ?_)));show wpAny _ _ (setField (.ref it) 0 .none >>= _) _ _ s;refine Aa (EX W hd (by simp) ?_);show wpAny _ _ (Jf (.type "StopIteration") [] >>= _) _ _ _;refine Aa ?_;simp only[Jf,Kn];refine Aa (AM ?_ (by size_fits));refine Aa (m:=Dr _ _) (Gp (a:=Bj) (by first|rfl|(simp only[Dr];rfl)) ?_);refine AM ?_ (by size_fits);simp only[Ko];refine Aa (GO ?_);rw[show A.in1.handled=none from hh];refine Aa (Ac (Io ?_));refine Aa (CU (T:= "StopIteration") (b:=true) ⟨_,Al _ rfl,rfl⟩ Gv ?_);exact Ac (h2 _ L (((AQ ..).extBut.push _).push _))
theorem aIV(hh:A.handled=none)(I d:Addr)(q1:d≠I)(L:o.data=.dict es ep):Walks prog w A I [I,d] [I] es.size (λi v=>∃e,es[i]? = some e/\v=e.key) (λi h=>h.IsKeyIter I d i es.size ep/\h.get? d=some o) where
 sub:=λb B=>by simp at B;simp[B]
 frame:=λ_ _ _ st hk=>⟨st.1.at λo e=>hk I (by simp) o e,hk d (by simp) o st.2⟩
 item:=λi s Q E hi st G=>aHN hh st.1 st.2 L (λe h' W M U=>G e.key h' s.toks ⟨e,W,rfl⟩ ⟨M,by rw[U.2 d q1];exact st.2⟩ λb o B e=>U.extBut b o (λh=>B (by simp[h])) e) λh' z=>absurd hi (by omega)
 done:=λs Q E st G=>aHN hh st.1 st.2 L (λe h' W=>absurd (Cv.mp W).1 (AC _)) λh' _ q0=>G h' s.toks λb o B e=>q0 b o (λh=>B (by simp[h])) e
 self:=λ_ _ _ _ st G=>wpAny_pyIter_keyiter st.1 G
end
set_option maxRecDepth 100000
set_option maxHeartbeats 4000000
section
variable {prog:A3} {w:AG} {A:Bh} {E:Value->Ad->Prop} {s:Ad}
theorem aDP{xs:List KA}{Q:List Value->Ad->Prop}(hh:A.handled=none)(hl:xs.length<=60)(hD:fM S xs s.heap)
 (hQ:∀B,(∀b o,s.heap.get? b=some o->B.heap.get? b=some o)->(s.heap.objs.size<B.heap.objs.size/\∃tk h',B={ s with heap:=h',toks:=tk })->Q (rfs xs) B):wpAny (A1 prog w) A (JR (.ref S)) Q E s:=by
 obtain⟨hn,_,o,es,ep,g1,g2,g3,g4,_⟩:=hD;have w7:es.size=xs.length:=by rw[<-A6,g4,lM]
 have ty:∀{B:Ad},B.heap.get? S=some o->B.TypeIs (.ref S) "dict" := λq=>⟨_,q,g2.1⟩
 have G:S<s.heap.objs.size:=Am g1;unfold JR;refine Aa (Gq (BF FZ ?_));rw[Bv Ga _];show wpAny _ A.in1 (JS [] >>= λl=>again (.builtin "list.__iadd__" ⟨[l,.ref S],[]⟩)) _ _ s;refine Aa (AM ?_);refine Ac ⟨CH Ea _,BF HD ?_⟩;rw[Bv Ea _];have M:(s.heap.push { cls:=.type "list",data:=.seq ([]:List Value).toArray }).get? S=some o:=Ab _ g1;have w5:Ep { s with heap:=s.heap.push { cls:=.type "list",data:=.seq ([]:List Value).toArray } } (.ref S) "dict" := ty M;have q8:(s.heap.push { cls:=.type "list",data:=.seq ([]:List Value).toArray }).get? s.heap.objs.size=some { cls:=.type "list",data:=.seq ([]:List Value).toArray }:=Al _ rfl;have h1:CJ (.ref s.heap.objs.size) (.ref S)=false:=by simp only[CJ,beq_eq_false_iff_ne];exact BE G
 show wpAny _ A.in1 (Cp (.ref s.heap.objs.size) (.ref S) (.ref s.heap.objs.size)) _ _ _;unfold Cp;refine Aa (BY w5 ?_);rw[if_neg (by rw[h1];decide)];refine Aa (aLZ hn M g2 g3 ?_);generalize hI:({ cls:=Eg "dict_keyiterator",data:=Ij #[AB S,EH 0 0,EH (es.size:Int) 0,EH (ep:Int) 0] }:Obj)=oI;refine Aa (AR ?_);have q7:((s.heap.push { cls:=.type "list",data:=.seq ([]:List Value).toArray }).push oI).get? S=some o:=Ab _ M;have L:Ep { s with heap:=(s.heap.push { cls:=.type "list",data:=.seq ([]:List Value).toArray }).push oI } (.ref S) "dict" := ty q7;unfold ED;refine Aa (DJ L PySem.F.slot_dict_len.lookup ?_);generalize q6:("dict.__len__" : String)=id0
 wp_delta
 rw[show splitId id0=some ("dict", "__len__") from by subst q6;decide +kernel];subst q6;refine Aa (CU (b:=true) L (by rw[EV];kernel_rfl) ?_);rw[if_neg (by decide)];dsimp only;rw[if_pos (by decide +kernel)];refine Aa (BY L ?_);refine Ac ?_;rw[if_pos (by decide +kernel)];refine Aa (Ds ?_);unfold FL;have q2:((s.heap.push { cls:=.type "list",data:=.seq ([]:List Value).toArray }).push oI).get? s.heap.objs.size=some { cls:=.type "list",data:=.seq ([]:List Value).toArray }:=Ab _ q8;refine Aa (Aa (Di (f:=λx=>x.push Bj) q2 rfl ?_));have q3:=DK (c:= "list") (xs:=#[]) (n:=0) q2 (λx=>x.push Bj);refine Di (f:=λx=>x.pop) q3 rfl ?_;have q9:=DK q3 (λx=>x.pop);have q1:(s.heap.push { cls:=.type "list",data:=.seq ([]:List Value).toArray }).objs.size=s.heap.objs.size+1:=Hi _ _;have q0:((s.heap.push { cls:=.type "list",data:=.seq ([]:List Value).toArray }).push oI).get? (s.heap.push { cls:=.type "list",data:=.seq ([]:List Value).toArray }).objs.size=some oI:=Al _ (by rw[<-hI];rfl);rw[q1] at q0 ⊢;have keep:∀b o,b≠s.heap.objs.size->((s.heap.push { cls:=.type "list",data:=.seq ([]:List Value).toArray }).push oI).get? b=some o->((((s.heap.push { cls:=.type "list",data:=.seq ([]:List Value).toArray }).push oI).update s.heap.objs.size (B0 λx=>x.push Bj)).update s.heap.objs.size (B0 λx=>x.pop)).get? b=some o:=λb o U e=>by rw[CL _ _ _ _ U,CL _ _ _ _ U];exact e
 have w3:S≠s.heap.objs.size+1:=λz=>DN.mpr (Ev _) (z▸G);have w4:s.heap.objs.size∉[s.heap.objs.size+1,S]:=λW=>by rcases As.mp W with z|z;exact absurd z (by omega);rw[<-Ap.mp z] at G;exact AC _ G
 refine Ac ⟨CH GB _,Gw (aIV (A:=A.in1) hh (s.heap.objs.size+1) S w3 g3).toS (by rw[w7];exact AI hl (by decide)) _ w4 _ es.size 0 _ #[] 2 (EE _) (AA _) ⟨⟨oI,keep _ _ (by omega) q0,by rw[<-hI],by rw[<-hI];rfl⟩,keep _ _ (Aw G) q7⟩ q9 (Kq _) λB I c' W q4 q5=>?_⟩;show wpAny _ A (load s.heap.objs.size >>= _) _ _ B;refine Aa (IQ q4 ?_);have w6:I.toList=rfs xs:=by have e:=sB (P:=λi v=>∃e,es[i]? = some e/\v=e.key) (od:=es.toList.map λe=>(e.hash,e.key)) (λi v ⟨e,he,hv⟩=>⟨_,by rw[Ar,AL,he];rfl,hv⟩) q5 (by rw[lM,A6]);rw[e,g4,AJ,AJ];rfl
 show wpAny _ A (pure I.toList) _ _ B;rw[w6];refine Ac (hQ B (λb o e=>?_) ?_);have U:b<s.heap.objs.size:=Am e;refine W.heap b o (λz=>?_) (keep b o (Aw U) (Ab _ (Ab _ e)));rcases As.mp z with z|z;exact Aw U z;exact DN.mpr (Ev _) (Ap.mp z▸U);obtain⟨h',g',d',w9,w8⟩:=B;have eg:g'=s.gens:=W.gens;have ed:d'=s.drawn:=W.drawn;have eo:w8=s.os:=W.os;subst eg;subst ed;subst eo;exact⟨Am q4,w9,h',rfl⟩
theorem uB{xs:List KA}{Q:Value->Ad->Prop}(hh:A.handled=none)(hl:xs.length<=60)(hS:fM S xs s.heap)(hK:∀x∈xs,IsK prog w s.heap x)(U:∀x∈xs,x.1≠[])
 (h:∀(h':Heap) (tk:Nat) (L:Addr) (ys:List KA) (n:Nat),s.heap.objs.size<=L->(∀b o,s.heap.get? b=some o->h'.get? b=some o)->h'.get? L=some (Cq "list" (rfs ys).toArray n)->ys.Perm xs->(ys.Pairwise λx y=>lexI x.1 y.1=true)->Q (.ref L) { s with heap:=h',toks:=tk }) :
 wpAny (A1 prog w) A (call (.builtin "sorted") [.ref S]) Q E s:=by refine Fc Kr JU JV (JW _) ?_;unfold BX.«sorted»;refine Aa (m:=checkCount "sorted" 1 1 _) (Ac ?_);refine Aa (aDP hh hl hS λs' I W=>?_);obtain⟨M,tk,G,rfl⟩:=W;refine Aa (GP ?_ (by rw[lM,Bf];omega));have B:(G.push (Cq "list" (rfs xs).toArray 0)).get? G.objs.size=some (Cq "list" (rfs xs).toArray 0):=Al _ rfl;refine Aa (AR (AV (s:={ s with heap:=G.push (Cq "list" (rfs xs).toArray 0),toks:=tk }) Jh ⟨_,B,rfl⟩ ID (nJ B (λx hx=>(hK x hx).keep λo e=>Ab _ (I _ o e)) U (let ⟨_,_,_,_,_,_,_,_,_,z⟩:=hS;z) (by omega) λzs z1 z2=>⟨_,rfl,?_⟩) (Ji _)));obtain⟨n,hL⟩:=J7 (out:=(rfs zs).toArray) B;refine Ac ⟨_,rfl,h _ _ G.objs.size zs n (Dy M) (λb o q=>?_) hL z1 z2⟩;have hb:b<G.objs.size:=Am (I b o q);rw[Jj (Aw hb) (by rw[Hi];exact Br hb)];exact Ab _ (I b o q)
end
set_option maxRecDepth 100000
set_option maxHeartbeats 4000000
def putS(xs:List KA)(x:KA):List KA:=if x.1∈xs.map (·.1) then xs else xs++[x]
theorem sD(xs:List KA)(x:KA):(putS xs x).map (·.1)=putKs (xs.map (·.1)) x.1:=by unfold putS putKs;split;rfl;rw[Bd];rfl
theorem putS_mem(h:y∈putS xs x):y∈xs\/y=x:=by unfold putS at h;split at h;exact .inl h;exact(AY.mp h).imp id Ap.mp
theorem kK{xs:List KA}:(putS xs x).length<=xs.length+1:=by unfold putS;split;omega;rw[lA];exact Ak _
section
variable {prog:A3} {w:AG} {A:Bh} {E:Value->Ad->Prop} {s:Ad} {d a:Addr} {xs ys:List KA} {k:List Int}
theorem ofH{h:Heap}(U:fM d xs h)(W:∀x∈xs,IsK prog w h x):h.DictOfH (Dw (Da prog w)) d (xs.map λx=>(x.1,x.2,CZ true)):=by obtain⟨_,_,o,es,ep,B,G,I,L,M⟩:=U;refine⟨o,es,ep,B,G,I,by rw[L,AJ];rfl,λx hx=>?_,by rw[AJ];exact M⟩;obtain⟨y,hy,rfl⟩:=A0.mp hx;exact W y hy
theorem wR:KJ (xs.map λx=>(x.1,x.2,CZ true)) k a (.bool true)=(putS xs (k,a)).map λx=>(x.1,x.2,CZ true):=by
 have at_:∀xs:List KA,(atKey (xs.map λx=>(x.1,x.2,CZ true)) k).isSome=decide (k∈xs.map (·.1)):=λxs=>by
  induction xs with
  | nil=>rfl|cons x xs B=>unfold atKey at B ⊢;rw[mC,IF];by_cases h:x.1=k;subst h;simp;simp only[Av h];rw[B];simp[DI h]
 unfold KJ putS;rw[at_];by_cases h:k∈xs.map (·.1);rw[if_pos (Ao h),if_pos h,AJ];refine DB λx _=>?_;show putAt k (.bool true) (x.1,x.2,.bool true)=_;unfold putAt;split <;> rfl;rw[if_neg (by simpa using h),if_neg h,Bd];rfl
theorem aHO{h:Heap}(hd:(d==CB)=false)(U:ys.length<=sizeLine)(W:h.DictOfH (Dw (Da prog w)) d (ys.map λx=>(x.1,x.2,CZ true))):fM d ys h:=by obtain⟨o,es,ep,I,L,M,B,_,G⟩:=W;rw[AJ] at B G;exact⟨hd,U,o,es,ep,I,L,M,B,G⟩
theorem wU(hu:A.units<C5)(W:IsK prog w s.heap (k,a))(hD:fM d xs s.heap)(hK:∀x∈xs,IsK prog w s.heap x)(hl:xs.length<sizeLine){Q:Unit->Ad->Prop}
 (hQ:∀h',fM d (putS xs (k,a)) h'->B5 d s.heap h'->Q () { s with heap:=h' }):wpAny (A1 prog w) A (GQ d (.ref a) (tupHs k) (.bool true)) Q E s:=by
 have hm:=ofH hD hK;have I:∀h',h'.DictOfH (Dw (Da prog w)) d (KJ (xs.map λx=>(x.1,x.2,CZ true)) k a (.bool true))->B5 d s.heap h'->Q () { s with heap:=h' }:=λh' q b=>by rw[wR] at q;exact hQ h' (aHO hD.1 (AI kK hl) q) b
 obtain⟨o,es,ep,L,hc,hd,he,M,U⟩:=hm;have q1:=size_of_entries he;rw[lM] at q1;unfold GQ
 try with_reducible refine AR ?_
 refine Aa (wpAny_dictFind_heap (knd:=Dw (Da prog w)) hu W L hd he M U ?_ ?_);intro B;have q0:=not_mem_keys_of_get B;refine Aa (Ds (wpAny_updateDictKeys (hz:=by omega) L hd (I _ ⟨_,_,ep+1,B9 _ L (E9 (Dt hd _)),hc.mapDictKeys _,Dt hd _,?_,?_,?_⟩ (AQ ..))));rw[Iq (Fk B)];simp[he,IN];rfl;rw[Iq (Fk B)];intro x G;rcases AY.mp G with G|G;exact(Dw (Da prog w)).keeps (M x G) L hd (AQ ..);rw[Ap.mp G];exact(Dw (Da prog w)).keeps W L hd (AQ ..);rw[Iq (Fk B),Bd,Fl];refine⟨U,by simp,?_⟩;intro x G y hy;simp only[mC,mN,Ap] at hy;subst hy;exact λe=>q0 (e▸G);intro j p hj;refine Aa (Ds (Aa (wpAny_updateDict L hd (wpAny_point (I _ ⟨_,_,ep,B9 _ L (E9 (HY hd _)),hc.mapDict _,HY hd _,?_,?_,?_⟩ (AQ ..))))));rw[Ir (HG U hj),Array.toList_modify,he];exact modify_map_putAt (IN (Dw (Da prog w))) (λe=>{ e with val:=.bool true }) k (.bool true) (λ_ _=>rfl) U hj;rw[Ir (HG U hj)];intro x G;obtain⟨y,hy,rfl⟩:=A0.mp G;have q:=(Dw (Da prog w)).keeps (M y hy) L hd (AQ s.heap d (Obj.mapDict λx=>x.modify j λe=>{ e with val:=.bool true }));unfold putAt;split <;> exact q;rw[Ir (HG U hj),keys_map_putAt];exact U
end
end L2
namespace Hp
open PySem PySem.Spec PyProof.Rows L2
def Kp(R:Addr->Prop)(H H':Hp):Prop:=∀a o,H a=some o->¬ R a->H' a=some o
def RE{α:Type}:R α->(α->Prop)->Prop
 | .ok a,p=>p a|_,_=>False
theorem RE.mono{α:Type}{x:R α}{p q:α->Prop}(h:RE x p)(f:∀a,p a->q a):RE x q:=by
 cases x with
 | ok a=>exact f a h|exc e=>exact h|bad=>exact h
theorem RE.bind{α B:Type}{x:R α}{f:α->R B}{p:B->Prop}:RE (x >>= f) p=RE x λa=>RE (f a) p:=by cases x <;> rfl
theorem RE.iff{α:Type}{c:Bool}{x:R α}{p:α->Prop}(h:RE (R.iff c x) p):c=true/\RE x p:=by
 cases c with
 | true=>exact⟨rfl,h⟩|false=>exact h.elim
section
variable (K:Fg) (RT Y old:Addr->Prop)
def exB(pa:Bool)(a:Addr):Prop:=Y a\/(pa=false/\old a)
def Tk(H:Hp):Prop:=∀b,H b≠none->K.lookup b=none
structure Lx (Z:Sg) (ZV:L2.St) (H:Hp):Prop where
 at':∀(i:Nat) (ds:List D),Z[i]? = some (.lent ds)->∃a xs,ZV[i]? = some (some (.ref a))/\H a=some (.lst xs)/\RT a/\old a/\Reps K H (λa=>RT a\/exB Y old true a) ds xs
 inj:∀(i j:Nat) (ds ds':List D) (a:Addr),Z[i]? = some (.lent ds)->Z[j]? = some (.lent ds')->ZV[i]? = some (some (.ref a))->ZV[j]? = some (some (.ref a))->i=j
def DOb(H:Hp)(a:Addr)(ks:List (List Int)):Prop:=∃xs:List KA,H a=some (cT a xs)/\xs.map (·.1)=ks/\∀x∈xs,SqT K H x.2 (x.1.map V.int)
structure Dx (Z:Sg) (ZV:L2.St) (H:Hp):Prop where
 at':∀(i:Nat) (t:List (List Int)),Z[i]? = some (.dct t)->∃a,ZV[i]? = some (some (.ref a))/\RT a/\¬ old a/\DOb K H a t
 inj:∀(i j:Nat) (t t':List (List Int)) (a:Addr),Z[i]? = some (.dct t)->Z[j]? = some (.dct t')->ZV[i]? = some (some (.ref a))->ZV[j]? = some (some (.ref a))->i=j
def RtO(H:Hp)(a:Addr):Prop:=∃o,H a=some o/\Mb o
structure Sx (Z:Sg) (ZV:L2.St) (H:Hp):Prop where
 sh:∀(i:Nat) (pa:Bool) (d:D),Z[i]? = some (.sh pa d)->∃v,ZV[i]? = some (some v)/\Rep K H (λa=>RT a\/exB Y old pa a) d v
 own:∀(i:Nat) (pa:Bool) (ds:List D),Z[i]? = some (.own pa ds)->∃a xs,ZV[i]? = some (some (.ref a))/\H a=some (.lst xs)/\RT a/\¬ old a/\Reps K H (λa=>RT a\/exB Y old pa a) ds xs
 trk:∀a,RT a\/Y a\/old a->H a=none->K.lookup a≠none
 yo:∀a,Y a->old a
 tk:Tk K H
 rt:∀a,RT a->RtO H a
 inj:∀(i j:Nat) (pa pa':Bool) (ds ds':List D) (a:Addr),Z[i]? = some (.own pa ds)->Z[j]? = some (.own pa' ds')->ZV[i]? = some (some (.ref a))->ZV[j]? = some (some (.ref a))->i=j
 len:Z.length=ZV.length
 lx:Lx K RT Y old Z ZV H
 dx:Dx K RT old Z ZV H
def alR(Z:Sg)(ZV:L2.St)(al:List Nat)(a:Addr):Prop:=∃j∈al,(∃pa ds,Z[j]? = some (.own pa ds))/\ZV[j]? = some (some (.ref a))
def exV(Z:Sg)(ZV:L2.St)(pa:Bool)(al:List Nat)(a:Addr):Prop:=(RT a/\¬ alR Z ZV al a)\/exB Y old pa a
def Rv(Z:Sg)(ZV:L2.St)(H:Hp)(v:Vl)(u:V):Prop:=Rep K H (exV RT Y old Z ZV v.pa v.al) v.d u
def Ro(Z:Sg)(ZV:L2.St)(H H':Hp)(v:Vl)(u:V):Prop:=
 aI H H'/\(if v.fr=true then ∃a xs ds,u=.ref a/\v.d=.lst ds/\(H a=none/\K.lookup a=none)/\H' a=some (.lst xs)/\Reps K H' (λb=>b=a\/exV RT Y old Z ZV v.pa v.al b) ds xs
  else Rv K RT Y old Z ZV H' v u)
def Rvs(Z:Sg)(ZV:L2.St)(H:Hp):List Vl->List V->Prop
 | [],us=>us=[]
 | v::vs,us=>∃u r,us=u::r/\Rv K RT Y old Z ZV H v u/\Rvs Z ZV H vs r
end
section
variable {K:Fg} {RT Y old:Addr->Prop} {Z:Sg} {ZV:L2.St} {H H' H1 H2:Hp} {v:Vl} {u:V}
theorem Lx.imp{B:Addr->Prop}{Z':Sg}{G:L2.St}(L:Lx K RT Y old Z ZV H)(m:Nat->Nat)(hs:∀j ds,Z'[j]? = some (.lent ds)->Z[m j]? = some (.lent ds)/\G[j]? = ZV[m j]?)(hm:∀i j ds ds',Z'[i]? = some (.lent ds)->Z'[j]? = some (.lent ds')->m i=m j->i=j)
 (hh:∀a xs,H a=some (.lst xs)->RT a->old a->H' a=some (.lst xs)/\B a) (hr:∀ds xs,Reps K H (λa=>RT a\/exB Y old true a) ds xs->Reps K H' (λa=>B a\/exB Y old true a) ds xs):Lx K B Y old Z' G H' where
 at':=λi ds e=>by obtain⟨I,M⟩:=hs i ds e;obtain⟨a,xs,h1,h2,h3,U,h5⟩:=L.at' (m i) ds I;obtain⟨g1,g2⟩:=hh a xs h2 h3 U;exact⟨a,xs,by rw[M];exact h1,g1,g2,U,hr ds xs h5⟩
 inj:=λi j ds ds' a W q2 v1 v2=>by obtain⟨I,M⟩:=hs i ds W;obtain⟨e3,e4⟩:=hs j ds' q2;exact hm i j ds ds' W q2 (L.inj (m i) (m j) ds ds' a I e3 (by rw[<-M];exact v1) (by rw[<-e4];exact v2))
theorem DOb.imp(h:DOb K H a t)(G:∀o,H a=some o->Mb o->(∀xs,o≠.lst xs)->H' a=some o)(B:∀b ks,SqT K H b ks->SqT K H' b ks):DOb K H' a t:=by obtain⟨xs,e,r,q⟩:=h;exact⟨xs,G _ e (.inr (.inr ⟨_,rfl⟩)) (λ_ z=>by cases z),r,λx I=>B _ _ (q x I)⟩
theorem DOb.at(h:DOb K H a t):∃o,H a=some o/\Mb o/\∀xs,o≠.lst xs:=by obtain⟨xs,e,r⟩:=h;exact⟨_,e,.inr (.inr ⟨_,rfl⟩),λ_ z=>by cases z⟩
theorem Dx.imp{B:Addr->Prop}{Z':Sg}{G:L2.St}(L:Dx K RT old Z ZV H)(m:Nat->Nat)(hs:∀j t,Z'[j]? = some (.dct t)->Z[m j]? = some (.dct t)/\G[j]? = ZV[m j]?)(hm:∀i j t t',Z'[i]? = some (.dct t)->Z'[j]? = some (.dct t')->m i=m j->i=j)
 (hh:∀a o,H a=some o->(∀xs,o≠.lst xs)->RT a->¬ old a->H' a=some o/\B a) (hT:∀b ks,SqT K H b ks->SqT K H' b ks):Dx K B old Z' G H' where
 at':=λi t e=>by obtain⟨M,U⟩:=hs i t e;obtain⟨a,h1,h2,W,h4⟩:=L.at' (m i) t M;obtain⟨o,I,q2,q3⟩:=h4.at;exact⟨a,by rw[U];exact h1,(hh a o I q3 h2 W).2,W,h4.imp (λo' q _ q'=>(hh a o' q q' h2 W).1) hT⟩
 inj:=λi j t t' a I q2 v1 v2=>by obtain⟨M,U⟩:=hs i t I;obtain⟨e3,e4⟩:=hs j t' q2;exact hm i j t t' I q2 (L.inj (m i) (m j) t t' a M e3 (by rw[<-U];exact v1) (by rw[<-e4];exact v2))
theorem RtO.grow(h:RtO H a)(s:aI H H'):RtO H' a:=let ⟨o,e,m⟩:=h;⟨o,s _ _ e,m⟩
theorem RtO.ne(h:RtO H a):H a≠none:=λz=>by obtain⟨o,e,_⟩:=h;rw[z] at e;cases e
theorem RtO.lst(e:H a=some (.lst xs)):RtO H a:=⟨_,e,.inl ⟨_,rfl⟩⟩
theorem Sx.grow(S:Sx K RT Y old Z ZV H)(s:aI H H')(t:Tk K H'):Sx K RT Y old Z ZV H' where
 sh:=λi pa d e=>let ⟨v,h1,h2⟩:=S.sh i pa d e;⟨v,h1,h2.grow s⟩
 own:=λi pa ds e=>let ⟨a,xs,h1,h2,h3,h4,h5⟩:=S.own i pa ds e;⟨a,xs,h1,s _ _ h2,h3,h4,h5.grow s⟩
 trk:=λa h z=>S.trk a h (s.free z)
 yo:=S.yo
 tk:=t
 rt:=λa h=>(S.rt a h).grow s
 inj:=S.inj
 len:=S.len
 lx:=S.lx.imp id (λ_ _ e=>⟨e,rfl⟩) (λ_ _ _ _ _ _ e=>e) (λa xs e z _=>⟨s _ _ e,z⟩) (λ_ _ r=>r.grow s)
 dx:=S.dx.imp id (λ_ _ e=>⟨e,rfl⟩) (λ_ _ _ _ _ _ e=>e) (λa o e _ z _=>⟨s _ _ e,z⟩) λ_ _ r=>aI.seqT s r
theorem exV.trk(S:Sx K RT Y old Z ZV H)(h:exV RT Y old Z ZV pa al a):H a=none->K.lookup a≠none:=by
 rcases h with⟨h,_⟩|h|⟨_,h⟩
 exact S.trk a (.inl h);exact S.trk a (.inr (.inl h));exact S.trk a (.inr (.inr h))
theorem Ro.rv(S:Sx K RT Y old Z ZV H)(h:Ro K RT Y old Z ZV H H' v u):Rv K RT Y old Z ZV H' v u:=by obtain⟨s,h⟩:=h;by_cases I:v.fr=true;rw[if_pos I] at h;obtain⟨a,xs,ds,L,M,B,G,r⟩:=h;unfold Rv;rw[M];exact⟨a,xs,L,SqL.of G,⟨λz=>exV.trk S z B.1 B.2,λ_=>G⟩,r.weak λb z=>.inr z⟩;rw[if_neg I] at h;exact h
theorem Rv.grow(h:Rv K RT Y old Z ZV H v u)(s:aI H H'):Rv K RT Y old Z ZV H' v u:=Rep.grow h s
theorem Rvs.grow:∀{vs:List Vl} {us:List V},Rvs K RT Y old Z ZV H vs us->aI H H'->Rvs K RT Y old Z ZV H' vs us
 | [],_,h,_=>h|v::vs,_,h,s=>by obtain⟨u,r,e,B,G⟩:=h;exact⟨u,r,e,B.grow s,Rvs.grow G s⟩
theorem Ro.plain(s:aI H H')(B:v.fr=false)(h:Rv K RT Y old Z ZV H' v u):Ro K RT Y old Z ZV H H' v u:=⟨s,by rw[if_neg (by rw[B];decide)];exact h⟩
theorem Ro.from(h:Ro K RT Y old Z ZV H1 H' v u)(s:aI H H1):Ro K RT Y old Z ZV H H' v u:=by obtain⟨U,h⟩:=h;refine⟨s.trans U,?_⟩;by_cases G:v.fr=true;rw[if_pos G] at h ⊢;obtain⟨a,xs,ds,I,L,B,M,r⟩:=h;exact⟨a,xs,ds,I,L,⟨s.free B.1,B.2⟩,M,r⟩;rw[if_neg G] at h ⊢;exact h
theorem Ro.cl(s:aI H H')(h:Rep K H' (exV RT Y old Z ZV false []) d u):Ro K RT Y old Z ZV H H' (.cl d) u:=Ro.plain s rfl h
theorem Rv.sub{ds:List D}{xs:List V}{j:Nat}(h:Rep K H (exV RT Y old Z ZV v.pa v.al) d x):Rv K RT Y old Z ZV H (v.sub d) x:=by unfold Rv Vl.sub;by_cases B:noL d=true;rw[if_pos B];exact Rep.free d x B h;rw[if_neg B];exact h
theorem alR.mono(h:alR Z ZV al a)(s:∀j∈al,j∈al'):alR Z ZV al' a:=by obtain⟨j,B,q⟩:=h;exact⟨j,s j B,q⟩
theorem exV.mono(h:exV RT Y old Z ZV pa' al' a)(I:pa=true->pa'=true)(s:∀j∈al,j∈al'):exV RT Y old Z ZV pa al a:=by
 rcases h with⟨B,G⟩|h|⟨B,G⟩
 exact .inl ⟨B,λz=>G (z.mono s)⟩;exact .inr (.inl h);refine .inr (.inr ⟨?_,G⟩);cases pa with
 | false=>rfl|true=>rw[I rfl] at B;cases B
theorem Rvs.length:∀{vs:List Vl} {us:List V},Rvs K RT Y old Z ZV H vs us->vs.length=us.length
 | [],_,h=>by rw[show _=[] from h];rfl|v::vs,_,h=>by obtain⟨u,r,e,_,B⟩:=h;subst e;rw[lC,lC,Rvs.length B]
theorem nK{v:Vl}(h:v∈vs):∀j∈v.al,j∈bR vs:=λj B=>El.mpr ⟨v,h,B⟩
theorem fN{v:Vl}(h:v∈vs)(B:v.pa=true):aU vs=true:=List.any_eq_true.mpr ⟨v,h,B⟩
theorem Rvs.reps:∀{vs:List Vl} {us:List V} {pa:Bool} {al:List Nat},Rvs K RT Y old Z ZV H vs us->(∀v∈vs,(v.pa=true->pa=true)/\∀j∈v.al,j∈al) ->
 Reps K H (exV RT Y old Z ZV pa al) (vs.map (·.d)) us
 | [],_,_,_,h,_=>h|v::vs,_,_,_,h,q=>by obtain⟨u,r,e,G,I⟩:=h;have B:=q v Ai;exact⟨u,r,e,Rep.weak G λa z=>z.mono B.1 B.2,Rvs.reps I λw L=>q w (Ag _ L)⟩
theorem Rvs.all{vs:List Vl}(h:Rvs K RT Y old Z ZV H vs us):Reps K H (exV RT Y old Z ZV (aU vs) (bR vs)) (vs.map (·.d)) us:=
 h.reps λv B=>⟨λz=>fN B z,nK B⟩
theorem Ro.fresh(B:H p=none)(I:Tk K (upd H p (.lst xs)))(hd:v.d=.lst ds)(M:v.fr=true)(S:Sx K RT Y old Z ZV H)(r:Reps K H (exV RT Y old Z ZV v.pa v.al) ds xs) :
 Ro K RT Y old Z ZV H (upd H p (.lst xs)) v (.ref p):=by
 have s:aI H (upd H p (.lst xs)):=λb o q=>by rw[upd_ne (bB q B)];exact q
 refine⟨s,?_⟩;rw[if_pos M];have kp:K.lookup p=none:=I p (by rw[aR];simp);refine⟨p,xs,ds,rfl,hd,⟨B,kp⟩,aR,?_⟩;refine Reps.imp (λ_ _ q=>aI.seqT s q) (λa W n q=>⟨λz=>?_,s.seq q⟩) (λ⟨c,G,L⟩=>⟨c,G,L.resolve_left λz=>G (by rw[z];exact kp)⟩) (λ_ _ _ q=>s _ _ q) (λa ks n q=>⟨λz=>z.elim (λw=>by rw[w,B] at q;cases q) n,s _ _ q⟩) ds xs r;rcases z with z|z;subst z;rcases q with(q|⟨o,q⟩)|⟨o,its,U,q,_⟩
 rw[B] at q;cases q;rw[B] at q;cases q;have z:=I a (by rw[aR];simp);rw[q] at z;cases z;exact n z
theorem aI.new(B:H p=none):aI H (upd H p o):=λb u q=>by rw[upd_ne (bB q B)];exact q
theorem Ro.tup(B:H p=none)(hd:v.d=.tup ds)(G:v.fr=false)(r:Reps K H (exV RT Y old Z ZV v.pa v.al) ds xs) :
 Ro K RT Y old Z ZV H (upd H p (.tup xs)) v (.ref p):=by refine Ro.plain (aI.new B) G ?_;unfold Rv;rw[hd];exact⟨p,xs,rfl,SqT.of aR,r.grow (aI.new B)⟩
end
section
variable (X:Cx) (P:Pg) (W:Caller) (RT Y old:Addr->Prop)
def wE(Z:Sg)(c:E):TE:=λZV H Q=>Sx X.K RT Y old Z ZV H/\RE (ev P W Z c) λv=>∀u H',Tk X.K H'->Ro X.K RT Y old Z ZV H H' v u->Q u H'
def wT(Z:Sg)(c:E):TT:=λZV H Q=>Sx X.K RT Y old Z ZV H/\RE (tst P W Z c) λk=>∀H',Tk X.K H'->aI H H'->Q k H'
def wA(Z:Sg)(cs:Es):TA:=λZV H Q=>Sx X.K RT Y old Z ZV H/\RE (evs P W Z cs) λvs=>∀us H',Tk X.K H'->aI H H'->Rvs X.K RT Y old Z ZV H' vs us->Q us H'
end
section
variable {X:Cx} {P:Pg} {W:Caller} {RT Y old:Addr->Prop} {Z:Sg} {pos:EJ}
theorem _root_.L2.Inv.tk(I:Inv X pins ZV H s):Tk X.K H:=λb B=>by
 cases q:X.K.lookup b with
 | none=>rfl|some o=>exact absurd (I.bs b o (I.ok.mod.kin b o q)).2 B
theorem _root_.L2.PE.imp(h:PE X e t)(f:∀ZV H Q,Tk X.K H->t' ZV H Q->t ZV H λv H'=>Tk X.K H'->Q v H'):PE X e t':=λpins s ZV H Q I G=>thn (h pins s ZV H _ I (f ZV H Q I.tk G)) λu L ⟨v,H',B,r,q⟩=>⟨v,H',B,r,q B.tk⟩
theorem _root_.L2.PT.imp(h:PT X e t)(f:∀ZV H Q,Tk X.K H->t' ZV H Q->t ZV H λv H'=>Tk X.K H'->Q v H'):PT X e t':=λpins s ZV H Q I G=>thn (h pins s ZV H _ I (f ZV H Q I.tk G)) λk L ⟨H',B,q⟩=>⟨H',B,q B.tk⟩
theorem _root_.L2.PA.imp(h:PA X es t)(f:∀ZV H Q,Tk X.K H->t' ZV H Q->t ZV H λv H'=>Tk X.K H'->Q v H'):PA X es t':=λpos pins s ZV H Q I G=>thn (h pos pins s ZV H _ I (f ZV H Q I.tk G)) λu L ⟨v,H',B,r,q⟩=>⟨v,H',B,r,q B.tk⟩
theorem wE.two{p:Vl->Vl->Prop}{Q:V->V->Hp->Prop}(S:Sx X.K RT Y old Z ZV H)(h:RE (ev P W Z a) λx=>RE (ev P W Z b) λy=>p x y)
 (f:∀x y G I B,p x y->Tk X.K B->aI H B->Sx X.K RT Y old Z ZV B->Rv X.K RT Y old Z ZV B x G->Rv X.K RT Y old Z ZV B y I->Q G I B) :
 wE X P W RT Y old Z a ZV H λG H1=>wE X P W RT Y old Z b ZV H1 λI B=>Q G I B:=by refine⟨S,h.mono λx hx G H1 U r1=>⟨S.grow r1.1 U,hx.mono λy hy I B t2 L=>?_⟩⟩;have M:=S.grow r1.1 U;exact f x y G I B hy t2 (r1.1.trans L.1) (M.grow L.1 t2) ((r1.rv S).grow L.1) (L.rv M)
theorem Ro.val(s:aI H H')(h:∀ex,Rep X.K H' ex d u):Ro X.K RT Y old Z ZV H H' (.cl d) u:=Ro.cl s (h _)
theorem s_c (h : eqC d c = true) : PE X (.Constant c k pos) (wE X P W RT Y old Z (.c d)) := by
 have key : ∀ {v : V}, (∀ (H : Hp) ex, Rep X.K H ex d v) -> PE X (.Constant c k pos) (tC v) -> PE X (.Constant c k pos) (wE X P W RT Y old Z (.c d)) := λ G B =>B.imp λ ZV H Q t ⟨S, q⟩ t' => q _ H t' (Ro.val (aI.refl H) (G H));cases d with
 | non => cases c with|none => exact key (λ _ _ => rfl) aIi|_ => cases h
 | bl b => cases c with
  | bool b' => have e : b = b' := by simpa [eqC] using h
               subst e; exact key (λ _ _ => rfl) aLd
  | _ => cases h
 | int b => cases c with
  | int b' => have e : b = b' := by simpa [eqC] using h
              subst e; exact key (λ _ _ => rfl) aIh
  | _ => cases h
 | str b => cases c with
  | str b' => have e : b = b' := by simpa [eqC] using h
              subst e; exact key (λ _ _ => rfl) aIj
  | _ => cases h
 | _ => cases c <;> cases h
theorem s_v(hN:X.N[i]? = some x)(hv:Vis X.env.scope x)(hd:(x==("__debug__" : Str))=false)(I:(x==("__classdict__" : Str))=false) :
 PE X (.Name x pos) (wE X P W RT Y old Z (.v i)):=by
 refine(oN hN hv hd I).imp λZV H Q t ⟨S,q⟩=>?_;have q:RE (bV Z i) _:=q;unfold bV at q;cases e:Z[i]? with
 | none=>rw[e] at q;exact q.elim|some sl=>
  rw[e] at q;cases sl with
  | dead=>exact q.elim|lent _=>exact q.elim|dct _=>exact q.elim|sh pa d=>
   obtain⟨v,G,B⟩:=S.sh i pa d e;refine⟨v,G,λt'=>q v H t' (Ro.plain (aI.refl H) rfl ?_)⟩;unfold Rv;by_cases M:noL d=true;exact Rep.free d v M B;refine Rep.weak B λa z=>?_;rcases z with⟨z,_⟩|z|⟨z,z'⟩
   exact .inl z;exact .inr (.inl z);have:pa=false:=by simpa[M] using z
   exact .inr (.inr ⟨this,z'⟩)
  | own pa ds=>
   obtain⟨a,xs,G,B,h3,L,U⟩:=S.own i pa ds e;refine⟨.ref a,G,λt'=>q _ H t' (Ro.plain (aI.refl H) rfl ?_)⟩;unfold Rv;refine⟨a,xs,rfl,SqL.of B,⟨λz=>?_,λ_=>B⟩,U.weak λb z=>?_⟩;rcases z with⟨_,z⟩|z|⟨_,z⟩
   exact z ⟨i,by simp,⟨pa,ds,e⟩,G⟩;exact L (S.yo a z);exact L z;rcases z with⟨z,_⟩|z;exact .inl z;exact .inr z
end
section
variable {X:Cx} {RT Y old:Addr->Prop} {Z:Sg} {ZV:L2.St} {H:Hp} {s:Ad} {pins:List (Addr×Obj)} {Q:VK} {ux uy:V} {vx vy:Value} {x y:Vl}
theorem _root_.L2.EP.tk(h:EP X pins ZV (λv H'=>Tk X.K H'->Q v H') u s'):EP X pins ZV Q u s':=by obtain⟨v,H',B,r,q⟩:=h;exact⟨v,H',B,r,q (Inv.tk B)⟩
abbrev Wn(X:Cx)(RT Y old:Addr->Prop)(Z:Sg)(ZV:L2.St)(H:Hp)(Q:VK)(v:Vl):Prop:=∀u H',Tk X.K H'->Ro X.K RT Y old Z ZV H H' v u->Q u H'
theorem Wn.val(w:Wn X RT Y old Z ZV H Q (.cl d))(t:Tk X.K H)(h:∀ex,Rep X.K H ex d u):Q u H:=w u H t (Ro.cl (aI.refl H) (h _))
theorem Rv.int(h:Rv X.K RT Y old Z ZV H x u)(e:x.d=.int i):u=.int i:=by unfold Rv at h;rw[e] at h;exact h
theorem Rv.str(h:Rv X.K RT Y old Z ZV H x u)(e:x.d=.str i):u=.str i:=by unfold Rv at h;rw[e] at h;exact h
theorem Rv.bl(h:Rv X.K RT Y old Z ZV H x u)(e:x.d=.bl i):u=.bl i:=by unfold Rv at h;rw[e] at h;exact h
theorem Rv.non(h:Rv X.K RT Y old Z ZV H x u)(e:x.d=.non):u=.non:=by unfold Rv at h;rw[e] at h;exact h
theorem Rv.tup(h:Rv X.K RT Y old Z ZV H x u)(e:x.d=.tup ds):∃a xs,u=.ref a/\SqT X.K H a xs/\Reps X.K H (exV RT Y old Z ZV x.pa x.al) ds xs:=by unfold Rv at h;rw[e] at h;exact h
theorem Rv.lst(h:Rv X.K RT Y old Z ZV H x u)(e:x.d=.lst ds):∃a xs,u=.ref a/\SqL X.K H a xs/\¬ exV RT Y old Z ZV x.pa x.al a/\Reps X.K H (exV RT Y old Z ZV x.pa x.al) ds xs:=by unfold Rv at h;rw[e] at h;obtain⟨a,xs,B,G,I,L⟩:=h;exact⟨a,xs,B,G,I.1,L⟩
theorem aIW:lim<=sizeLine:=by unfold lim;rw[Bf];decide
theorem dZ(h:n<=lim):n<=sizeLine:=AI h aIW
theorem eH{ds:List D}{xs:List V}{pa:Bool}{al:List Nat}{K:Fg}(r:Reps K H (exV RT Y old Z ZV pa al) ds xs) :
 Reps K H (exV RT Y old Z ZV (pa&&!noLs ds) (if noLs ds=true then [] else al)) ds xs:=by by_cases B:noLs ds=true;exact Reps.free ds xs B r;rw[if_neg B];refine r.weak λa z=>z.mono (λI=>?_) λj G=>G;rw[I];simp[B]
def aMa(K:Fg):R2:=λx y H Q=>∃l b xs zs,x=.ref l/\y=.ref b/\SqL K H l xs/\SqL K H b zs/\xs.length+zs.length<=sizeLine/\∀p,H p=none->Q (.ref p) (upd H p (.lst (xs++zs)))
theorem aGh:OpR X (CN .Add) (aMa X.K):=by
 intro pins s ZV H x y v u Q I rx ry h;obtain⟨l,b,xs,zs,rfl,rfl,hH,hB,hz,q⟩:=h;cases rx;cases ry;obtain⟨its,r,pl,z⟩:=I.list hH;obtain⟨B,r2,q0,z2⟩:=I.list hB;obtain⟨⟨cls,dd,data,sl⟩,ho,hc,n,hd⟩:=pl.isList;obtain⟨⟨q2,W,U,q1⟩,M,G,n2,L⟩:=q0.isList;simp only at hc hd G L;subst hc hd G L;have e:its.toArray++B.toArray=(its++B).toArray:=by simp
 have hl:=r.length;have q3:=r2.length;refine FD ⟨_,ho,rfl⟩ ⟨_,M,rfl⟩ noFill_list_add seq_list_add PySem.F.slot_list_add PySem.F.entry_list_add (PySem.F.args_list_add_2 _ _) (list_addW l b its.toArray B.toArray n n2 dd W sl q1 (by rw[Aj,Aj];omega)) ⟨ho,M,?_⟩;rw[e];exact⟨.ref _,_,I.lnew (t':=s.toks) (r.append r2) (by rw[lA];omega),rfl,q _ I.fresh⟩
def aMb(K:Fg):R2:=λx y H Q=>∃l k xs,x=.ref l/\y=.int k/\SqL K H l xs/\-(2 ^ 63)<=k/\k<2 ^ 63/\xs.length*k.toNat<=sizeLine/\∀p,H p=none->Q (.ref p) (upd H p (.lst (Ae k.toNat xs).flatten))
theorem aCh(l:Addr)(items:Array Value)(n:Nat)(x:Int)(u:Tok)(I:Option Addr)(sl:Array (Option Value))(L:¬(!EY x)=true)(M:¬items.size*x.toNat>(2 ^ 63-1) / 8)(B:¬BA (items.size*x.toNat)=true) :
 KY (BX.«list.__mul__» ⟨[.ref l,.int x u],[]⟩) (λ_ R s=>s.heap.get? l=some { cls:=.type "list",dict:=I,data:=.seq items n,slots:=sl }/\R (.ok (.ret (AB s.heap.objs.size))) { s with heap:=s.heap.push { cls:=Eg "list",data:=Ja (GZ (λU W=>U++W) #[] (Ae (if items.isEmpty=true then 0 else x.toNat) items)) },toks:=s.toks }):=
 .of_wp λprog w A R s h=>by
  obtain⟨hp,g,d,tk,os⟩:=s;obtain⟨G,h⟩:=h;have hsz:=Kc B;have f1:=HZ;have f3:=FM
  wp_walk using wpAny_loadPart' G;refine wpAny_ite_false (Av (DN.mpr hsz)) ?_;wp_walk using wpAny_loadPart' G;exact⟨_,rfl,h⟩
theorem aCi(a:Int)(t:Tok)(l:Addr)(items:Array Value)(n:Nat)(B:Option Addr)(sl:Array (Option Value)) :
 KY (BX.«int.__rmul__» ⟨[.int a t,.ref l],[]⟩) (λ_ R s=>s.heap.get? l=some { cls:=.type "list",dict:=B,data:=.seq items n,slots:=sl }/\R (.ok (.ret Value.notImplemented)) s):=
 .of_wp λprog w A R s h=>by obtain⟨I,g,d,tk,os⟩:=s;obtain⟨G,h⟩:=h;wp_walk using wpAny_loadPart' G;exact⟨_,rfl,h⟩
theorem aGi:OpR X (CN .Mult) (aMb X.K):=by
 intro pins s Z H x y v u Q I rx ry h;obtain⟨l,k,xs,rfl,rfl,hH,h1,h2,hz,q⟩:=h;cases rx;obtain⟨t,rfl⟩:=ry;obtain⟨its,r,pl,z⟩:=I.list hH;obtain⟨⟨cls,dd,data,sl⟩,e,hc,n,hd⟩:=pl.isList;simp only at hc hd;subst hc hd;have hl:=r.length;have M:its.toArray.size*k.toNat<=sizeLine:=by rw[Aj,<-hl];exact hz
 have G:¬ its.toArray.size*k.toNat>(2 ^ 63-1) / 8:=by
  have:(sizeLine:Nat)<=(2 ^ 63-1) / 8:=by decide
  omega
 have L:¬ (!EY k)=true:=by rw[fitsIndex_both h1 h2];exact bN
 have B:¬ BA (its.toArray.size*k.toNat)=true:=by rw[wG M];exact bN
 have W:GZ (λx1 x2=>x1++x2) #[] (Ae (if its.toArray.isEmpty=true then 0 else k.toNat) its.toArray)=(Ae k.toNat its).flatten.toArray:=by
  have f0:∀m:Nat,GZ (λx1 x2=>x1++x2) #[] (Ae m its.toArray)=(Ae m its).flatten.toArray:=λm=>by have:=rP its m [];rw[Dg] at this;exact this
  rw[f0];cases its with
  | nil=>simp|cons a r'=>rw[if_neg (by simp)]
 refine wpAny_binaryOp_repeat_ref (T:= "list") (U:= "int") (by decide) ⟨_,e,rfl⟩ (λs'=>IY s' k t) noFill_list_mul PySem.F.fills_int_mul Gd repeat_list PySem.F.slot_int_index.lookup
  (Ei Gd (IY s k t) PySem.F.entry_int_rmul (PySem.F.args_int_rmul_2 _ _) (aCi k t l its.toArray n dd sl)
   ⟨e,rfl,⟨_,e,rfl⟩,Ei PySem.F.slot_list_mul ⟨_,e,rfl⟩ PySem.F.entry_list_mul (PySem.F.args_list_mul_2 _ _) (aCh l its.toArray n k t dd sl L G B) ⟨e,?_⟩⟩)
 rw[W];exact⟨.ref _,_,I.lnew (t':=s.toks) (r.rep k.toNat) (by rw[aFT,D3];exact hz),rfl,q _ I.fresh⟩
theorem aGj(x:Str):Str.rep x 1=x:=by unfold Str.rep;cases x;simp
theorem aCj(x:Str)(h:x.length=0)(k:Nat):Str.rep x k=x:=by
 have B:x.cps=#[]:=by unfold IX at h;exact Array.eq_empty_of_size_eq_zero h
 have go:∀k,(Ae k x.cps).foldl (·++·) #[]=#[]:=by
  intro k;rw[B]
  induction k with
  | zero=>rfl|succ k G=>rw[Bb,Bm];simpa using G
 unfold Str.rep;rw[go k];cases x;simp at B;rw[B]
theorem zS(x:Str)(k:Nat):(⟨(Ae k x.cps).foldl (·++·) #[]⟩:Str).length=x.length*k:=by
 have go:∀(k:Nat) (acc:Array Nat),((Ae k x.cps).foldl (·++·) acc).size=acc.size+x.cps.size*k:=by
  intro k
  induction k with
  | zero=>intro acc;simp|succ k B=>intro acc;rw[Bb,Bm,B,Fm,EF];omega
 show((Ae k x.cps).foldl (·++·) #[]).size=x.cps.size*k;rw[go];simp
theorem aGk:OpR X (CN .Mult) (λx y H Q=>∃a k,x=.str a/\y=.int k/\aH k=true/\a.length*k.toNat<=lim/\Q (.str (Str.rep a k.toNat)) H):=by
 intro pins s ZV H x y v u Q I rx ry h;obtain⟨a,k,rfl,rfl,G,U,q⟩:=h;obtain⟨t,rfl⟩:=rx;obtain⟨t',rfl⟩:=ry;unfold aH at G;simp only[bA,AN] at G;have h1:-(2 ^ 62:Int)<=k:=G.1;have h2:k<(2 ^ 62:Int):=G.2;have W:decide (k < -(2 ^ 63:Int))=false:=Av (by omega);have e2:decide (k ≥ (2 ^ 63:Int))=false:=Av (by omega);have B:∀z:Str,z=Str.rep a k.toNat->∀tk,EP X pins ZV Q (.str z tk) { s with toks:=s.toks+1 }:=λz e tk=>by subst e;exact⟨.str _,H,I.tok _,⟨_,rfl⟩,q⟩
 refine P.mul_str (by rw[W,e2];rfl) (λn1 n2 z=>?_) (λn1 n2=>?_) ?_;have k1:1<=k:=by omega
 have z1:(a.length:Int)*k<=(lim:Int):=by
  have M:((k.toNat:Nat):Int)=k:=by omega
  have:=Int.ofNat_le.mpr U;rw[DL] at this;rw[<-M]
  exact_mod_cast this
 have z2:(2 ^ 63-1:Int) / k<a.length:=z;have z3:(2 ^ 63-1:Int)<a.length*k:=Int.lt_mul_of_ediv_lt (by omega) z2;have z4:(lim:Int)=1000000:=rfl;omega;unfold K0;have:=dZ U;exact Av (by omega);split;rename_i hn;have:k.toNat=0:=by omega
 refine⟨by decide,?_⟩;exact B _ (by rw[this];rfl) _;split;rename_i hn L;have hz:Str.rep a k.toNat=a:=by rcases Bool.or_eq_true_iff.mp L with z|z;have:k=1:=eq_of_beq z;subst this;exact aGj a;exact aCj a (eq_of_beq z) _
 exact⟨.str a,H,I,⟨_,rfl⟩,by rw[hz] at q;exact q⟩;refine⟨?_,B _ rfl _⟩;have:=dZ U;rw[zS];exact this
def aIX(K:Fg):R2:=λx y H Q=>∃a b xs ys,x=.ref a/\y=.ref b/\SqT K H a xs/\SqT K H b ys/\xs.length+ys.length<=sizeLine /\
 (xs=[]->Q (.ref b) H)/\(xs≠[]->ys=[]->Q (.ref a) H)/\(xs≠[]->ys≠[]->∀p,H p=none->Q (.ref p) (upd H p (.tup (xs++ys))))
theorem aDQ:OpR X (CN .Add) (aIX X.K):=by
 intro pins s Z H x y v u Q I rx ry h;obtain⟨a,b,xs,ys,rfl,rfl,ha,hb,hz,q0,q1,q2⟩:=h;by_cases M:xs=[]
 cases rx;cases ry;obtain⟨its,r1,p1,_⟩:=I.tuple ha;obtain⟨U,r2,p2,_⟩:=I.tuple hb;obtain⟨⟨cls,dd,data,sl⟩,ho,hc,n,hd⟩:=id p1;obtain⟨⟨q5,q3,W,q4⟩,L,B,n2,G⟩:=id p2;simp only at hc hd B G;subst hc hd B G;have hi:its=[]:=r1.nil_iff.mpr M;exact FD ⟨_,ho,rfl⟩ ⟨_,L,rfl⟩ F2 GJ DV DP (DE _ _)
  (tuple_addW0 a b its.toArray U.toArray n n2 dd q3 sl q4 (by simp[hi])) ⟨ho,L,⟨.ref b,H,I,rfl,q0 M⟩⟩
 exact aFP pins s Z H _ _ v u Q I rx ry ⟨a,b,xs,ys,rfl,rfl,ha,hb,M,hz,q1 M,q2 M⟩
theorem wV{o:Operator}(I:Inv X pins ZV H s)(S:Sx X.K RT Y old Z ZV H)(rx:bJ ux vx)(ry:bJ uy vy)(M:Rv X.K RT Y old Z ZV H x ux)(U:Rv X.K RT Y old Z ZV H y uy)
 (q4:x.fr=true->∃a xs,ux=.ref a/\H a=some (.lst xs)) (h:RE (opD o x y) (Wn X RT Y old Z ZV H Q)):wpAny (A1 X.prog X.w) X.A (CN o vx vy) (EP X pins ZV Q) X.xe s:=by
 have t:=Inv.tk I;have go:∀{f:Value->Value->KR Value} {r:R2},OpR X f r->(r ux uy H λv H'=>Tk X.K H'->Q v H')->wpAny (A1 X.prog X.w) X.A (f vx vy) (EP X pins ZV Q) X.xe s:=λhr q=>thn (hr pins s ZV H ux uy vx vy _ I rx ry q) λu s' z=>EP.tk z;cases o with
 | Add=>have h:RE (aFV x y) (Wn X RT Y old Z ZV H Q):=h;unfold aFV at h;split at h;rename_i i j B G;exact go aIu ⟨i,j,M.int B,U.int G,λ_=>h.val t λ_=>rfl⟩;rename_i i j B G;obtain⟨c,h⟩:=h.iff;exact go zA ⟨i,j,M.str B,U.str G,dZ (of_decide_eq_true c),λ_=>Wn.val h t λ_=>rfl⟩;rename_i as bs B G;obtain⟨c,h⟩:=h.iff;obtain⟨a,xs,e1,q1,r1⟩:=M.tup B;obtain⟨b,ys,e2,q2,r2⟩:=U.tup G;have l1:=r1.length;have l2:=r2.length;have c':=of_decide_eq_true c;have q0:Reps X.K H (exV RT Y old Z ZV (x.pa||y.pa) (x.al++y.al)) as xs:=r1.weak λa z=>z.mono (λL=>by rw[L];rfl) λj W=>AE _ W;have q3:Reps X.K H (exV RT Y old Z ZV (x.pa||y.pa) (x.al++y.al)) bs ys:=r2.weak λa z=>z.mono (λL=>by rw[L,C8]) λj W=>A5 _ W;refine go aDQ ⟨a,b,xs,ys,e1,e2,q1,q2,dZ (by omega),λz t'=>?_,λz z' t'=>?_,λz z' p L t'=>?_⟩;subst z;have:as=[]:=DR.mp (by simpa using l1);subst this;exact h _ _ t' (Ro.plain (aI.refl H) rfl ⟨b,ys,rfl,q2,q3⟩);subst z';have:bs=[]:=DR.mp (by simpa using l2);subst this;exact h _ _ t' (Ro.plain (aI.refl H) rfl ⟨a,xs,rfl,q1,by rw[AH];exact q0⟩);exact h _ _ t' (Ro.tup L rfl rfl (q0.append q3));rename_i as bs B G;obtain⟨c,h⟩:=h.iff;obtain⟨a,xs,e1,q1,_,r1⟩:=M.lst B;obtain⟨b,ys,e2,q2,_,r2⟩:=U.lst G;have l1:=r1.length;have l2:=r2.length;have c':=of_decide_eq_true c;refine go aGh ⟨a,b,xs,ys,e1,e2,q1,q2,dZ (by omega),λp L t'=>h _ _ t' (Ro.fresh L t' rfl rfl S ?_)⟩;refine Reps.append ((eH r1).weak λa z=>z.mono (λL=>?_) λj W=>AE _ W) ((eH r2).weak λa z=>z.mono (λL=>?_) λj W=>A5 _ W);show(_||_)=true;rw[L];rfl;show(_||_)=true;rw[L,C8];exact h.elim|Mult=>have h:RE (aBZ x y) (Wn X RT Y old Z ZV H Q):=h;unfold aBZ at h;split at h;rename_i i j B G;obtain⟨c,h⟩:=h.iff;refine go aIw ⟨i,j,M.int B,U.int G,?_,λ_=>Wn.val h t λ_=>rfl⟩;simp only[rT,C3,bA,AN] at c;exact c;rename_i i j B G;obtain⟨c,h⟩:=h.iff;simp only[bA,AN] at c;exact go aGk ⟨i,j,M.str B,U.int G,c.1,c.2,λ_=>Wn.val h t λ_=>rfl⟩;rename_i as k B G;obtain⟨c,h⟩:=h.iff;simp only[bA,AN] at c;obtain⟨a,xs,e1,q1,_,r1⟩:=M.lst B;have l1:=r1.length;have hk:=c.1;unfold aH at hk;simp only[bA,AN] at hk;have q5:=hk.1;have q6:=hk.2;refine go aGi ⟨a,k,xs,e1,U.int G,q1,by omega,by omega,dZ (by rw[<-l1];exact c.2),λp L t'=>h _ _ t' (Ro.fresh L t' rfl rfl S ?_)⟩;exact Reps.flat (eH r1) _;exact h.elim|Sub=>dsimp only[opD,tX] at h;split at h;rename_i i j B G;exact go aIv ⟨i,j,M.int B,U.int G,λ_=>h.val t λ_=>rfl⟩;exact h.elim|FloorDiv=>dsimp only[opD,tX] at h;split at h;rename_i i j B G;obtain⟨c,h⟩:=h.iff;refine go aFH ⟨i,j,M.int B,U.int G,?_,λ_=>Wn.val h t λ_=>rfl⟩;simp only[wH,bA,AN] at c;exact c;exact h.elim|Mod=>dsimp only[opD,tX] at h;split at h;rename_i i j B G;obtain⟨c,h⟩:=h.iff;exact go aIx ⟨i,j,M.int B,U.int G,of_decide_eq_true c,λ_=>Wn.val h t λ_=>rfl⟩;exact h.elim|Pow=>dsimp only[opD,tX] at h;split at h;rename_i i j B G;obtain⟨c,h⟩:=h.iff;refine go aIy ⟨i,j,M.int B,U.int G,?_,λ_=>Wn.val h t λ_=>rfl⟩;simp only[aHD,bA,AN] at c;exact⟨c.1.1,by omega,c.2⟩;exact h.elim|_=>exact h.elim
end
end Hp
namespace Hp
open PySem PySem.Spec PyProof.Rows L2 PySem.SeqAt
def iB(n:Nat)(ds es:List D)(j:Nat):Bool:=match ds[j]?,es[j]? with|some x,some y=>(eqF n x y).getD false|_,_=>false
theorem aAU:∀{n:Nat} {ds es:List D} {k:Bool},eF n ds es=some k->∀{j:Nat} {x y:D},ds[j]? = some x->es[j]? = some y->∃b,eqF n x y=some b
 | n,[],es,k,h,j,x,y,e1,e2=>by simp at e1|n,d::ds,[],k,h,j,x,y,e1,e2=>by simp at e2|n,d::ds,e::es,k,h,j,x,y,e1,e2=>by
  rw[eF] at h;cases B:eqF n d e with
  | none=>rw[B] at h;simp at h|some b=>
   cases G:eF n ds es with
   | none=>rw[B,G] at h;simp at h|some I=>
    cases j with
    | zero=>simp at e1 e2;subst e1 e2;exact⟨b,B⟩|succ j=>exact aAU G (by simpa using e1) (by simpa using e2)
theorem pG:∀{n:Nat} {ds es:List D} {k:Bool},eF n ds es=some k->k=((A9 (min ds.length es.length)).all (iB n ds es)&&ds.length==es.length)
 | n,[],[],k,h=>by simp[eF] at h;simp[<-h]|n,[],e::es,k,h=>by simp[eF] at h;simp[<-h]|n,d::ds,[],k,h=>by simp[eF] at h;simp[<-h]|n,d::ds,e::es,k,h=>by
  rw[eF] at h;cases B:eqF n d e with
  | none=>rw[B] at h;simp at h|some b=>
   cases I:eF n ds es with
   | none=>rw[B,I] at h;simp at h|some L=>
    rw[B,I] at h;have U:(b&&L)=k:=An h;have ih:=pG I;have M:iB n (d::ds) (e::es) 0=b:=by simp[iB,B]
    have G:∀j,iB n (d::ds) (e::es) (j+1)=iB n ds es j:=λj=>by simp[iB]
    have W:min (d::ds).length (e::es).length=min ds.length es.length+1:=by simp only[lC];omega
    rw[W,List.range_succ_eq_map,DF,M,List.all_map];have:(iB n (d::ds) (e::es))∘Nat.succ=iB n ds es:=funext λj=>G j;rw[this,<-U,ih];simp[Bool.and_assoc]
section
variable {X:Cx} {ZV:L2.St} {H:Hp} {s:Ad} {pins:List (Addr×Obj)}
theorem _root_.L2.Inv.lt_ne(I:L2.Inv X pins ZV H s)(G:SqL X.K H a xs)(L:SqT X.K H a ys):False:=by obtain⟨its,_,pl,_⟩:=I.list G;obtain⟨B,_,pt,_⟩:=I.tuple L;exact ne_of_list_tuple pl.isList (show s.heap.IsTuple a B.toArray from pt) rfl
theorem aDR(h:eqF (n+1) (.dic ds) e=some k):False:=by unfold eqF at h;split at h <;> first|(cases h;done)|(rename_i B G;cases B;done)|(rename_i B;cases B;done)
mutual
theorem uC(I:L2.Inv X pins ZV H s):∀(n:Nat) (d e:D) (u:V) (k:Bool) (ex G:Addr->Prop),Rep X.K H ex d u->Rep X.K H G e u->eqF n d e=some k->k=true
 | 0,d,e,u,k,_,_,_,_,h=>by simp[eqF] at h|n+1,.non,e,u,k,_,_,h1,h2,h=>by
  rw[show u=.non from h1] at h2;cases e with
  | non=>simpa[eqF] using h.symm|tup ds=>obtain⟨a,xs,z,_⟩:=h2;cases z|lst ds=>obtain⟨a,xs,z,_⟩:=h2;cases z|dic ds=>obtain⟨a,xs,z,_⟩:=h2;cases z|err _ _=>exact h2.elim|bl b=>cases(show V.non=.bl b from h2)|int b=>cases(show V.non=.int b from h2)|str b=>cases(show V.non=.str b from h2)
 | n+1,.bl b,e,u,k,_,_,h1,h2,h=>by
  rw[show u=.bl b from h1] at h2;cases e with
  | bl B=>cases(show V.bl b=.bl B from h2);simpa[eqF] using h.symm|tup ds=>obtain⟨a,xs,z,_⟩:=h2;cases z|lst ds=>obtain⟨a,xs,z,_⟩:=h2;cases z|dic ds=>obtain⟨a,xs,z,_⟩:=h2;cases z|err _ _=>exact h2.elim|non=>cases(show V.bl b=.non from h2)|int B=>cases(show V.bl b=.int B from h2)|str B=>cases(show V.bl b=.str B from h2)
 | n+1,.int b,e,u,k,_,_,h1,h2,h=>by
  rw[show u=.int b from h1] at h2;cases e with
  | int B=>cases(show V.int b=.int B from h2);simpa[eqF] using h.symm|tup ds=>obtain⟨a,xs,z,_⟩:=h2;cases z|lst ds=>obtain⟨a,xs,z,_⟩:=h2;cases z|dic ds=>obtain⟨a,xs,z,_⟩:=h2;cases z|err _ _=>exact h2.elim|non=>cases(show V.int b=.non from h2)|bl B=>cases(show V.int b=.bl B from h2)|str B=>cases(show V.int b=.str B from h2)
 | n+1,.str b,e,u,k,_,_,h1,h2,h=>by
  rw[show u=.str b from h1] at h2;cases e with
  | str B=>cases(show V.str b=.str B from h2);simpa[eqF] using h.symm|tup ds=>obtain⟨a,xs,z,_⟩:=h2;cases z|lst ds=>obtain⟨a,xs,z,_⟩:=h2;cases z|dic ds=>obtain⟨a,xs,z,_⟩:=h2;cases z|err _ _=>exact h2.elim|non=>cases(show V.str b=.non from h2)|bl B=>cases(show V.str b=.bl B from h2)|int B=>cases(show V.str b=.int B from h2)
 | n+1,.tup ds,e,u,k,ex,G,h1,h2,h=>by
  obtain⟨a,xs,z,q,r⟩:=h1;subst z;cases e with
  | tup es=>obtain⟨W,U,z,L,M⟩:=h2;cases z;have:xs=U:=I.tuple_inj q L;subst this;exact eqs_same I n ds es xs k ex G r M (by simpa[eqF] using h)|lst es=>obtain⟨W,U,z,L,_,M⟩:=h2;cases z;exact(I.lt_ne L q).elim|dic ds=>simp[eqF] at h|err _ _=>exact h2.elim|non=>cases(show V.ref a=.non from h2)|bl B=>cases(show V.ref a=.bl B from h2)|int B=>cases(show V.ref a=.int B from h2)|str B=>cases(show V.ref a=.str B from h2)
 | n+1,.lst ds,e,u,k,ex,G,h1,h2,h=>by
  obtain⟨a,xs,z,q,_,r⟩:=h1;subst z;cases e with
  | lst es=>obtain⟨W,U,z,L,_,M⟩:=h2;cases z;have:xs=U:=I.list_inj q L;subst this;have hl:ds.length=es.length:=r.length.trans M.length.symm;exact eqs_same I n ds es xs k ex G r M (by simpa[eqF,hl] using h)|tup es=>obtain⟨W,U,z,L,M⟩:=h2;cases z;exact(I.lt_ne q L).elim|dic ds=>simp[eqF] at h|err _ _=>exact h2.elim|non=>cases(show V.ref a=.non from h2)|bl B=>cases(show V.ref a=.bl B from h2)|int B=>cases(show V.ref a=.int B from h2)|str B=>cases(show V.ref a=.str B from h2)
 | n+1,.dic ds,e,u,k,ex,G,h1,h2,h=>by exact(aDR h).elim|n+1,.err _ _,e,u,k,ex,G,h1,h2,h=>h1.elim
theorem eqs_same(I:L2.Inv X pins ZV H s):∀(n:Nat) (ds es:List D) (us:List V) (k:Bool) (ex B:Addr->Prop),Reps X.K H ex ds us->Reps X.K H B es us->eF n ds es=some k->k=true
 | n,[],[],us,k,_,_,h1,h2,h=>by simpa[eF] using h.symm|n,[],e::es,us,k,_,_,h1,h2,h=>by obtain⟨x,r,z,_⟩:=h2;rw[show us=[] from h1] at z;cases z|n,d::ds,[],us,k,_,_,h1,h2,h=>by obtain⟨x,r,z,_⟩:=h1;rw[show us=[] from h2] at z;cases z|n,d::ds,e::es,us,k,ex,B,h1,h2,h=>by
  obtain⟨x,r,z,U,b1⟩:=h1;obtain⟨x',r',M,W,b2⟩:=h2;rw[z] at M;cases M;rw[eF] at h;cases G:eqF n d e with
  | none=>rw[G] at h;simp at h|some b=>
   cases L:eF n ds es with
   | none=>rw[G,L] at h;simp at h|some b'=>rw[G,L] at h;have e1:=uC I n d e x b ex B U W G;have e2:=eqs_same I n ds es r b' ex B b1 b2 L;subst e1 e2;simpa using h.symm
end
def Eq3(A:Bh)(s:Ad)(v z:Value)(k:Bool):Prop:=EqAt A s v z k/\RcAt A s v z k/\RcNeAt A s v z (!k)
theorem aAV{xs:List V}{us:List Value}(r:aS xs us)(h:j<us.toArray.size):∃x,xs[j]? = some x/\bJ x us.toArray[j]:=by
 have I:=r.length;have B:j<xs.length:=by rw[Aj] at h;omega
 obtain⟨u,e,q⟩:=r.get (Af B);refine⟨xs[j],Af B,?_⟩;have:us.toArray[j]=u:=by
  have G:us[j]? = some us.toArray[j]:=by simp[Af (show j<us.length by simpa using h)]
  rw[G] at e;exact An e
 rw[this];exact q
theorem aCk(A:Bh):A.in1.units=A.units+1:=rfl
theorem aGl(I:L2.Inv X pins ZV H s):∀(n:Nat) (A:Bh) (d e:D) (u w:V) (v z:Value) (k:Bool) (ex q3:Addr->Prop),A.units+n<C5->Rep X.K H ex d u->Rep X.K H q3 e w->bJ u v->bJ w z->eqF n d e=some k->Eq3 A s v z k:=by
 intro n
 induction n with
 | zero=>intro A d e u w v z k ex q3 _ _ _ _ _ h;simp[eqF] at h|succ n ih=>
  intro A d e u w v z k ex q3 hA h1 M r1 L h;have G:A.units<C5:=by omega
  have items:∀{ds es:List D} {xs ys:List V} {its U:List Value} {k:Bool},Reps X.K H ex ds xs->Reps X.K H q3 es ys->aS xs its->aS ys U->eF n ds es=some k ->
   ∀j (_:j<its.toArray.size) (_:j<U.toArray.size),EqAt A.in1 s its.toArray[j] U.toArray[j] (iB n ds es j):=by
   intro ds es xs ys its U k q1 q2 v1 v2 hk j w5 w6;obtain⟨x,w3,rx⟩:=aAV v1 w5;obtain⟨y,w4,ry⟩:=aAV v2 w6;obtain⟨d',ed,rd⟩:=q1.get' w3;obtain⟨e',ee,re⟩:=q2.get' w4;obtain⟨b,hb⟩:=aAU hk ed ee;have hj:iB n ds es j=b:=by simp[iB,ed,ee,hb]
   rw[hj];exact(ih A.in1 d' e' x y _ _ b ex q3 (by rw[aCk];omega) rd re rx ry hb).1
  cases d with
  | err _ _=>exact h1.elim|dic ds=>exact(aDR h).elim|non=>
   rw[show u=.non from h1] at r1;cases r1;cases e with
   | err _ _=>exact M.elim|dic _=>simp[eqF] at h|non=>rw[show w=.non from M] at L;cases L;simp[eqF] at h;subst h;exact⟨EqAt.same _,RcAt.none_none,RcNeAt.none_none⟩|bl b=>rw[show w=.bl b from M] at L;cases L;simp[eqF] at h;subst h;exact⟨EqAt.none_bool _,RcAt.none_bool _,RcNeAt.none_bool _⟩|int b=>rw[show w=.int b from M] at L;obtain⟨t,rfl⟩:=L;simp[eqF] at h;subst h;exact⟨EqAt.none_int _ _,RcAt.none_int _ _,RcNeAt.none_int _ _⟩|str b=>rw[show w=.str b from M] at L;obtain⟨t,rfl⟩:=L;simp[eqF] at h;subst h;exact⟨EqAt.none_str _ _,RcAt.none_str _ _,RcNeAt.none_str _ _⟩|tup es=>obtain⟨b,ys,rfl,q,r⟩:=M;cases L;obtain⟨its,_,p,_⟩:=I.tuple q;simp[eqF] at h;subst h;exact⟨EqAt.none_tuple (show s.heap.IsTuple b its.toArray from p) G,RcAt.none_tuple (show s.heap.IsTuple b its.toArray from p) G,RcNeAt.none_tuple (show s.heap.IsTuple b its.toArray from p) G⟩|lst es=>obtain⟨b,ys,rfl,q,_,r⟩:=M;cases L;obtain⟨its,_,p,_⟩:=I.list q;simp[eqF] at h;subst h;exact⟨EqAt.none_list p.isList G,RcAt.none_list p.isList G,RcNeAt.none_list p.isList G⟩
  | bl a=>
   rw[show u=.bl a from h1] at r1;cases r1;cases e with
   | err _ _=>exact M.elim|dic _=>simp[eqF] at h|non=>rw[show w=.non from M] at L;cases L;simp[eqF] at h;subst h;exact⟨EqAt.bool_none _,RcAt.bool_none _,RcNeAt.bool_none _⟩|bl b=>rw[show w=.bl b from M] at L;cases L;simp only[eqF,C9] at h;subst h;exact⟨EqAt.bool_bool _ _,RcAt.bool_bool _ _,RcNeAt.bool_bool _ _⟩|int b=>rw[show w=.int b from M] at L;obtain⟨t,rfl⟩:=L;simp only[eqF,C9] at h;subst h;exact⟨EqAt.bool_int _ _ _,RcAt.bool_int _ _ _,RcNeAt.bool_int _ _ _⟩|str b=>rw[show w=.str b from M] at L;obtain⟨t,rfl⟩:=L;simp[eqF] at h;subst h;exact⟨EqAt.bool_str _ _ _,RcAt.bool_str _ _ _,RcNeAt.bool_str _ _ _⟩|tup es=>obtain⟨b,ys,rfl,q,r⟩:=M;cases L;obtain⟨its,_,p,_⟩:=I.tuple q;simp[eqF] at h;subst h;exact⟨EqAt.bool_tuple _ (show s.heap.IsTuple b its.toArray from p) G,RcAt.bool_tuple _ (show s.heap.IsTuple b its.toArray from p) G,RcNeAt.bool_tuple _ (show s.heap.IsTuple b its.toArray from p) G⟩|lst es=>obtain⟨b,ys,rfl,q,_,r⟩:=M;cases L;obtain⟨its,_,p,_⟩:=I.list q;simp[eqF] at h;subst h;exact⟨EqAt.bool_list _ p.isList G,RcAt.bool_list _ p.isList G,RcNeAt.bool_list _ p.isList G⟩
  | int a=>
   rw[show u=.int a from h1] at r1;obtain⟨t1,rfl⟩:=r1;cases e with
   | err _ _=>exact M.elim|dic _=>simp[eqF] at h|non=>rw[show w=.non from M] at L;cases L;simp[eqF] at h;subst h;exact⟨EqAt.int_none _ _,RcAt.int_none _ _,RcNeAt.int_none _ _⟩|bl b=>rw[show w=.bl b from M] at L;cases L;simp only[eqF,C9] at h;subst h;exact⟨EqAt.int_bool _ _ _,RcAt.int_bool _ _ _,RcNeAt.int_bool _ _ _⟩|int b=>rw[show w=.int b from M] at L;obtain⟨t,rfl⟩:=L;simp only[eqF,C9] at h;subst h;exact⟨EqAt.int_int _ _ _ _,RcAt.int_int _ _ _ _,RcNeAt.int_int _ _ _ _⟩|str b=>rw[show w=.str b from M] at L;obtain⟨t,rfl⟩:=L;simp[eqF] at h;subst h;exact⟨EqAt.int_str _ _ _ _,RcAt.int_str _ _ _ _,RcNeAt.int_str _ _ _ _⟩|tup es=>obtain⟨b,ys,rfl,q,r⟩:=M;cases L;obtain⟨its,_,p,_⟩:=I.tuple q;simp[eqF] at h;subst h;exact⟨EqAt.int_tuple _ _ (show s.heap.IsTuple b its.toArray from p) G,RcAt.int_tuple _ _ (show s.heap.IsTuple b its.toArray from p) G,RcNeAt.int_tuple _ _ (show s.heap.IsTuple b its.toArray from p) G⟩|lst es=>obtain⟨b,ys,rfl,q,_,r⟩:=M;cases L;obtain⟨its,_,p,_⟩:=I.list q;simp[eqF] at h;subst h;exact⟨EqAt.int_list _ _ p.isList G,RcAt.int_list _ _ p.isList G,RcNeAt.int_list _ _ p.isList G⟩
  | str a=>
   rw[show u=.str a from h1] at r1;obtain⟨t1,rfl⟩:=r1;cases e with
   | err _ _=>exact M.elim|dic _=>simp[eqF] at h|non=>rw[show w=.non from M] at L;cases L;simp[eqF] at h;subst h;exact⟨EqAt.str_none _ _,RcAt.str_none _ _,RcNeAt.str_none _ _⟩|bl b=>rw[show w=.bl b from M] at L;cases L;simp[eqF] at h;subst h;exact⟨EqAt.str_bool _ _ _,RcAt.str_bool _ _ _,RcNeAt.str_bool _ _ _⟩|int b=>rw[show w=.int b from M] at L;obtain⟨t,rfl⟩:=L;simp[eqF] at h;subst h;exact⟨EqAt.str_int _ _ _ _,RcAt.str_int _ _ _ _,RcNeAt.str_int _ _ _ _⟩|str b=>rw[show w=.str b from M] at L;obtain⟨t,rfl⟩:=L;simp only[eqF,C9] at h;subst h;exact⟨EqAt.str_str _ _ _ _,RcAt.str_str _ _ _ _,RcNeAt.str_str _ _ _ _⟩|tup es=>obtain⟨b,ys,rfl,q,r⟩:=M;cases L;obtain⟨its,_,p,_⟩:=I.tuple q;simp[eqF] at h;subst h;exact⟨EqAt.str_tuple _ _ (show s.heap.IsTuple b its.toArray from p) G,RcAt.str_tuple _ _ (show s.heap.IsTuple b its.toArray from p) G,RcNeAt.str_tuple _ _ (show s.heap.IsTuple b its.toArray from p) G⟩|lst es=>obtain⟨b,ys,rfl,q,_,r⟩:=M;cases L;obtain⟨its,_,p,_⟩:=I.list q;simp[eqF] at h;subst h;exact⟨EqAt.str_list _ _ p.isList G,RcAt.str_list _ _ p.isList G,RcNeAt.str_list _ _ p.isList G⟩
  | tup ds=>
   have q7:=h1;obtain⟨a,xs,rfl,q1,q4⟩:=h1;cases r1;obtain⟨q0,v1,p1,_⟩:=I.tuple q1;have B:s.heap.IsTuple a q0.toArray:=p1;cases e with
   | err _ _=>exact M.elim|dic _=>simp[eqF] at h|non=>rw[show w=.non from M] at L;cases L;simp[eqF] at h;subst h;exact⟨EqAt.tuple_none B G,RcAt.tuple_none B G,RcNeAt.tuple_none B G⟩|bl b=>rw[show w=.bl b from M] at L;cases L;simp[eqF] at h;subst h;exact⟨EqAt.tuple_bool _ B G,RcAt.tuple_bool _ B G,RcNeAt.tuple_bool _ B G⟩|int b=>rw[show w=.int b from M] at L;obtain⟨t,rfl⟩:=L;simp[eqF] at h;subst h;exact⟨EqAt.tuple_int _ _ B G,RcAt.tuple_int _ _ B G,RcNeAt.tuple_int _ _ B G⟩|str b=>rw[show w=.str b from M] at L;obtain⟨t,rfl⟩:=L;simp[eqF] at h;subst h;exact⟨EqAt.tuple_str _ _ B G,RcAt.tuple_str _ _ B G,RcNeAt.tuple_str _ _ B G⟩|tup es=>
    have q8:=M;obtain⟨b,ys,rfl,q2,W⟩:=M;cases L;obtain⟨U,v2,p2,_⟩:=I.tuple q2;have hk:eF n ds es=some k:=by simpa[eqF] using h
    have hv:=pG hk;have l1:q0.toArray.size=ds.length:=by rw[Aj,<-v1.length,q4.length]
    have l2:U.toArray.size=es.length:=by rw[Aj,<-v2.length,W.length]
    have rc:RcAt A s (.ref a) (.ref b) k:=by rw[hv,<-l1,<-l2];exact RcAt.tuples B (show s.heap.IsTuple b U.toArray from p2) G (items q4 W v1 v2 hk)
    have rn:RcNeAt A s (.ref a) (.ref b) (!k):=by rw[hv,<-l1,<-l2];exact RcNeAt.tuples B (show s.heap.IsTuple b U.toArray from p2) G (items q4 W v1 v2 hk)
    refine⟨?_,rc,rn⟩;by_cases q6:a=b;subst q6;have:=uC I (n+1) (.tup ds) (.tup es) (.ref a) k ex q3 q7 q8 h;subst this;exact EqAt.same _;exact EqAt.of_refs q6 rc
   | lst es=>obtain⟨b,ys,rfl,q2,_,W⟩:=M;cases L;obtain⟨U,v2,p2,_⟩:=I.list q2;simp[eqF] at h;subst h;exact⟨EqAt.tuple_list B p2.isList G,RcAt.tuple_list B p2.isList G,RcNeAt.tuple_list B p2.isList G⟩
  | lst ds=>
   have q7:=h1;obtain⟨a,xs,rfl,q1,_,q4⟩:=h1;cases r1;obtain⟨q0,v1,p1,_⟩:=I.list q1;have B:=p1.isList;cases e with
   | err _ _=>exact M.elim|dic _=>simp[eqF] at h|non=>rw[show w=.non from M] at L;cases L;simp[eqF] at h;subst h;exact⟨EqAt.list_none B G,RcAt.list_none B G,RcNeAt.list_none B G⟩|bl b=>rw[show w=.bl b from M] at L;cases L;simp[eqF] at h;subst h;exact⟨EqAt.list_bool _ B G,RcAt.list_bool _ B G,RcNeAt.list_bool _ B G⟩|int b=>rw[show w=.int b from M] at L;obtain⟨t,rfl⟩:=L;simp[eqF] at h;subst h;exact⟨EqAt.list_int _ _ B G,RcAt.list_int _ _ B G,RcNeAt.list_int _ _ B G⟩|str b=>rw[show w=.str b from M] at L;obtain⟨t,rfl⟩:=L;simp[eqF] at h;subst h;exact⟨EqAt.list_str _ _ B G,RcAt.list_str _ _ B G,RcNeAt.list_str _ _ B G⟩|lst es=>
    have q8:=M;obtain⟨b,ys,rfl,q2,_,W⟩:=M;cases L;obtain⟨U,v2,p2,_⟩:=I.list q2;have l1:q0.toArray.size=ds.length:=by rw[Aj,<-v1.length,q4.length]
    have l2:U.toArray.size=es.length:=by rw[Aj,<-v2.length,W.length]
    have q5:RcAt A s (.ref a) (.ref b) k/\RcNeAt A s (.ref a) (.ref b) (!k):=by
     by_cases hl:ds.length=es.length;have hk:eF n ds es=some k:=by simpa[eqF,hl] using h
     have hv:=pG hk;rw[<-hl,Nat.min_self,beq_self_eq_true,DG,<-l1] at hv;rw[hv];exact⟨RcAt.lists B p2.isList (by rw[l1,l2,hl]) G (items q4 W v1 v2 hk),RcNeAt.lists B p2.isList (by rw[l1,l2,hl]) G (items q4 W v1 v2 hk)⟩;have hk:k=false:=by simpa[eqF,hl] using h.symm
     subst hk;have hz:(q0.toArray.size != U.toArray.size)=true:=by rw[l1,l2];simpa using hl
     exact⟨RcAt.lists_lengths B p2.isList hz G,RcNeAt.lists_lengths B p2.isList hz G⟩
    refine⟨?_,q5.1,q5.2⟩;by_cases q6:a=b;subst q6;have:=uC I (n+1) (.lst ds) (.lst es) (.ref a) k ex q3 q7 q8 h;subst this;exact EqAt.same _;exact EqAt.of_refs q6 q5.1
   | tup es=>obtain⟨b,ys,rfl,q2,W⟩:=M;cases L;obtain⟨U,v2,p2,_⟩:=I.tuple q2;have q9:s.heap.IsTuple b U.toArray:=p2;simp[eqF] at h;subst h;exact⟨EqAt.list_tuple B q9 G,RcAt.list_tuple B q9 G,RcNeAt.list_tuple B q9 G⟩
end
section
variable {X:Cx} {H:Hp}
theorem nL:∀{ds:List D} {ns:List Int} {xs:List V} {ex:Addr->Prop},dC ds=some ns->Reps X.K H ex ds xs->xs=ns.map V.int
 | [],ns,xs,ex,h,r=>by simp[dC] at h;subst h;exact r|d::ds,ns,xs,ex,h,r=>by
  obtain⟨x,L,z,B,G⟩:=r;cases d with
  | int a=>
   rw[dC] at h;cases q:dC ds with
   | none=>rw[q] at h;cases h|some I=>rw[q] at h;cases h;rw[z,show x=.int a from B,nL q G];rfl
  | _=>simp[dC] at h
end
section
variable {X:Cx} {RT Y old:Addr->Prop} {Z:Sg} {ZV:L2.St} {H:Hp} {s:Ad} {pins:List (Addr×Obj)} {Q:VK} {ux uy:V} {vx vy:Value} {x y:Vl}
theorem aCl(I:L2.Inv X pins ZV H s)(hA:X.A.units+200<C5)(rx:bJ ux vx)(ry:bJ uy vy)(B:Rv X.K RT Y old Z ZV2 H x ux)(M:Rv X.K RT Y old Z ZV2 H y uy)
 (h:bY o x.d y.d=some k) (q:Q (.bl k) H):wpAny (A1 X.prog X.w) X.A (BR o vx vy) (EP X pins ZV Q) X.xe s:=by
 have hu:X.A.units<C5:=by omega
 have U:EP X pins ZV Q (.bool k) s:=⟨.bl k,H,I,rfl,q⟩
 have hD:tW=120:=rfl;have go:∀{f:Value->Value->KR Value} {r:R2},OpR X f r->r ux uy H Q->wpAny (A1 X.prog X.w) X.A (f vx vy) (EP X pins ZV Q) X.xe s:=λhr q=>hr pins s ZV H ux uy vx vy Q I rx ry q;have e3:∀{b:Bool},eqD x.d y.d=some b->Eq3 X.A s vx vy b:=λ{b} hb=>aGl I tW X.A x.d y.d ux uy vx vy b _ _ (by omega) B M rx ry hb;cases o with
 | Eq=>exact(e3 h).2.1 X.prog X.w X.xe _ U|NotEq=>simp only[bY,Bx] at h;obtain⟨b,hb,e⟩:=h;subst e;exact(e3 hb).2.2 X.prog X.w X.xe _ U|Lt=>simp only[bY] at h;unfold ltD at h;split at h;rename_i a b G L;exact go aLs ⟨a,b,B.int G,M.int L,by show Q (.bl (decide (a<b))) H;rw[An h];exact q⟩;cases h|Gt=>simp only[bY] at h;split at h;rename_i a b G L;exact go aLu ⟨a,b,B.int G,M.int L,by show Q (.bl (decide (b<a))) H;rw[An h];exact q⟩;cases h|LtE=>simp only[bY] at h;unfold leD at h;split at h;rename_i a b G L;exact go aLt ⟨a,b,B.int G,M.int L,by show Q (.bl (decide (a<=b))) H;rw[An h];exact q⟩;cases h|GtE=>simp only[bY] at h;split at h;rename_i a b G L;exact go aLv ⟨a,b,B.int G,M.int L,by show Q (.bl (decide (b<=a))) H;rw[An h];exact q⟩;cases h|Is=>
  simp only[bY] at h;split at h;rename_i L;refine go aIA ⟨M.non L,?_⟩;have:decide (ux=V.non)=k:=by
   rw[<-An h];unfold isNone;split;rename_i G;rw[B.non G];simp;rename_i G;refine Av λz=>?_;rw[z] at B;unfold Rv at B;cases W:x.d with
   | non=>exact G W|_=>rw[W] at B;first|(obtain⟨a,xs,z',_⟩:=B;cases z')|exact B.elim|injection B
  rw[this];exact q;cases h
 | IsNot=>
  simp only[bY] at h;split at h;rename_i L;refine go aFI ⟨M.non L,?_⟩;have:(!decide (ux=V.non))=k:=by
   rw[<-An h];unfold isNone;split;rename_i G;rw[B.non G];simp;rename_i G;rw[Av λz=>?_];rw[z] at B;unfold Rv at B;cases W:x.d with
   | non=>exact G W|_=>rw[W] at B;first|(obtain⟨a,xs,z',_⟩:=B;cases z')|exact B.elim|injection B
  rw[this];exact q;cases h
 | In=>simp only[bY] at h;unfold inD at h;split at h;rename_i a b G L;exact go aBT ⟨a,b,B.str G,M.str L,by rw[show(!(CO b a 0 b.length 1).isEmpty)=k from An h];exact q⟩;cases h|NotIn=>simp only[bY,Bx] at h;obtain⟨k',h,ek⟩:=h;subst ek;unfold inD at h;split at h;rename_i a b G L;exact go tR ⟨a,b,B.str G,M.str L,by rw[show(!(CO b a 0 b.length 1).isEmpty)=k' from An h];exact q⟩;cases h
end
end Hp
namespace Hp
open PySem PySem.Spec PyProof.Rows L2
theorem kM(n:Nat)(hd:d<=n):∀lo,sIx n d lo<=n
 | none=>hd|some v=>by unfold sIx;dsimp only;split <;> omega
theorem wW(lo hi:Option Int)(n:Nat):B2 lo hi 1 n=B2 (some ((sIx n 0 lo:Nat):Int)) (some ((sIx n n hi:Nat):Int)) 1 n:=by
 have I:(1:Int)>0:=by decide
 have B:∀(d:Nat) (hd:d<=n) (o:Option Int),(match o with|none=>(d:Int)|some i=>max 0 (min (if i<0 then i+(n:Int) else i) (n:Int)))=((sIx n d o:Nat):Int):=by
  intro d hd o;cases o with
  | none=>rfl|some i=>unfold sIx;dsimp only;split <;> omega
 have G:∀(m:Nat),m<=n->max (0:Int) (min (if (m:Int)<0 then (m:Int)+(n:Int) else (m:Int)) (n:Int))=(m:Int):=by intro m U;split <;> omega
 unfold B2;simp only[I,if_true];have L:=B 0 (AA _) lo;have M:=B n (Ak _) hi;have f1:=G _ (kM n (AA _) lo);have f2:=G _ (kM n (Ak _) hi);rw[f1,f2];cases lo <;> cases hi <;> simp_all
theorem rH(x:Str)(lo hi:Option Int):Ch x lo hi=zH x lo hi:=by
 have W:x.cps.toList.length=x.length:=by show _=x.cps.size;simp
 have e:Ch x lo hi=Ch x (some ((sIx x.length 0 lo:Nat):Int)) (some ((sIx x.length x.length hi:Nat):Int)):=by unfold Ch;rw[wW]
 rw[e];unfold zH cut;rw[W];by_cases h:sIx x.length 0 lo<=sIx x.length x.length hi;exact StrLaws.sliceText_nat x h (kM _ (Ak _) hi);have I:sIx x.length x.length hi-sIx x.length 0 lo=0:=by omega
 have q0:=kM x.length (AA _) lo;have U:=kM x.length (Ak _) hi;rw[I,Du];generalize sIx x.length 0 lo=i at *;generalize sIx x.length x.length hi=j at *;have M:B2 (some (i:Int)) (some (j:Int)) 1 x.length=[]:=by
  unfold B2;have L:(1:Int)>0:=by decide
  simp only[L,if_true];rw[if_neg (by omega),if_neg (by omega)];have B:max (0:Int) (min (i:Int) (x.length:Int))=i:=by omega
  have G:max (0:Int) (min (j:Int) (x.length:Int))=j:=by omega
  rw[B,G];unfold sliceRange;simp;omega
 unfold Ch;rw[M];simp;intro hz;omega
def aDS:V->Option Int->Option Int->L2.Hp->VK->Prop:=λx lo hi H Q=>∃a,x=.str a/\a.length<=sizeLine/\Q (.str (zH a lo hi)) H
section
variable {X:Cx}
theorem aIY:SlR X aDS:=by
 intro pins s Z H x v vl vu lo hi sl Q I rx hs pl U h;obtain⟨a,rfl,hz,q⟩:=h;obtain⟨t,rfl⟩:=rx;have B:∀(l u:Option (Int×Tok)),l.map (·.1)=lo->u.map (·.1)=hi->s.heap.IsSlice sl l u none->wpAny (A1 X.prog X.w) X.A (FF (.str a t) (.ref sl)) (EP X pins Z Q) X.xe s:=by
  intro l u e1 e2 h;refine wpAny_getItem_str_slice h rfl ?_;have e:Ch a lo hi=zH a lo hi:=rH a lo hi;unfold Ch at e;subst e1 e2;show Made.post (if ((1:Int)==1&&(B2 (l.map (·.1)) (u.map (·.1)) 1 a.length).length==a.length)=true then _ else _) _ s;split;rename_i L;rw[if_pos L] at e;exact⟨.str a,H,I,⟨t,rfl⟩,by rw[e];exact q⟩;rename_i L;rw[if_neg L] at e;have G:(zH a (l.map (·.1)) (u.map (·.1))).length<=sizeLine:=by refine AI ?_ hz;show(cut a.cps.toList _ _).toArray.size<=a.cps.size;unfold cut;rw[Aj,Bl,CT,A6];omega
  refine⟨by rw[<-e] at G;exact G,.str (zH a (l.map (·.1)) (u.map (·.1))),H,I.tok _,?_,q⟩;rw[<-e];exact⟨_,rfl⟩
 refine⟨"str",_,HS.lookup,rfl,?_⟩;cases pl with
 | none=>
  cases U with
  | none=>exact B none none rfl rfl hs|int j M=>exact B none (some (j,M)) rfl rfl hs
 | int i W=>
  cases U with
  | none=>exact B (some (i,W)) none rfl rfl hs|int j M=>exact B (some (i,W)) (some (j,M)) rfl rfl hs
end
theorem aOd(a b:Str):(a++b).length=a.length+b.length:=by show(a.cps++b.cps).size=_;rw[Fm];rfl
section
variable {X:Cx} {RT Y old:Addr->Prop} {Z:Sg} {ZV:L2.St} {H:Hp} {s:Ad} {pins:List (Addr×Obj)} {Q:VK} {ux uy:V} {vx vy:Value} {x y:Vl}
theorem mB(n:Nat)(k:Int):Hp.ixN n k=L2.ixN n k:=rfl
theorem Rv.ofSub(h:Rep X.K H (exV RT Y old Z ZV x.pa x.al) d u):Ro X.K RT Y old Z ZV H H (x.sub d) u:=by refine Ro.plain (aI.refl H) ?_ (Rv.sub (ds:=[]) (xs:=[]) (j:=0) h);unfold Vl.sub Vl.cl;split <;> rfl
theorem sF(t:Tk X.K H)(M:Rv X.K RT Y old Z ZV H x ux)(U:Rv X.K RT Y old Z ZV H y uy)(h:RE (bH x y) (Wn X RT Y old Z ZV H Q)):rIx X.K ux uy H (λv H'=>Tk X.K H'->Q v H'):=by
 unfold bH at h;split at h;rename_i ds k G I;obtain⟨a,xs,e,q,_,r⟩:=M.lst G;cases B:Hp.ixN ds.length k with
 | none=>rw[B] at h;exact h.elim|some j=>
  rw[B] at h;cases hd:ds[j]? with
  | none=>simp only[hd] at h;exact h.elim|some d=>simp only[hd] at h;obtain⟨v,L,rv⟩:=r.get hd;refine .inl ⟨a,xs,k,v,e,U.int I,q,?_,λt'=>h v H t' (Rv.ofSub rv)⟩;unfold atI;rw[<-r.length,<-mB,B];exact L
 rename_i ds k G I;obtain⟨a,xs,e,q,r⟩:=M.tup G;cases B:Hp.ixN ds.length k with
 | none=>rw[B] at h;exact h.elim|some j=>
  rw[B] at h;cases hd:ds[j]? with
  | none=>simp only[hd] at h;exact h.elim|some d=>simp only[hd] at h;obtain⟨v,L,rv⟩:=r.get hd;refine .inr (.inl ⟨a,xs,k,v,e,U.int I,q,?_,λt'=>h v H t' (Rv.ofSub rv)⟩);unfold atI;rw[<-r.length,<-mB,B];exact L
 rename_i z k G I;obtain⟨c,h⟩:=h.iff;have W:=of_decide_eq_true c;cases B:Hp.ixN z.length k with
 | none=>rw[B] at h;exact h.elim|some j=>
  rw[B] at h;cases hd:z.cps.toList[j]? with
  | none=>simp only[hd] at h;exact h.elim|some c=>
   simp only[hd] at h;refine .inr (.inr ⟨z,k,c,M.str G,U.int I,dZ W,?_,λt'=>Wn.val h t' λ_=>rfl⟩);unfold atI;have hl:z.cps.toList.length=z.length:=by simp[IX]
   rw[hl,<-mB,B];exact hd
 exact h.elim
theorem uD(n d:Nat)(o:Option Int):Hp.sIx n d o=HT.sIx n d o:=by cases o <;> rfl
theorem wX{K:Fg}{ex:Addr->Prop}{ds:List D}{xs:List V}(r:Reps K H ex ds xs)(lo hi:Option Int):Reps K H ex (cut ds lo hi) (wD xs lo hi):=by unfold cut wD;rw[uD,uD,r.length];exact(r.drop _).take _
theorem jE{prog:A3}{w:AG}{A:Bh}{E:Value->Ad->Prop}{t sl:Addr}{items:Array Value}{W vu:Value}{lo hi:Option Int}{Q:Value->Ad->Prop}(B:IsTup s.heap t items)(hs:s.heap.IsSliceOf sl W vu .none)(pl:FE W lo)(pu:FE vu hi)
 (U:HT.sIx items.size 0 lo=0/\HT.sIx items.size items.size hi=items.size) (h:Q (.ref t) s):wpAny (A1 prog w) A (FF (.ref t) (.ref sl)) Q E s:=by
 obtain⟨os,M,L,q0⟩:=id hs;have I:s.TypeIs (.ref sl) "slice" := ⟨os,M,L⟩
 unfold FF
 try with_reducible refine AR ?_
 first|refine Aa (Ac ?_)|skip
 refine Aa (Hv B.typeIs (by decide) ?_);refine Aa (Bg (name:=C6 "__getitem__") B.typeIs Bq
  (AV Bq B.typeIs G8 ?_ (GY _ _)))
 show wpAny _ _ (EO (.ref t) >>= _) _ _ s;refine Aa (Jx B ?_);refine Aa (BY I ?_);rw[if_pos (by decide)];refine Aa (HT.sliceApplied_gen hs pl pu ?_);have G:(((HT.sIx items.size 0 lo:Nat):Int)==0&&(1:Int)==1&&(HT.sIx items.size items.size hi-HT.sIx items.size 0 lo)==items.size)=true:=by rw[U.1,U.2];simp
 show wpAny _ _ (if (((HT.sIx items.size 0 lo:Nat):Int)==0&&(1:Int)==1&&(HT.sIx items.size items.size hi-HT.sIx items.size 0 lo)==items.size)=true then _ else _) _ _ s;rw[if_pos G];unfold Jk;refine Aa (Aa (BY B.typeIs (Ac ?_)));rw[if_pos (beq_self_eq_true _)];exact Aa (Ds (Ac ⟨_,rfl,Ac h⟩))
def wY(K:Fg):V->Option Int->Option Int->Hp->VK->Prop:=λx lo hi H Q=>∃a xs,x=.ref a/\SqT K H a xs/\(HT.sIx xs.length 0 lo=0/\HT.sIx xs.length xs.length hi=xs.length)/\Q (.ref a) H
theorem aGm:SlR X (wY X.K):=by
 intro pins s Z H x v vl vu lo hi sl Q I W hs pl U h;obtain⟨a,xs,rfl,M,L,q⟩:=h;cases W;obtain⟨its,r,G,hz⟩:=I.tuple M;have B:its.toArray.size=xs.length:=by rw[Aj];exact r.length.symm
 refine⟨"tuple",_,Bq.lookup,G.typeIs,?_⟩;exact jE G hs pl U (by rw[B];exact L) ⟨.ref a,H,I,rfl,q⟩
theorem aIZ:SlR X (λx lo hi H Q=>aDq X.K x lo hi H Q\/aDo X.K x lo hi H Q\/wY X.K x lo hi H Q\/aDS x lo hi H Q):=aFR.or (aID.or (aGm.or aIY))
theorem aCm{α:Type}{xs:List α}{lo hi:Option Int}(B:Hp.sIx xs.length 0 lo=0)(G:Hp.sIx xs.length xs.length hi=xs.length):cut xs lo hi=xs:=by unfold cut;rw[B,G,List.drop_zero,EE,AF]
theorem aCn{lo hi:Option Int}(S:Sx X.K RT Y old Z ZV H)(t:Tk X.K H)(L:Rv X.K RT Y old Z ZV H x ux)(h:RE (eG x lo hi) (Wn X RT Y old Z ZV H Q)) :
 aDq X.K ux lo hi H (λv H'=>Tk X.K H'->Q v H')\/aDo X.K ux lo hi H (λv H'=>Tk X.K H'->Q v H')\/wY X.K ux lo hi H (λv H'=>Tk X.K H'->Q v H')\/aDS ux lo hi H (λv H'=>Tk X.K H'->Q v H'):=by
 unfold eG at h;split at h;rename_i ds B;obtain⟨a,xs,e,q,_,r⟩:=L.lst B;refine .inl ⟨a,xs,e,q,λp I t'=>h _ _ t' (Ro.fresh I t' rfl rfl S ?_)⟩;exact wX (eH r) lo hi;rename_i ds B;obtain⟨a,xs,e,q,r⟩:=L.tup B;have M:=eH r;by_cases G:HT.sIx xs.length 0 lo=0/\HT.sIx xs.length xs.length hi=xs.length;refine .inr (.inr (.inl ⟨a,xs,e,q,G,λt'=>h _ _ t' (Ro.plain (aI.refl H) rfl ?_)⟩));have U:cut ds lo hi=ds:=aCm (by rw[uD,r.length];exact G.1) (by rw[uD,r.length];exact G.2);unfold Rv;show Rep X.K H _ (.tup (cut ds lo hi)) (.ref a);rw[U];exact⟨a,xs,rfl,q,M⟩;exact .inr (.inl ⟨a,xs,e,q,G,λp I t'=>h _ _ t' (Ro.tup I rfl rfl (wX M lo hi))⟩);rename_i a B;obtain⟨W,h⟩:=h.iff;have e:ux=.str a:=by have z:=L;unfold Rv at z;rw[B] at z;exact z
 exact .inr (.inr (.inr ⟨a,e,dZ (of_decide_eq_true W),λt'=>h _ _ t' (Ro.cl (aI.refl H) rfl)⟩));exact h.elim
theorem aAW:∀{ns:List Int} {us:List Value},aS (ns.map V.int) us->ns.length=us.length/\∀(i:Nat) (v:Value),us[i]? = some v->∃t,v=.int ((ns[i]?).getD 0) t
 | [],us,r=>by rw[mN] at r;cases r;exact⟨rfl,λi v e=>by simp at e⟩|n::ns,us,r=>by
  rw[mC] at r;cases r with
  | cons r1 I=>
   obtain⟨t,e⟩:=r1;obtain⟨B,G⟩:=aAW I;refine⟨by simp[B],λi v q=>?_⟩;cases i with
   | zero=>cases q;exact⟨t,e⟩|succ i=>exact G i v q
theorem nM:∀(ns:List Int) (k:Nat),k<=ns.length->preSum (λi=>(ns[i]?).getD 0) k=(ns.take k).sum
 | ns,0,_=>by rw[Du];rfl|ns,k+1,h=>by rw[Bp (by omega),IG,<-nM ns k (by omega)];show preSum _ k+(ns[k]?).getD 0=_;rw[Af (by omega)];simp
theorem aCo(hc:X.calm=true):eP X (.builtin "sum") (λxs H Q=>∃(p:Addr) (ns:List Int),xs=[.ref p]/\SqL X.K H p (ns.map V.int)/\Q (.int ns.sum) H):=by
 intro pins s Z H xs us Q I r h;obtain⟨p,ns,rfl,hq,q⟩:=h;obtain⟨u,rfl,rx⟩:=nD r;cases rx;obtain⟨its,rv,pl,hz⟩:=I.list hq;obtain⟨hn,hv⟩:=aAW rv;have hl:=pl.isList;have B:p<s.heap.objs.size:=pl.lt;refine call_sum_walkAnyS (Dl hl ?_);refine⟨s.heap.objs.size,[s.heap.objs.size,p],[s.heap.objs.size],_,its.toArray.size,_,_,λi=>(ns[i]?).getD 0,rfl,(K7 (A:=X.A.in1) (I.ok.hd hc) _ p (Aw B) _).toS,
  ⟨⟨_,Al _ rfl,rfl,rfl⟩,hl.push _⟩,λb U=>?_,λi v hP=>hv i v (by simpa using hP),λG tk L=>?_⟩
 show b<(s.heap.push _).objs.size;rw[BC];rcases As.mp U with rfl|U;exact Bz _;rw[Ap.mp U];exact Br B;rw[Aj,<-hn,nM ns _ (Ak _),AF];have e:G={ s with heap:=G.heap,toks:=G.toks }:=by obtain⟨h',g',d',q0,W⟩:=G;have e1:g'=_:=L.gens;have e2:d'=_:=L.drawn;have e3:W=_:=L.os;subst e1 e2 e3;rfl
 rw[e];refine⟨.int _,H,I.kept (t':=G.toks) λb o M=>L.heap b o ?_ (Ab _ M),⟨_,rfl⟩,q⟩;intro hm;rw[Ap.mp hm] at M;exact AC _ (Am M)
def rBi(X:Cx)(b:Bi):List V->Hp->VK->Prop:=match b with|.len=>λxs H Q=>(∃p ys,xs=[.ref p]/\(SqL X.K H p ys\/SqT X.K H p ys)/\Q (.int ys.length) H)\/∃z,xs=[.str z]/\z.length<=sizeLine/\Q (.int z.length) H|.list=>λxs H Q=>∃p ys,xs=[.ref p]/\(SqL X.K H p ys\/SqT X.K H p ys)/\∀l,H l=none->Q (.ref l) (upd H l (.lst ys))|.tuple=>λxs H Q=>∃p ys,xs=[.ref p]/\((SqL X.K H p ys/\∀l,H l=none->Q (.ref l) (upd H l (.tup ys)))\/(SqT X.K H p ys/\Q (.ref p) H))|.min=>λxs H Q=>∃i j,xs=[.int i,.int j]/\Q (.int (if j<i then j else i)) H|.int=>λxs H Q=>(∃i,xs=[.int i]/\Q (.int i) H)\/∃k,xs=[.bl k]/\Q (.int (if k then 1 else 0)) H|.sum=>λxs H Q=>∃(p:Addr) (ns:List Int),xs=[.ref p]/\SqL X.K H p (ns.map V.int)/\Q (.int ns.sum) H|_=>λ_ _ _=>False
noncomputable def aHP:Bi->Value
 | .len=>.builtin "len" | .list=>.type "list" | .tuple=>.type "tuple" | .min=>.builtin "min" | .max=>.builtin "max" | .abs=>.builtin "abs" | .int=>.type "int" | .str=>.type "str"
 | .all=>.builtin "all" | .any=>.builtin "any" | .sum=>.builtin "sum" | .sorted=>.builtin "sorted" | .bool=>.type "bool" | .repr=>.builtin "repr"
theorem aGn(B:X.calm=true)(I:X.A.guards=some [])(L:X.A.units+200<C5)(b:Bi)(G:aDA b=true):eP X (aHP b) (rBi X b):=by
 cases b with
 | len=>exact tS.or tU|list=>exact tV|tuple=>exact rF|min=>exact aBU B|int=>exact aBV|sum=>exact aCo B|_=>cases G
theorem aDT(I:aDA b=true)(S:Sx X.K RT Y old Z ZV H)(hv:Rvs X.K RT Y old Z ZV H vs us)(h:RE (biD b vs) (Wn X RT Y old Z ZV H Q)) :
 rBi X b us H (λv H'=>Tk X.K H'->Q v H'):=by
 unfold biD at h;split at h;rename_i x;obtain⟨u,r,e,G,U⟩:=hv;rw[show r=[] from U] at e;subst e;cases b with
 | len=>dsimp only[aCa] at h;split at h;rename_i ds B;obtain⟨a,xs,e,q,_,r⟩:=G.lst B;exact .inl ⟨a,xs,by rw[e],.inl q,λt'=>by rw[<-r.length];exact Wn.val h t' λ_=>rfl⟩;rename_i ds B;obtain⟨a,xs,e,q,r⟩:=G.tup B;exact .inl ⟨a,xs,by rw[e],.inr q,λt'=>by rw[<-r.length];exact Wn.val h t' λ_=>rfl⟩;rename_i z B;obtain⟨c,h⟩:=h.iff;exact .inr ⟨z,by rw[G.str B],dZ (of_decide_eq_true c),λt'=>Wn.val h t' λ_=>rfl⟩;exact h.elim|list=>dsimp only[aCa] at h;split at h;rename_i ds B;obtain⟨a,xs,e,q,_,r⟩:=G.lst B;exact⟨a,xs,by rw[e],.inl q,λp L t'=>h _ _ t' (Ro.fresh L t' rfl rfl S (eH r))⟩;rename_i ds B;obtain⟨a,xs,e,q,r⟩:=G.tup B;exact⟨a,xs,by rw[e],.inr q,λp L t'=>h _ _ t' (Ro.fresh L t' rfl rfl S (eH r))⟩;exact h.elim|tuple=>dsimp only[aCa] at h;split at h;rename_i ds B;obtain⟨a,xs,e,q,_,r⟩:=G.lst B;exact⟨a,xs,by rw[e],.inl ⟨q,λp L t'=>h _ _ t' (Ro.tup L rfl rfl (eH r))⟩⟩;rename_i ds B;obtain⟨a,xs,e,q,r⟩:=G.tup B;exact⟨a,xs,by rw[e],.inr ⟨q,λt'=>h _ _ t' (Ro.plain (aI.refl H) rfl ⟨a,xs,rfl,q,r⟩)⟩⟩;exact h.elim|abs=>cases I|int=>dsimp only[aCa] at h;split at h;rename_i i B;exact .inl ⟨i,by rw[G.int B],λt'=>Wn.val h t' λ_=>rfl⟩;rename_i k B;exact .inr ⟨k,by rw[G.bl B],λt'=>Wn.val h t' λ_=>rfl⟩;exact h.elim|str=>cases I|all=>cases I|repr=>cases I|bool=>cases I|sum=>dsimp only[aCa] at h;split at h;rename_i ds B;obtain⟨a,xs,e,q,_,r⟩:=G.lst B;split at h;rename_i ns M;rw[nL M r] at q;exact⟨a,ns,by rw[e],q,λt'=>Wn.val h t' λ_=>rfl⟩;exact h.elim;exact h.elim|any=>cases I|sorted=>cases I|min=>exact h.elim|max=>exact h.elim
 rename_i x y;obtain⟨u,r,e,G,u',r',W,hy,U⟩:=hv;rw[show r'=[] from U] at W;subst W e;cases b with
 | min=>dsimp only[aLJ] at h;split at h;rename_i i j B d2;exact⟨i,j,by rw[G.int B,hy.int d2],λt'=>Wn.val h t' λ_=>rfl⟩;exact h.elim|max=>cases I|_=>exact h.elim
 exact h.elim
noncomputable def wZ:Cl->Option Value
 | .tInt=>some (.type "int")|.tBool=>some (.type "bool")|.tStr=>some (.type "str")|.tList=>some (.type "list")|.tTuple=>some (.type "tuple")|.tDict=>some (.type "dict")
 | _=>none
noncomputable def tyD:D->Option String
 | .non=>some "NoneType" | .bl _=>some "bool" | .int _=>some "int" | .str _=>some "str" | .tup _=>some "tuple" | .lst _=>some "list" | .dic _=>some "dict" | .err _ _=>none
theorem gA(K:Fg)(P:Pg){c:Cl}{I:Value}{d:D}{k:Bool}{T:String}(B:wZ c=some I)(G:tyD d=some T)(h:isI [c] P d=some k):PySem.W.kitOne K (.type T) I=some k:=by
 cases c with
 | own c=>cases B|tValueError=>cases B|tInt=>cases B;cases d <;> cases G <;> simp[isI] at h <;> subst h <;> kernel_rfl|tBool=>cases B;cases d <;> cases G <;> simp[isI] at h <;> subst h <;> kernel_rfl|tStr=>cases B;cases d <;> cases G <;> simp[isI] at h <;> subst h <;> kernel_rfl|tList=>cases B;cases d <;> cases G <;> simp[isI] at h <;> subst h <;> kernel_rfl|tTuple=>cases B;cases d <;> cases G <;> simp[isI] at h <;> subst h <;> kernel_rfl|tDict=>cases B;cases d <;> cases G <;> simp[isI] at h <;> subst h <;> kernel_rfl
theorem aCp(P:Pg)(I:L2.Inv X pins ZV H s)(L:bJ ux vx)(G:Rv X.K RT Y old Z ZV H x ux)(M:wZ c=some cv)(h:isI [c] P x.d=some k)(q:Q (.bl k) H) :
 wpAny (A1 X.prog X.w) X.A (IZ (.builtin "isinstance") [vx,cv]) (EP X pins ZV Q) X.xe s:=by
 have B:∀tk,EP X pins ZV Q (.bool k) { s with toks:=tk }:=λtk=>⟨.bl k,H,I.tok tk,rfl,q⟩
 cases d:x.d with
 | non=>have e:=gA X.K P M (by rw[d];rfl) h;rw[G.non d] at L;cases L;exact C4 PySem.W.kitx_none I.kIn FN e (λz=>nomatch z) B|bl b=>have e:=gA X.K P M (by rw[d];rfl) h;rw[G.bl d] at L;cases L;exact C4 PySem.W.kitx_bool I.kIn FN e (λz=>nomatch z) B|int i=>have e:=gA X.K P M (by rw[d];rfl) h;rw[G.int d] at L;obtain⟨t,rfl⟩:=L;exact C4 PySem.W.kitx_int I.kIn FN e (λz=>nomatch z) B|str z=>have e:=gA X.K P M (by rw[d];rfl) h;rw[G.str d] at L;obtain⟨t,rfl⟩:=L;exact C4 PySem.W.kitx_str I.kIn FN e (λz=>nomatch z) B|tup ds=>have e:=gA X.K P M (by rw[d];rfl) h;obtain⟨a,xs,U,p,_⟩:=G.tup d;subst U;cases L;obtain⟨its,_,t,_⟩:=I.tuple p;obtain⟨o,W,h2,_⟩:=t;exact C4 PySem.W.kitx_tuple I.kIn ⟨o,W,h2⟩ e (λz=>nomatch z) B|lst ds=>have e:=gA X.K P M (by rw[d];rfl) h;obtain⟨a,xs,U,p,_⟩:=G.lst d;subst U;cases L;obtain⟨its,_,t,_⟩:=I.list p;obtain⟨o,n,W,h2,_⟩:=t;exact C4 PySem.W.kitx_list I.kIn ⟨o,W,h2⟩ e (λz=>nomatch z) B|dic kvs=>
  have e:=gA X.K P M (by rw[d];rfl) h;unfold Rv at G;rw[d] at G;obtain⟨a,ks,U,p,_⟩:=G;subst U;cases L;obtain⟨_,_,vs,_,o,es,ep,W,h2,_⟩:=(show dL X.prog X.w H s.heap a (.dK ks) from I.hok a _ p)
  exact C4 PySem.W.kitx_dict I.kIn ⟨o,W,h2.1⟩ e (λz=>nomatch z) B
 | err _ _=>unfold Rv at G;rw[d] at G;exact G.elim
end
def xA(prog:A3)(w:AG)(K:Fg)(a:Addr)(t:List (Str×D)):Prop:=(a==CB)=false/\∃vs:List (Key×Value),(∀h:Heap,K.In h->h.DictOf (fU prog w) a vs) /\
 ∀k:Str,(t.lookup k=none/\FO vs (BO k:Key)=none)\/∃d u v,t.lookup k=some d/\FO vs (BO k:Key)=some u/\bJ v u/\∀(H:Hp) (ex:Addr->Prop),Rep K H ex d v
end Hp
namespace L2
open PySem PySem.Spec PyProof.Rows
noncomputable def jF(cells:List (Str×Addr)):List (Str×Ck)->List (Str×Addr)->List (Str×Addr)
 | [],acc=>acc|(n,k)::r,acc=>if k==.free then jF cells r ((n,(cells.lookup n).getD 0)::acc) else jF cells r acc
theorem clos_mem{cells:List (Str×Addr)}:∀{names:List (Str×Ck)} {acc:List (Str×Addr)} {p:Str×Addr},p∈jF cells names acc->p∈acc\/((p.1,AX)∈names/\p.2=(cells.lookup p.1).getD 0)
 | [],_,_,h=>.inl h|(n,k)::r,acc,p,h=>by unfold jF at h;by_cases B:(k==AX)=true;rw[if_pos B] at h;rcases clos_mem h with q|q;rcases As.mp q with q|q;subst q;have:k=.free:=eq_of_beq B;subst this;exact .inr ⟨Ai,rfl⟩;exact .inl q;exact .inr ⟨Ag _ q.1,q.2⟩;rw[if_neg B] at h;rcases clos_mem h with q|q;exact .inl q;exact .inr ⟨Ag _ q.1,q.2⟩
theorem pH{cells:List (Str×Addr)}:∀{names:List (Str×Ck)} {acc:List (Str×Addr)} {p:Str×Addr},p∈acc->p∈jF cells names acc
 | [],_,_,h=>h|(n,k)::r,acc,p,h=>by unfold jF;by_cases B:(k==AX)=true;rw[if_pos B];exact pH (Ag _ h);rw[if_neg B];exact pH h
theorem kN{cells:List (Str×Addr)}:∀{names:List (Str×Ck)} {acc:List (Str×Addr)} {n:Str},(n,AX)∈names->(n,(cells.lookup n).getD 0)∈jF cells names acc
 | [],_,_,h=>by simp at h|(m,k)::r,acc,n,h=>by unfold jF;rcases As.mp h with q|q;cases q;rw[if_pos (by rfl:(AX==AX)=true)];exact pH Ai;by_cases B:(k==AX)=true;rw[if_pos B];exact kN q;rw[if_neg B];exact kN q
theorem eA{α:Type}:∀{l:List (Str×α)} {x:Str} {a:α},(x,a)∈l->∃b,l.lookup x=some b
 | (y,b)::r,x,a,h=>by
  rw[F5];cases B:x==y with
  | true=>exact⟨b,rfl⟩|false=>rcases As.mp h with q|q;cases q;simp at B;exact eA q
theorem cC{cells:List (Str×Addr)}(G:∀n,(n,AX)∈names->∃c,cells.lookup n=some c)(h:(jF cells names []).lookup x=some c):cells.lookup x=some c:=by
 rcases clos_mem (B6 h) with q|⟨I,B⟩
 simp at q;obtain⟨L,e⟩:=G x I;simp only at B;rw[e] at B;rw[e,B];rfl
theorem gQ{scope:Dp}{env:Ke}(U:∀n,(n,AX)∈scope.names->∃c,env.cells.lookup n=some c):closureFor scope env=pure (jF env.cells scope.names []):=by
 have go:∀(l:List (Str×Ck)) (acc:List (Str×Addr)),(∀n,(n,AX)∈l->∃c,env.cells.lookup n=some c) ->
  (forIn l acc (λ(x:Str×Ck) (r:List (Str×Addr))=>(match x with|(name,kind)=>if (kind==AX)=true then do let __do_lift<-cellOf env name;pure (Dh ((name,__do_lift)::r)) else pure (Dh r):KR (ForInStep (List (Str×Addr))))))=(pure (jF env.cells l acc):KR (List (Str×Addr))):=by
  intro l
  induction l with
  | nil=>intro acc _;rfl|cons p r L=>
   intro acc B;obtain⟨n,k⟩:=p;rw[FT];unfold jF;by_cases I:(k==AX)=true;have:k=.free:=eq_of_beq I;subst this;obtain⟨c,e⟩:=B n Ai;have M:cellOf env n=pure c:=by unfold cellOf;rw[e]
   simp only[beq_self_eq_true,if_true,M];rw[e];exact L _ λm G=>B m (Ag _ G);simp only[I,if_false];exact L _ λm G=>B m (Ag _ G)
 unfold closureFor;exact(bind_pure _).trans (go scope.names [] U)
section
variable {prog:A3} {w:AG} {A:Bh} {R:GX->Ad->Prop} {s:Ad}
theorem iC(I:Nat->Ad->Prop)
 (q6:∀n s,I n s->wpAny (A1 prog w) A (D8 it) (λr B=>match r with
  | none=>R (.ok .next) B|some v=>wpAny (A1 prog w) A (Ey target it v) (λ_ G=>wpAny (A1 prog w) A (F9 target env v) (λ_ W=>
   wpAny (A1 prog w) A (forIn ifs true λc r=>if r=true then do let ok<-isTrue c env (Dn c env);pure (Dh ok) else pure (Dh r)) (λok L=>
    if ok=true then wpAny (A1 prog w) A (Dn elt env) (λx q0=>
     wpAny (A1 prog w) A (call (.builtin "list.append") [acc,x]) (λ_ q1=>∃m,m<n/\I m q1) (λ_ _=>False) q0) (λ_ _=>False) L
    else ∃m,m<n/\I m L) (λ_ _=>False) W) (λ_ _=>False) G) (λ_ _=>False) B) (λ_ _=>False) s)
 (n:Nat) (h:I n s) :
 Eo (A1 prog w) A (.compLoop (.ListComp elt [⟨target,iter,ifs,0⟩] scope pos) 0 it acc env) R s:=by
 refine codeAny_loop rfl I (λn s hI=>?_) n h;show wpAny _ A ((compTurn (.ListComp elt [⟨target,iter,ifs,0⟩] scope pos) 0 it acc env).onRaise (λx=>do noteFrame x env;theTreesLotGoes x)) _ _ s;refine wpAny_noted ?_;rw[compTurn_list];refine Aa (GH (Aa (CC (q6 n s hI) (λr B M=>?_) λ_ _ h'=>h'.elim)));cases r with
 | none=>exact Ac M|some v=>
  refine Aa (CC M (λ_ G q2=>?_) λ_ _ h'=>h'.elim);refine Aa (CC q2 (λ_ W q3=>Aa (CC q3 (λok L U=>?_) λ_ _ h'=>h'.elim)) λ_ _ h'=>h'.elim);cases ok with
  | false=>exact Ac ⟨rfl,U⟩|true=>exact Aa (Aa (CC U (λx q0 q4=>Aa (CC q4 (λ_ q1 q5=>Ac (Ac ⟨rfl,q5⟩)) λ_ _ h'=>h'.elim)) λ_ _ h'=>h'.elim))
end
noncomputable def cU(X:Cx)(scope:Dp)(N':List Str)(C:Addr)(s₀:Ad)(H₀:Hp)(ex:List Addr):Cx:=
 { X with env:=Ks scope (jF X.env.cells scope.names []) C X.env,N:=N',s₀:=s₀,H₀:=H₀,outer:=X.stack,ex:=ex,fn:=λ_=>false,pn:=[],xe:=λ_ _=>False }
def PTs(X:Cx)(ifs:List A2)(t:TT):Prop:=
 ∀(pins:List (Addr×Obj)) (s:Ad) (Z:St) (H:Hp) (Q:Bool->Hp->Prop),Inv X pins Z H s->t Z H Q ->
  wpAny (A1 X.prog X.w) X.A (forIn ifs true λc r=>if r=true then do let ok<-isTrue c X.env (Dn c X.env);pure (Dh ok) else pure (Dh r)) (TP X pins Z Q) X.xe s
theorem aAX:PTs X [] (λ_ H Q=>Q true H):=λpins s Z H Q I h=>Ac ⟨H,I,h⟩
theorem aGo(h:PT X c t):PTs X [c] t:=λpins s Z H Q I B=>wpAny_tests_one (h pins s Z H Q I B)
structure cG (X:Cx) (scope:Dp) (k:Nat) (caps:List Nat) (N':List Str):Prop where
 kind:scope.kind=.function
 nocell:∀y∈scope.names,y.2≠.cell
 loc:∀y∈scope.names,y.2=.local->scope.names.lookup y.1=some .local
 free:∀n,(n,AX)∈scope.names->X.env.kindOf n=some .cell\/X.env.kindOf n=some .free
 len:N'.length=k+caps.length
 cap:∀j i,caps[j]? = some i->∃x,N'[k+j]? = some x/\X.N[i]? = some x/\scope.names.lookup x=some .free/\X.env.kindOf x=some .cell
 ndp:X.N.Nodup
def gB(k:Nat)(caps:List Nat)(Z:St):St:=Ae k none++caps.map λi=>(Z[i]?).getD none
def aDU(k:Nat)(caps:List Nat)(wi:TI)(g:TG)(tt:TT)(te:TE):TE:=λZ H Q=>wi Z H λJ H1=>
 ∃W0:Nat->Nat->List V->St->Hp->Prop,(∃m,W0 0 m [] (gB k caps Z) H1)/\∀i m ys Z1 H,W0 i m ys Z1 H ->
  (J.stop i H/\ys.length<=sizeLine/\∀p,H p=none->Q (.ref p) (upd H p (.lst ys))) \/
  (J.go i H/\ys.length<sizeLine/\∀x H',J.yld i H x H'->g x Z1 H' λZ2 H2=>tt Z2 H2 λb H3=>
   if b=true then te Z2 H3 λy H4=>∃m',m'<m/\W0 (i+1) m' (ys++[y]) Z2 H4 else ∃m',m'<m/\W0 (i+1) m' ys Z2 H3)
theorem HOk.track(ok:HOk P w H h)(n:H a=none)(new:dL P w (upd H a o) h a o):HOk P w (upd H a o) h:=λb u e=>by by_cases B:b=a;subst B;rw[aR] at e;cases e;exact new;rw[upd_ne B] at e;exact(ok b u e).stay (λ_ _ _ q=>q) (λc q=>by rw[upd_ne (bB q n)];exact q) λc xs q=>by rw[upd_ne (bB q n)];exact q
abbrev cX(its:List Value)(n:Nat):Obj:={ cls:=.type "list",data:=.seq its.toArray n }
section
variable {X:Cx} {scope:Dp} {k:Nat} {caps:List Nat} {N':List Str} {pins:List (Addr×Obj)} {Z:St} {H:Hp} {s:Ad} {fp:List Addr}
theorem Inv.cellLt(I:Inv X pins Z H s)(e:X.env.cells.lookup x=some c):c<s.heap.objs.size:=by obtain⟨v,q⟩:=I.cell x c e;exact q.lt
theorem eX:∀{l:List (Str×Ck)} {x:Str} {k:Ck},l.lookup x=some k->(x,k)∈l:=λh=>B6 h
theorem relabel_lookup{env:Ke}:∀{names:List (Str×Ck)} {x:Str} {k:Ck},
 (names.map λ(n,k)=>if (k==AX&&env.scope.kind==.function&&env.kindOf n==some .cell) then (n,NameKind.cell) else (n,k)).lookup x=some k ->
 (k=.cell/\names.lookup x=some .free/\env.kindOf x=some .cell)\/names.lookup x=some k
 | [],_,_,h=>by simp at h|(n,k')::r,x,k,h=>by
  have I:=@relabel_lookup env r x k;rw[mC] at h;by_cases B:(k'==AX&&env.scope.kind==.function&&env.kindOf n==some .cell)=true;simp only[B,if_true,F5] at h ⊢;cases G:x==n with
  | true=>rw[G] at h;simp only at h ⊢;simp only[bA] at B;have L:k'=.free:=eq_of_beq B.1.1;have M:env.kindOf n=some .cell:=eq_of_beq B.2;have U:x=n:=eq_of_beq G;subst U;cases h;exact .inl ⟨rfl,by rw[L],M⟩|false=>rw[G] at h;exact I h
  simp only[Bool.not_eq_true] at B;simp only[B,if_false,F5,bF] at h ⊢;cases G:x==n with
  | true=>rw[G] at h;exact .inr h|false=>rw[G] at h;exact I h
theorem aOW(L:cG X scope k caps N')(I:Inv X pins Z H s)(f:∀b∈fp,kA X pins H b)(hf:∀b∈fp,b<s.heap.objs.size) :
 (cU X scope N' (s.heap.objs.size+1) { s with heap:=s.heap.push (cX [] 0) } H (s.heap.objs.size::fp)).Ok:=by
 have M:∀n,(n,AX)∈scope.names->∃c,X.env.cells.lookup n=some c:=λn hn=>I.ok.has n (L.free n hn);have W:∀b o,s.heap.get? b=some o->(s.heap.push (cX [] 0)).get? b=some o:=λb o e=>Ab _ e;have G:∀b∈frs X.stack,∃o,s.heap.get? b=some o:=λb B=>by obtain⟨_,o,ho,_⟩:=I.stack.mem B;exact⟨o,ho⟩
 refine⟨I.ok.mod,?_,I.ok.glob,I.ok.blt,?_,λx y c h1 h2=>?_,λx hx=>?_,λx c h _=>?_,I.ok.hd,I.ok.frames,.inl rfl,λb B=>?_,λb o e=>?_,?_,λb o e B=>?_,λb B=>?_,?_,I.stkFree⟩;exact L.kind;show(s.heap.push (cX [] 0)).objs.size<=s.heap.objs.size+1;rw[BC];exact Ak _;exact I.ok.inj x y c (cC M h1) (cC M h2);have fr:(x,AX)∈scope.names:=by rcases hx with q|q;rcases relabel_lookup q with⟨_,z,_⟩|z;exact eX z;exact absurd rfl (L.nocell _ (eX z));rcases relabel_lookup q with⟨z,_⟩|z;cases z;exact eX z
 obtain⟨c,e⟩:=eA (kN (cells:=X.env.cells) (acc:=[]) fr);exact⟨c,e⟩;cases(show false=true from h);refine⟨?_,λx c e=>?_⟩;show b≠s.heap.objs.size+1;rcases As.mp B with z|z;rw[z];exact Aw (Bz _);exact Aw (Br (hf b z));have U:=cC M e;rcases As.mp B with z|z;rw[z];exact Aw (I.cellLt U);exact(f b z).2.2.2.2.1 x c U;exact⟨W b o (I.bs b o e).1,(I.bs b o e).2⟩;show X.base.objs.size<=(s.heap.push (cX [] 0)).objs.size;rw[BC];exact HH (AI I.ok.bsz I.sz);have lt:=Am e;rcases As.mp B with z|z;subst z;exact absurd (A7 lt (AI I.ok.bsz I.sz)) (AC _);rcases(f b z).2.2.2.1 with q|q;exact I.ok.noex b o e q;exact absurd (A7 lt (AI I.ok.bsz q)) (AC _);show b∉frs X.stack;intro hs;rcases As.mp B with z|z;subst z;obtain⟨o,e⟩:=G _ hs;exact absurd (Am e) (AC _);rcases As.mp (I.stkSub b hs) with q|q;exact(f b z).2.1 q;exact(f b z).2.2.1 q;exact I.stack.of_keeps λb o e _=>⟨o,W b o e,rfl⟩
theorem aDV(I:cG X scope k caps N')(h:(gB k caps Z)[j]? = some (some v)):∃G i,j=k+G/\caps[G]? = some i/\Z[i]? = some (some v):=by
 unfold gB at h;by_cases B:j<k;rw[A4 (by simpa using B),Cc] at h;split at h <;> cases h;rw[Az (by simpa using B),Be,Ar] at h;cases e:caps[j-k]? with
 | none=>rw[e] at h;cases h|some i=>
  rw[e] at h;have h':(Z[i]?).getD none=some v:=An h;refine⟨j-k,i,by omega,e,?_⟩;cases q:Z[i]? with
  | none=>rw[q] at h';cases h'|some z=>rw[q] at h';exact congrArg some h'
theorem aMc(L:cG X scope k caps N')(I:Inv X pins Z H s)(f:∀b∈fp,kA X pins H b)(hf:∀b∈fp,b<s.heap.objs.size){B:Heap}{tk:Nat}
 (q0:B.Ns (s.heap.objs.size+1) λ_=>none) (hk:∀b o,(s.heap.push (cX [] 0)).get? b=some o->B.get? b=some o) :
 Inv (cU X scope N' (s.heap.objs.size+1) { s with heap:=s.heap.push (cX [] 0) } H (s.heap.objs.size::fp)) [] (gB k caps Z) H { s with heap:=B,toks:=tk }:=by
 have hh:∀n,(n,AX)∈scope.names->∃c,X.env.cells.lookup n=some c:=λn hn=>I.ok.has n (L.free n hn);have ge:∀b o,s.heap.get? b=some o->B.get? b=some o:=λb o e=>hk b o (Ab _ e);have G:∀{c:Addr} {v:Option Value},s.heap.IsCell c v->B.IsCell c v:=λ{c v} ⟨o,e,d⟩=>⟨o,ge _ _ e,d⟩
 refine⟨aOW L I f hf,rfl,I.bare,Un.kept hk,⟨_,q0,λj x v e1 e2 e3=>?_⟩,λx c e=>?_,?_,λx c e=>?_,λp hp=>absurd (show p∈([]:List (Addr×Obj)) from hp) (by simp),I.hok.kept ge,?_⟩;obtain⟨j',i,ej,ec,es⟩:=aDV L e2;obtain⟨y,h1,h2,h3,h4⟩:=L.cap j' i ec;have M:N'[j]? = some x:=e1;rw[ej,h1] at M;have ey:y=x:=An M;subst ey;obtain⟨m,hn,hl⟩:=I.loc;obtain⟨u,ru,lk⟩:=hl i y v h2 es (.inr (.inl h4));rcases lk with⟨k1,_⟩|⟨_,c,W,hc⟩
 rw[h4] at k1;cases k1;refine⟨u,ru,.inr ⟨?_,c,?_,G hc⟩⟩;have U:Vis (IL scope X.env) y:=e3;rcases U with z|z|z;rcases relabel_lookup z with⟨z,_⟩|z;cases z;rw[h3] at z;cases z;exact .inl z;exact .inr z;obtain⟨c',e⟩:=eA (kN (cells:=X.env.cells) (acc:=[]) (eX h3));have e':=cC hh e;rw[W] at e';cases e';exact e;obtain⟨v,q⟩:=I.cell x c (cC hh e);exact⟨v,G q⟩;exact I.hok.fresh (Ev _);exact I.freeC x c (cC hh e);show(gB k caps Z).length=N'.length;unfold gB;rw[lA,Be,lM,L.len]
theorem xB{tg W elt:A2}{q5:List A2}{pos:EJ}{g:TG}{tt:TT}{te:TE}{it:Addr}{tn:Nat->Heap->Prop}{J:It}{RR:Value->Addr->GX->Ad->Prop}{E:Value->Ad->Prop}{Q:VK}
 (CS:cG X scope k caps N') (hc:X.calm=true) (I:Inv X pins Z H s) (T:yV X.prog X.w X.K tg J fp it tn) (st:tn 0 s.heap) (f:∀b∈fp,kA X pins H b)
 (x4:∀C s₀ H₀ ex,PG (cU X scope N' C s₀ H₀ ex) tg g/\PTs (cU X scope N' C s₀ H₀ ex) q5 tt/\PE (cU X scope N' C s₀ H₀ ex) elt te)
 (hw:∃W0:Nat->Nat->List V->St->Hp->Prop,(∃m,W0 0 m [] (gB k caps Z) H)/\∀i m L Z1 H,W0 i m L Z1 H ->
  (J.stop i H/\L.length<=sizeLine/\∀p,H p=none->Q (.ref p) (upd H p (.lst L))) \/
  (J.go i H/\L.length<sizeLine/\∀x H',J.yld i H x H'->g x Z1 H' λZ2 H2=>tt Z2 H2 λb H3=>
   if b=true then te Z2 H3 λy H4=>∃m',m'<m/\W0 (i+1) m' (L++[y]) Z2 H4 else ∃m',m'<m/\W0 (i+1) m' L Z2 H3))
 (hR:∀D C s' H' m,Inv X pins Z H' s'->s'.heap.Ns C m->s.heap.objs.size<C->(∀(Z':St) (q2:Ad) (h':Heap),Inv X pins Z' H' q2->B5 C q2.heap h'->Inv X pins Z' H' { q2 with heap:=h' })->Q (.ref D) H'->RR (.ref D) C (.ok .next) s') :
 wpAny (A1 X.prog X.w) X.A (JS []) (λacc z5=>wpAny (A1 X.prog X.w) X.A (newFunctionEnv scope X.env.globals (jF X.env.cells scope.names []) [] X.env.qual none .none (some X.env)) (λq9 z6=>
  Eo (A1 X.prog X.w) X.A (.compStart (.ListComp elt [⟨tg,W,q5,0⟩] scope pos) 0 (.ref it) acc { q9 with scope:=IL scope X.env }) (RR acc q9.locals) z6) E z5) E s:=by
 obtain⟨W0,⟨m0,w0⟩,z7⟩:=hw;have hf:∀b∈fp,b<s.heap.objs.size:=λb B=>by obtain⟨o,e,_⟩:=T.obj 0 _ st b B;exact Am e
 refine AM (wpAny_newFunctionEnv CS.nocell (by intro y hy;simp at hy) (λG q3 q4=>?_) CS.kind);have hsz:(s.heap.push (cX [] 0)).objs.size=s.heap.objs.size+1:=BC _ _;have x6:G.Ns (s.heap.objs.size+1) λ_=>none:=by have:=q3;rw[show({ s with heap:=s.heap.push (cX [] 0) }:Ad).heap.objs.size=s.heap.objs.size+1 from hsz] at this;exact this
 have hk:∀b o,(s.heap.push (cX [] 0)).get? b=some o->G.get? b=some o:=λb o e=>q4.extBut b o (Aw (by have:=Am e;rw[hsz] at this;show b<(s.heap.push (cX [] 0)).objs.size;rw[hsz];exact this)) (Ab _ e);have I0:=aMc (N':=N') CS I f hf (tk:=s.toks+([]:List (Str×Value)).length) x6 hk;have v3:∀{b:Addr},b<s.heap.objs.size->b≠s.heap.objs.size+1:=λ{b} B=>Aw (Br B);have z1:H s.heap.objs.size=none:=I.fresh;have hh:∀n,(n,AX)∈scope.names->∃c,X.env.cells.lookup n=some c:=λn hn=>I.ok.has n (CS.free n hn);have x1:G.get? s.heap.objs.size=some (cX [] 0):=hk _ _ (Al _ rfl);have z4:∀b∈frs X.stack,b<s.heap.objs.size:=λb B=>by obtain⟨_,o,ho,_⟩:=I.stack.mem B;exact Am ho
 have w4:∀(pl:List (Addr×Obj)),(∀p∈pl,p.1=s.heap.objs.size)->∀{H':Hp},(∀b∈fp,H' b=none)->∀b∈fp,kA (cU X scope N' (s.heap.objs.size+1) { s with heap:=s.heap.push (cX [] 0) } H (s.heap.objs.size::fp)) pl H' b:=by
  intro pl x8 H' hn b B;refine⟨hn b B,v3 (hf b B),λz=>?_,.inl (Ag _ B),λx c e=>(f b B).2.2.2.2.1 x c (cC hh e),λp U z=>?_⟩;rcases As.mp (I.stkSub b z) with q|q;exact(f b B).2.1 q;exact(f b B).2.2.1 q;have x7:p∈pl:=by simpa[cU] using U
  rw[x8 p x7] at z;exact absurd (hf b B) (by rw[<-z];exact AC _)
 have q0:∀{Z':St} {H':Hp} {s':Ad} {its:List Value} {n:Nat} {pl:List (Addr×Obj)},Inv (cU X scope N' (s.heap.objs.size+1) { s with heap:=s.heap.push (cX [] 0) } H (s.heap.objs.size::fp)) pl Z' H' s' ->
  s'.heap.get? s.heap.objs.size=some (cX its n)->H' s.heap.objs.size=none->Inv (cU X scope N' (s.heap.objs.size+1) { s with heap:=s.heap.push (cX [] 0) } H (s.heap.objs.size::fp)) [(s.heap.objs.size,cX its n)] Z' H' s':=by
  intro Z' H' s' its n pl J e nn;refine J.pins_of λp U=>?_;have:p=(s.heap.objs.size,cX its n):=by simpa using U
  subst this;refine⟨e,nn,Aw (Bz _),λz=>absurd (z4 _ z) (AC _),λv z=>by cases z⟩
 have start:Eo (A1 X.prog X.w) X.A (.compLoop (.ListComp elt [⟨tg,W,q5,0⟩] scope pos) 0 (.ref it) (.ref s.heap.objs.size) (Ks scope (jF X.env.cells scope.names []) (s.heap.objs.size+1) X.env))
  (RR (.ref s.heap.objs.size) (s.heap.objs.size+1)) { s with heap:=G,toks:=s.toks+([]:List (Str×Value)).length }:=by
  refine iC (λn s'=>∃i L its cnt Z1 H',Inv (cU X scope N' (s.heap.objs.size+1) { s with heap:=s.heap.push (cX [] 0) } H (s.heap.objs.size::fp)) [(s.heap.objs.size,cX its cnt)] Z1 H' s' /\
   tn i s'.heap/\(∀b∈fp,H' b=none)/\aS L its/\W0 i n L Z1 H') ?_ m0 ⟨0,[],[],0,_,H,q0 I0 x1 z1,T.keep _ _ _ st λb _ o e=>hk b o (Ab _ e),λb B=>(f b B).1,.nil,w0⟩
  rintro n s3 ⟨i,L,its,cnt,Z1,H3,I3,z3,z0,q1,w3⟩;obtain⟨v4,v5,_⟩:=I3.pin (s.heap.objs.size,cX its cnt) (by simp[cU]);have w5:∀p∈[(s.heap.objs.size,cX its cnt)],p.1=s.heap.objs.size:=λp U=>by
   have:p=(s.heap.objs.size,cX its cnt):=by simpa using U
   rw[this]
  rcases z7 i n L Z1 H3 w3 with⟨stop,hz,qn⟩|⟨go,hz,step⟩
  refine thn (T.done (cU X scope N' (s.heap.objs.size+1) { s with heap:=s.heap.push (cX [] 0) } H (s.heap.objs.size::fp)) rfl rfl rfl hc i _ s3 _ H3 _ I3 (w4 _ w5 z0) z3 stop) λr s4 ⟨hr,I4⟩=>?_;subst hr;obtain⟨x2,z2,_⟩:=I4.pin (s.heap.objs.size,cX its cnt) (by simp[cU]);have u4:=I4.base;have nb:∀{b:Addr} {o:Obj},s.heap.get? b=some o->b∉fp->b∉s.heap.objs.size::fp:=λ{b o} e B z=>by rcases As.mp z with z|z;exact absurd (Am e) (by rw[z];exact AC _);exact B z
  have v2:∀{b:Addr} {o:Obj},s.heap.get? b=some o->b≠s.heap.objs.size:=λ{b o} e=>Aw (Am e);have w9:∀{b:Addr} {o:HO},H b=some o->b≠s.heap.objs.size:=λ{b o} e=>bB e z1;have u:Un (frs X.stack) fp H (upd H3 s.heap.objs.size (.lst L)) s.heap s4.heap:={
   keep:=λb o e nn B hx=>u4.keep b o (Ab _ e) nn B (nb e hx)
   slot:=λb o e nn B hx=>u4.slot b o (Ab _ e) nn B (nb e hx)
   free:=λb o e nn hx=>by rw[upd_ne (v2 e)];exact u4.free b o (Ab _ e) nn (nb e hx)
   there:=λb o e hx=>u4.there b o (Ab _ e) (nb e hx)
   tups:=λb xs e=>by rw[upd_ne (w9 e)];exact u4.tups b xs e
   frzs:=λb o u e=>by rw[upd_ne (w9 e)];exact u4.frzs b o u e
   tbls:=λb ps e=>by rw[upd_ne (w9 e)];exact u4.tbls b ps e }
  have hl:=q1.length;have hok:HOk X.prog X.w (upd H3 s.heap.objs.size (.lst L)) s4.heap:=HOk.track I4.hok z2 ⟨hz,its,cnt,q1,x2⟩;have I5:Inv X pins Z (upd H3 s.heap.objs.size (.lst L)) s4:=I.call' I4.os u hok I4.bare λb B=>⟨(f b B).2.2.2.1,(f b B).2.1,(f b B).2.2.2.2.1,(f b B).2.2.2.2.2⟩
  obtain⟨m4,x5,_⟩:=I4.loc;refine hR s.heap.objs.size (s.heap.objs.size+1) s4 _ m4 I5 x5 (Bz _) (λZ' q2 h' I6 x9=>?_) (qn _ z2);have:=I6.turned (t':=q2.toks) (h':=h') (it:=s.heap.objs.size+1) (λb o B e=>x9.extBut b o B e) (by rw[upd_ne (BE (Bz _))];exact I4.free)
   (BE (Br I.lt)) (.inr (HH I.sz)) (λx c e=>Aw (Br (I.cellLt e))) λp U z=>?_
  exact this;have:=Am (I.pin p U).1;rw[z] at this;exact absurd this (DN.mpr (Ev _));refine thn (T.item (cU X scope N' (s.heap.objs.size+1) { s with heap:=s.heap.push (cX [] 0) } H (s.heap.objs.size::fp)) rfl rfl rfl hc i _ s3 _ H3 _ I3 (w4 _ w5 z0) z3 go) λr s4 ⟨u,hr,h4⟩=>?_;subst hr;refine thn h4 λ_ s5 ⟨x,H5,I5,r5,y5,w6,x0⟩=>?_;obtain⟨hg,ht,he⟩:=x4 (s.heap.objs.size+1) { s with heap:=s.heap.push (cX [] 0) } H (s.heap.objs.size::fp);have z9:=I5.pinned (w4 _ w5 x0) (T.obj _ _ w6);have keep:∀{Z7:St} {H7:Hp} {s7:Ad},Inv (cU X scope N' (s.heap.objs.size+1) { s with heap:=s.heap.push (cX [] 0) } H (s.heap.objs.size::fp)) ([(s.heap.objs.size,cX its cnt)]++oQ fp s5.heap) Z7 H7 s7 ->
   tn (i+1) s7.heap/\(∀b∈fp,H7 b=none)/\s7.heap.get? s.heap.objs.size=some (cX its cnt)/\H7 s.heap.objs.size=none:=by intro Z7 H7 s7 I7;obtain⟨x3,v1,_⟩:=I7.pin (s.heap.objs.size,cX its cnt) (by simp[cU]);refine⟨T.keep _ _ _ w6 λb B o e=>(I7.pin (b,o) (A5 _ (A5 _ (fV B e)))).1,λb B=>?_,x3,v1⟩;obtain⟨o,e,d⟩:=T.obj _ _ w6 b B;exact(I7.pin (b,o) (A5 _ (A5 _ (fV B e)))).2.1
  refine thn (hg _ s5 _ H5 x u _ z9 r5 (step x H5 y5)) λ_ s6 ⟨Z6,H6,I6,q6⟩=>?_;refine thn (ht _ s6 Z6 H6 _ I6 q6) λb s7 ⟨H7,I7,q7⟩=>?_;cases b with
  | false=>rw[if_neg bN] at q7 ⊢;obtain⟨m',hm,w7⟩:=q7;obtain⟨t7,f7,d7,n7⟩:=keep I7;exact⟨m',hm,i+1,L,its,cnt,Z6,H7,q0 I7 d7 n7,t7,f7,q1,w7⟩|true=>
   rw[if_pos rfl] at q7 ⊢;refine thn (he _ s7 Z6 H7 _ I7 q7) λyv s8 ⟨y,H8,I8,r8,q8⟩=>?_;obtain⟨m',hm,w8⟩:=q8;obtain⟨t8,f8,d8,n8⟩:=keep I8;have hl:=q1.length;have v0:its.toArray.size<=sizeLine:=by rw[Aj];omega
   refine Ei Ha ⟨_,d8,rfl⟩ G9 (Gk _ _) (Hy s.heap.objs.size its.toArray cnt yv v0) ⟨d8,?_⟩;have q:=HU d8 (λa=>a.push yv);have e':its.toArray.push yv=(its++[yv]).toArray:=by simp
   rw[e'] at q;have I9:=(I8.unpinned (pins:=[(s.heap.objs.size,cX its cnt)])).pins_of (pins':=[]) (λp U=>absurd U (by simp));have z8:=I9.turned (t':=s8.toks) (it:=s.heap.objs.size) (h':=s8.heap.update s.heap.objs.size (B0 λa=>a.push yv)) (λb o B e=>(De s8.heap _ (DI B)).trans e) n8
    (Aw (Bz _)) (.inl Ai) (λx c e=>Aw (I.cellLt (cC hh e))) (λp U=>absurd (show p∈([]:List (Addr×Obj)) from by simpa[cU] using U) (by simp))
   refine⟨m',hm,i+1,L++[y],its++[yv],_,Z6,H8,q0 z8 q n8,?_,f8,q1.append (.cons r8 .nil),w8⟩;refine T.keep _ _ _ t8 λb B o e=>(De s8.heap _ ?_).trans e;intro z;exact absurd (hf b B) (by rw[<-z];exact AC _)
 have M:∀C,C=s.heap.objs.size+1->Eo (A1 X.prog X.w) X.A (.compLoop (.ListComp elt [⟨tg,W,q5,0⟩] scope pos) 0 (.ref it) (.ref s.heap.objs.size) (Ks scope (jF X.env.cells scope.names []) C X.env))
  (RR (.ref s.heap.objs.size) C) { s with heap:=G,toks:=s.toks+([]:List (Str×Value)).length }:=by rintro C rfl;exact start
 exact codeAny_compStart_list (M _ hsz) (T.self X.A 0 _ _ _ (T.keep _ _ _ st λb _ o e=>hk b o (Ab _ e)) (M _ hsz))
end
section
variable {X:Cx} {scope:Dp} {k:Nat} {caps:List Nat} {N':List Str} {tg iter elt:A2} {ifs:List A2} {pos:EJ} {wi:TI} {g:TG} {tt:TT} {te:TE}
theorem uE(G:cG X scope k caps N')(hc:X.calm=true)(hi:PI X tg iter wi)
 (L:∀C s₀ H₀ ex,PG (cU X scope N' C s₀ H₀ ex) tg g/\PTs (cU X scope N' C s₀ H₀ ex) ifs tt/\PE (cU X scope N' C s₀ H₀ ex) elt te) (hs:∀x,Cb iter X.env x=pure x) :
 PE X (.ListComp elt [⟨tg,iter,ifs,0⟩] scope pos) (aDU k caps wi g tt te):=by intro pins s Z H Q I h;rw[eval_ListComp];refine Ft (use:=none) rfl hs (gQ λn M=>I.ok.has n (G.free n M)) G.kind G.loc (thn (hi pins s Z H _ I h) λxv s1 h1=>thn h1 λq0 s2 h2=>?_);obtain⟨it,fp,tn,J,H2,e,I2,T,W,f2,hw⟩:=h2;subst e;exact xB (RR:=λacc C=>compPost (A1 X.prog X.w) X.A X.xe none (EP X pins Z Q) acc C) (Q:=Q) G hc I2 T W f2 L hw λD C s' H' m J M _ B q=>⟨m,M,λh' U=>⟨.ref D,H',B Z s' h' J U,rfl,q⟩⟩
theorem zT(B:cG X scope k caps N')(hc:X.calm=true)(hi:PI X tg iter wi)
 (L:∀C s₀ H₀ ex,PG (cU X scope N' C s₀ H₀ ex) tg g/\PTs (cU X scope N' C s₀ H₀ ex) ifs tt/\PE (cU X scope N' C s₀ H₀ ex) elt te) (hs:∀x,Cb iter X.env x=pure x)
 (hN:X.N.Nodup) (M:X.N[i]? = some x) (hx:Loc X.env.scope x) (hf:X.fn x=true\/X.env.scope.names.lookup x=some .local) :
 PS X (.Assign [.Name x pos'] (.ListComp elt [⟨tg,iter,ifs,0⟩] scope pos) spos) (aFF (aDU k caps wi g tt te) (rK i)):=by
 have W:∃b,JD (.ListComp elt [⟨tg,iter,ifs,0⟩] scope pos) (some (.Name x pos')) spos.line X.env=pure b:=⟨_,rfl⟩
 obtain⟨b,W⟩:=W;cases b with
 | false=>exact lV hN M hx (uE B hc hi L hs) W hf|true=>intro pins s Z H D I h;rw[exec_Assign_Name_used x pos' _ spos W];refine Aa (GH (Aa ?_));show wpAny _ _ (comprehension (.ListComp elt [⟨tg,iter,ifs,0⟩] scope pos) scope X.env (firstIterPos [⟨tg,iter,ifs,0⟩] pos) (JS []) (firstAsync [⟨tg,iter,ifs,0⟩]) (firstIter [⟨tg,iter,ifs,0⟩] X.env) (some (F9 (.Name x pos') X.env)) >>= λ_=>pure ()) _ _ s;refine Aa (Ft (use:=some (F9 (.Name x pos') X.env)) rfl hs (gQ λn hn=>I.ok.has n (B.free n hn)) B.kind B.loc (thn (hi pins s Z H _ I h) λxv s1 h1=>thn h1 λq4 s2 h2=>?_));obtain⟨it,fp,tn,J,H2,e,I2,T,q3,f2,hw⟩:=h2;subst e;refine xB (Q:=λv H'=>D.nx (Z.set i (some v)) H') (RR:=λacc C=>compPost (A1 X.prog X.w) X.A X.xe (some (F9 (.Name x pos') X.env)) (λ_ U=>wpAny (A1 X.prog X.w) X.A (pure ()) (λ_ U=>wpAny (A1 X.prog X.w) X.A (pure Flow.next) (SP X pins D) X.xe U) X.xe U) acc C) B hc I2 T q3 f2 L hw λD' C U H' m J hn lt G q=>?_;show wpAny _ _ (F9 (.Name x pos') X.env (.ref D')) _ _ U;refine Ht (rJ (v:=V.ref D') J hN M hx rfl (λq2 J' q1=>?_) hf);obtain⟨a,sb,ha⟩:=q1;refine⟨m,hn.sameBut sb ?_,λh' q0=>?_⟩;rcases ha with z|z;rw[z];exact BE (EB I2.lt lt);exact BE (EB (I2.cellLt z) lt);exact Ac (Ac ⟨_,H',G _ q2 h' J' q0,q⟩)
end
end L2
namespace Hp
open PySem PySem.Spec PyProof.Rows L2
def Od(K:Fg)(H:Hp)(b:Addr):Prop:=H b=none->K.lookup b≠none
theorem zU{K:Fg}(h:¬ Od K H a):H a=none/\K.lookup a=none:=⟨Bk λz=>h λy=>absurd y z,Bk λz=>h λ_=>z⟩
theorem kO{RT Y old:Addr->Prop}(h:exV RT Y old Z ZV pa al b)(I:pb=true->pa=true)(B:∀j∈bl,j∈al):exV RT Y old Z ZV pb bl b:=by
 rcases h with⟨h,n⟩|h|⟨z,h⟩
 exact .inl ⟨h,λ⟨j,G,q⟩=>n ⟨j,B j G,q⟩⟩;exact .inr (.inl h);cases pb with
 | true=>rw[I rfl] at z;cases z|false=>exact .inr (.inr ⟨rfl,h⟩)
def Rr(K:Fg)(H H':Hp)(Y:Addr->Prop)(r:Rt)(u:V):Prop:=
 if r.2.1=true then ∃a xs ds,u=.ref a/\r.1=.lst ds/\(H a=none/\K.lookup a=none)/\H' a=some (.lst xs)/\Reps K H' (λb=>b=a\/Y b\/(r.2.2=false/\Od K H b)) ds xs
 else Rep K H' (λb=>Y b\/(r.2.2=false/\Od K H b)) r.1 u
def spF(K:Fg)(P:Pg)(n:Nat)(f:Nat):Sp:=λvs H Q _=>∃(ds:List D) (Y:Addr->Prop),(∀a,Y a->Od K H a)/\Reps K H Y ds vs/\RE (call P n f ds) λr=>∀u H',Tk K H'->aI H H'->Rr K H H' Y r u->Q u H'
def spL(K:Fg)(P:Pg)(n:Nat)(f:Nat):Sp:=λvs H Q _=>nG P f=true/\∃(cs ds:List D) (p:Addr) (xs us:List V) (Y:Addr->Prop),vs=.ref p::us/\(∀a,Y a->Od K H a)/\H p=some (.lst xs) /\
 Reps K H (λb=>b=p\/Y b) cs xs/\Reps K H (λb=>b=p\/Y b) ds us/\RE (call P n f (.err 0 cs::ds)) λr=>∃d cs',aDy r.1=some (d,cs')/\∀(u:V) (H':Hp) (R2:Addr->Prop) (xs':List V),Tk K H'->Kp (λb=>b=p) H H'->R2 p->(∀b,R2 b->b=p\/H b=none)->H' p=some (.lst xs') ->
  Reps K H' (λb=>R2 b\/Y b) cs' xs'->(if r.2.1=true then ∃a ys es,u=.ref a/\d=.lst es/\(H a=none/\K.lookup a=none)/\R2 a/\H' a=some (.lst ys)/\Reps K H' (λb=>R2 b\/Y b\/(r.2.2=false/\Od K H b)) es ys
   else Rep K H' (λb=>R2 b\/Y b\/(r.2.2=false/\Od K H b)) d u)->Q u H'
def spC(K:Fg)(P:Pg)(n:Nat)(f:Nat):Sp:=λvs H Q _=>aCb P f 2=true/\∃(d1 d2 d:D) (u1 u2 u:V) (Y Z0:Addr->Prop),vs=[u1,u2,u]/\(∀a,Y a->Od K H a/\¬ Z0 a)/\Rep K H Y d1 u1/\Rep K H Y d2 u2/\Rep K H (λb=>Od K H b/\¬ Z0 b) d u /\
 RE (call P n f [d1,d2,.err 2 [d]]) λr=>∀u' H',Tk K H'->aI H H'->Rep K H' (λb=>Y b\/(r.2.2=false/\Od K H b/\¬ Z0 b)) r.1 u'->Q u' H'
def spA(K:Fg)(P:Pg)(n:Nat)(f:Nat):Sp:=λvs H Q E=>spF K P n f vs H Q E\/spL K P n f vs H Q E\/spC K P n f vs H Q E
noncomputable def bltNames:List Str:=["len", "list", "tuple", "min", "max", "abs", "int", "str", "sum", "all", "any", "sorted", "bool", "range", "zip", "enumerate", "reversed", "set", "isinstance", "dict", "repr"]
structure Md (X:Cx) (P:Pg) (Γ:Ct) (n:Nat):Prop where
 fn:∀(f:Nat) (x:Str),Γ.fns[f]? = some x->∃fa fd ps,X.mg x=some (.ref fa)/\CQ X.K (.ref fa)=true/\jG X.K fd ps []/\nT X.prog X.w X.K X.mg X.base CX0 n fa fd ps (spA X.K P n f)
 blt:∀x∈bltNames,X.mg x=none
 cns:∀(x:Str) (d:D),Γ.cns.lookup x=some d->∃u v,X.mg x=some u/\bJ v u/\∀H ex,Rep X.K H ex d v
 tab:∀(i:Nat) (x:Str),Γ.tbs[i]? = some x->∃a t,X.mg x=some (.ref a)/\P.tabs[i]? = some t/\xA X.prog X.w X.K a t
structure Mc (X:Cx) (P:Pg) (Γ:Ct) (n:Nat):Prop where
 md:Md X P Γ n
 N:X.N=Γ.N
 nd:X.N.Nodup
 sc:X.env.scope.names=Γ.sc
 calm:X.calm=true
 room:jM n X.A
 xe:X.xe=λ_ _=>False
 st:∀x:Str,wK Γ x=true->X.fn x=true\/X.env.scope.names.lookup x=some .local
 fk:X.env.scope.kind=.function
section
variable {X:Cx} {P:Pg} {Γ:Ct} {n:Nat}
theorem Mc.units(M:Mc X P Γ n):X.A.units+200<C5:=by have:=M.room.un;omega
theorem Mc.vis(M:Mc X P Γ n)(h:aDz Γ x=true):Vis X.env.scope x:=by
 unfold aDz at h;unfold Vis;rw[M.sc];cases q:Γ.sc.lookup x with
 | none=>rw[q] at h;cases h|some k=>rw[q] at h;cases k <;> first|exact .inl rfl|exact .inr (.inl rfl)|exact .inr (.inr rfl)|cases h
theorem Mc.loc(M:Mc X P Γ n)(h:wK Γ x=true):L2.Loc X.env.scope x:=by
 unfold wK at h;unfold L2.Loc;rw[M.sc];cases q:Γ.sc.lookup x with
 | none=>rw[q] at h;cases h|some k=>rw[q] at h;cases k <;> first|exact .inl rfl|exact .inr rfl|cases h
theorem Mc.gl(M:Mc X P Γ n)(h:bT Γ x=true):Gl X x:=by
 unfold bT at h;unfold Gl;show X.env.scope.names.lookup x=_;rw[M.sc];cases q:Γ.sc.lookup x with
 | none=>rw[q] at h;cases h|some k=>rw[q] at h;cases k <;> first|rfl|cases h
theorem aM(h:bO x=true):(x==("__debug__" : Str))=false:=by unfold bO at h;simp only[bA,Dm] at h;exact h.1
theorem fO(h:bO x=true):(x==("__classdict__" : Str))=false:=by unfold bO at h;simp only[bA,Dm] at h;exact h.2
theorem aJa:∀{d d':D},eqK d d'=true->d=d':=by intro d d' h;cases d <;> cases d' <;> simp[eqK] at h <;> first|rfl|(subst h;rfl)
def aK:A2->Bool
 | .Starred _ _=>false|.Slice _ _ _ _=>false|.Set _ _ _=>false|_=>true
theorem xC{α:Type}{o:Option α}{f:α->Bool}(h:oB o f=true):∃a,o=some a/\f a=true:=by
 cases o with
 | none=>cases h|some a=>exact⟨a,rfl,h⟩
theorem aD{α:Type}{q:α->Prop}{o:Option { a:α // q a }}{f:α->Bool}(h:oS o f=true):∃a,q a/\f a=true:=by
 cases o with
 | none=>cases h|some a=>exact⟨a.1,a.2,h⟩
theorem aJ{c:E}{e:A2}(h:aQ Γ c e=true):aK e=true:=by
 cases c with
 | c d=>rcases(C3 _ _).mp (show(oS (asC e) (eqC d)||oS (asN e) λx=>bT Γ x&&bO x&&oB (Γ.cns.lookup x) (eqK d))=true from h) with h|h;obtain⟨_,⟨_,_,rfl⟩,_⟩:=aD h;rfl;obtain⟨_,⟨_,rfl⟩,_⟩:=aD h;rfl
 | v i=>obtain⟨_,⟨_,rfl⟩,_⟩:=aD h;rfl|op o a b=>obtain⟨_,⟨_,rfl⟩,_⟩:=aD h;rfl|neg a=>obtain⟨_,⟨_,rfl⟩,_⟩:=aD h;rfl|nt a=>obtain⟨_,⟨_,rfl⟩,_⟩:=aD h;rfl|an a b=>obtain⟨_,rfl,_⟩:=aD h;rfl|orr a b=>obtain⟨_,rfl,_⟩:=aD h;rfl|ife t a b=>obtain⟨_,⟨_,rfl⟩,_⟩:=aD h;rfl|cmp o a b=>obtain⟨_,⟨_,rfl⟩,_⟩:=aD h;rfl|cmp2 B G a b c=>obtain⟨_,⟨_,rfl⟩,_⟩:=aD h;rfl|idx a b=>obtain⟨_,⟨_,rfl⟩,_⟩:=aD h;rfl|sli a lo hi=>obtain⟨_,⟨_,rfl⟩,_⟩:=aD h;rfl|tup es=>obtain⟨_,⟨_,_,rfl⟩,_⟩:=aD h;rfl|lst es=>obtain⟨_,⟨_,rfl⟩,_⟩:=aD h;rfl|call f es=>obtain⟨_,⟨_,_,rfl⟩,_⟩:=aD h;rfl|bi b es=>obtain⟨_,⟨_,_,rfl⟩,_⟩:=aD h;rfl|mth _ _ _=>cases h|isi a cs=>obtain⟨_,⟨_,_,rfl⟩,_⟩:=aD h;rfl|comp k caps t it cond elt=>obtain⟨_,⟨_,rfl⟩,_⟩:=aD h;rfl|numset _=>cases h|tget _ _=>cases h|lzip _ _=>cases h|lix i k=>obtain⟨_,⟨_,rfl⟩,_⟩:=aD h;rfl|stp _ _=>cases h|dic ks vs=>cases h|attr _ _=>cases h|sset a=>obtain⟨_,⟨_,_,rfl⟩,_⟩:=aD h;rfl|callP f es=>obtain⟨_,⟨_,_,rfl⟩,_⟩:=aD h;rfl|srtD i=>obtain⟨_,⟨_,_,rfl⟩,_⟩:=aD h;rfl|callC f a b c=>obtain⟨_,⟨_,_,rfl⟩,_⟩:=aD h;rfl
theorem aA(h:aK e=true):AT (e::es) env=(false,Dn e env)::AT es env:=by cases e <;> first|rfl|cases h
theorem eY:∀{cs:Es} {es:List A2},chkEs Γ cs es=true->es.all aK=true
 | .nil,[],_=>rfl|.nil,_::_,h=>by cases h|.cons _ _,[],h=>by cases h|.cons c cs,e::es,h=>by simp only[chkEs,bA] at h;rw[DF,aJ h.1,eY h.2];rfl
theorem bP:∀{es:List A2},es.all aK=true->(D7 pos (AT es env)).any (·.1)=false
 | [],_=>rfl|e::es,h=>by rw[DF,bA] at h;rw[aA h.1];show(false||(D7 pos (AT es env)).any (·.1))=false;rw[bP h.2];rfl
theorem jR(h:aK e=true):aAG e:=by intro o i;cases e <;> first|rfl|cases h
theorem fP(h:aK e=true):∀x,Cb e env x=pure x:=by intro x;cases e <;> first|rfl|cases h
theorem kP(h:aK e=true):GI op e=false:=by cases e <;> first|rfl|cases h
variable {RT Y old:Addr->Prop} {Z:Sg} {pos:EJ}
abbrev WE(X:Cx)(P:Pg)(n:Nat)(RT Y old:Addr->Prop)(Z:Sg)(c:E):TE:=wE X P (call P n) RT Y old Z c
abbrev WT(X:Cx)(P:Pg)(n:Nat)(RT Y old:Addr->Prop)(Z:Sg)(c:E):TT:=wT X P (call P n) RT Y old Z c
abbrev WA(X:Cx)(P:Pg)(n:Nat)(RT Y old:Addr->Prop)(Z:Sg)(c:Es):TA:=wA X P (call P n) RT Y old Z c
theorem RE.bind'{α B:Type}{x:R α}{f:α->R B}{p:B->Prop}(h:RE (x >>= f) p):RE x λa=>RE (f a) p:=by rwa [RE.bind] at h
theorem wE.one{p:Vl->Prop}{Q:V->Hp->Prop}(S:Sx X.K RT Y old Z ZV H)(h:RE (ev P (call P n) Z a) p)
 (f:∀x u H',p x->Tk X.K H'->Sx X.K RT Y old Z ZV H'->Ro X.K RT Y old Z ZV H H' x u->Q u H'):WE X P n RT Y old Z a ZV H Q:=
 ⟨S,h.mono λx B u H' t r=>f x u H' B t (S.grow r.1 t) r⟩
theorem aOX(ha:PE X ea (WE X P n RT Y old Z a))(hb:PE X eb (WE X P n RT Y old Z b)):PE X (.BinOp ea o eb pos) (WE X P n RT Y old Z (.op o a b)):=by
 intro pins s ZV H Q I hw;obtain⟨S,h⟩:=hw;have h:=RE.bind' (show RE (ev P (call P n) Z a >>= λx=>ev P (call P n) Z b >>= λy=>opD o x y) _ from h);refine Kt (thn (ha pins s ZV H (λux H1=>WE X P n RT Y old Z b ZV H1 λuy B=>∃x y,Sx X.K RT Y old Z ZV B/\aI H B/\Rv X.K RT Y old Z ZV B x ux/\Rv X.K RT Y old Z ZV B y uy/\(x.fr=true->∃a xs,ux=.ref a/\B a=some (.lst xs))/\RE (opD o x y) (Wn X RT Y old Z ZV H Q)) I
  (wE.one S h λx u H1 U t1 S1 r1=>wE.one S1 (RE.bind' U) λy u' B W t2 L G=>⟨x,y,L,r1.1.trans G.1,(r1.rv S).grow G.1,G.rv S1,λM=>?_,W⟩)) λv s1 ⟨x',H1,I1,rx,q1⟩=>thn (hb pins s1 ZV H1 _ I1 q1) λu s2 ⟨y',B,I2,ry,q2⟩=>?_)
 have:=r1.2;rw[if_pos M] at this;obtain⟨a',xs,ds,e1,_,_,e4,_⟩:=this;exact⟨a',xs,e1,G.1 _ _ e4⟩;obtain⟨x,y,L,sm,U,W,M,h⟩:=q2;exact wV I2 L rx ry U W M (h.mono λv hv u H' t r=>hv u H' t (r.from sm))
theorem aMd(I:PE X ea (WE X P n RT Y old Z a)):PE X (.UnaryOp .USub ea pos) (WE X P n RT Y old Z (.neg a)):=by refine(aLq aIz I).imp λZV H Q t ⟨S,h⟩=>?_;have h:=RE.bind' (show RE (ev P (call P n) Z a >>= λx=>(match x.d with|.int i=>R.ok (Vl.cl (.int (-i)))|_=>.bad)) _ from h);refine wE.one S h λx u H1 B M L r1=>?_;split at B;rename_i i G;exact⟨i,(r1.rv S).int G,λt'=>B _ _ t' (Ro.cl r1.1 rfl)⟩;exact B.elim
theorem aDW{x:Vl}(B:Rv X.K RT Y old Z ZV H x u)(h:aDu x.d=some k):aFK X.K u H k:=by
 unfold aDu at h;split at h;rename_i d;rw[B.non d];exact(An h).symm;rename_i b d;rw[B.bl d];exact(An h).symm;rename_i i d;rw[B.int d];exact(An h).symm;rename_i z d;by_cases G:z.length<=lim;rw[if_pos G] at h;rw[B.str d];refine⟨dZ G,?_⟩;rw[<-An h];cases hz:z.length with
 | zero=>rfl|succ m=>simp;omega
 rw[if_neg G] at h;cases h;rename_i ds d;obtain⟨a,xs,e,q,r⟩:=B.tup d;rw[e];refine .inr (.inl ⟨xs,q,?_⟩);rw[<-An h];have:=r.length;cases ds <;> cases xs <;> first|rfl|(simp at this)
 rename_i ds d;obtain⟨a,xs,e,q,_,r⟩:=B.lst d;rw[e];refine .inl ⟨xs,q,?_⟩;rw[<-An h];have:=r.length;cases ds <;> cases xs <;> first|rfl|(simp at this)
 cases h
theorem RE.tru{x:Vl}{p:Bool->Prop}(h:RE (fF x) p):∃k,aDu x.d=some k/\p k:=by
 unfold fF at h;cases q:aDu x.d with
 | none=>rw[q] at h;exact h.elim|some k=>rw[q] at h;exact⟨k,rfl,h⟩
theorem aMe(ha:PE X ea (WE X P n RT Y old Z a)):PE X (.UnaryOp .Not ea pos) (WE X P n RT Y old Z (.nt a)):=by intro pins s ZV H Q I hw;obtain⟨S,h⟩:=hw;have h:=RE.bind' (show RE (ev P (call P n) Z a >>= λx=>fF x >>= λk=>R.ok (Vl.cl (.bl (!k)))) _ from h);refine UnaryOp_ (thn (ha pins s ZV H (λu H1=>∃k,aFK X.K u H1 k/\Q (.bl (!k)) H1) I (wE.one S h λx u H1 hx t1 S1 r1=>?_)) λv s1 ⟨u,H1,L,ru,k,B,q⟩=>?_);obtain⟨k,B,hp⟩:=RE.tru (RE.bind' hx);exact⟨k,aDW (r1.rv S) B,(show Wn X RT Y old Z ZV H Q (Vl.cl (.bl (!k))) from hp) _ _ t1 (Ro.cl r1.1 rfl)⟩;refine not_of (thn (aDh pins s1 ZV H1 u v (λk' H'=>k'=k/\H'=H1) L ru ⟨k,B,rfl,rfl⟩) λb s2 ⟨G,M,U,W⟩=>?_);subst U W;exact⟨.bl (!b),G,M,rfl,q⟩
theorem sG{e:A2}(G:PE X e (WE X P n RT Y old Z c))(L:∀B,isTrue e X.env B=(do let v<-B;KG e.pos;Ff [v] (truthy v)))
 (I:∀p,RE (tst P (call P n) Z c) p->RE (ev P (call P n) Z c) λx=>RE (fF x) p):PT X e (WT X P n RT Y old Z c):=by refine(aDi G L).imp λZV H Q t ⟨S,h⟩=>?_;refine wE.one S (I _ h) λx u H1 W t1 S1 r1=>?_;obtain⟨k,M,U⟩:=RE.tru W;exact⟨k,aDW (r1.rv S) M,λt'=>U _ t' r1.1⟩
theorem aMf(M:PE X ea (WE X P n RT Y old Z a))(U:PE X (.BoolOp .And (L::r) pos) (WE X P n RT Y old Z b)):PE X (.BoolOp .And (ea::L::r) pos) (WE X P n RT Y old Z (.an a b)):=by refine(aIn M U).imp λZV H Q t ⟨S,h⟩=>?_;have h:=RE.bind' (show RE (ev P (call P n) Z a >>= λx=>(match x.d with|.bl true=>ev P (call P n) Z b|.bl false=>R.ok (Vl.cl (.bl false))|_=>.bad)) _ from h);refine wE.one S h λx u H1 B t1 I r1=>?_;split at B;rename_i G;refine⟨true,(r1.rv S).bl G,?_⟩;rw[if_pos rfl];exact⟨I,B.mono λv W u H' t r=>λ_=>W u H' t (r.from r1.1)⟩;rename_i G;refine⟨false,(r1.rv S).bl G,?_⟩;rw[if_neg bN];exact λt'=>B _ _ t' (Ro.cl r1.1 rfl);exact B.elim
theorem aHQ(M:PE X ea (WE X P n RT Y old Z a))(U:PE X (.BoolOp .Or (L::r) pos) (WE X P n RT Y old Z b)):PE X (.BoolOp .Or (ea::L::r) pos) (WE X P n RT Y old Z (.orr a b)):=by refine(aLg M U).imp λZV H Q t ⟨S,h⟩=>?_;have h:=RE.bind' (show RE (ev P (call P n) Z a >>= λx=>(match x.d with|.bl true=>R.ok (Vl.cl (.bl true))|.bl false=>ev P (call P n) Z b|_=>.bad)) _ from h);refine wE.one S h λx u H1 B t1 I r1=>?_;split at B;rename_i G;refine⟨true,(r1.rv S).bl G,?_⟩;rw[if_pos rfl];exact λt'=>B _ _ t' (Ro.cl r1.1 rfl);rename_i G;refine⟨false,(r1.rv S).bl G,?_⟩;rw[if_neg bN];exact⟨I,B.mono λv W u H' t r=>λ_=>W u H' t (r.from r1.1)⟩;exact B.elim
theorem aMg(U:PT X et (WT X P n RT Y old Z t))(L:PE X ea (WE X P n RT Y old Z a))(M:PE X eb (WE X P n RT Y old Z b)):PE X (.IfExp et ea eb pos) (WE X P n RT Y old Z (.ife t a b)):=by
 refine(aCX U L M).imp λZV H Q W ⟨S,h⟩=>?_;have h:=RE.bind' (show RE (tst P (call P n) Z t >>= λx=>if x=true then ev P (call P n) Z a else ev P (call P n) Z b) _ from h);refine⟨S,h.mono λk B H1 I s1=>?_⟩;cases k with
 | true=>rw[if_pos rfl] at B ⊢;exact⟨S.grow s1 I,B.mono λv G u H' t r=>λ_=>G u H' t (r.from s1)⟩|false=>rw[if_neg bN] at B ⊢;exact⟨S.grow s1 I,B.mono λv G u H' t r=>λ_=>G u H' t (r.from s1)⟩
def w2(X:Cx)(P:Pg)(n:Nat)(RT Y old:Addr->Prop)(Z:Sg)(ZV:L2.St)(H:Hp)(p:Vl->Vl->Prop)(ux uy:V)(H2:Hp):Prop:=
 ∃x y,Sx X.K RT Y old Z ZV H2/\aI H H2/\Rv X.K RT Y old Z ZV H2 x ux/\Rv X.K RT Y old Z ZV H2 y uy/\p x y
theorem gC(M:Mc X P Γ n)(o:CmpOp):OpR X (BR o) (λB G H Q=>∃(Z:Sg) (ZV:L2.St) (x y:Vl) (k:Bool),Rv X.K RT Y old Z ZV H x B/\Rv X.K RT Y old Z ZV H y G/\bY o x.d y.d=some k/\Q (.bl k) H):=by intro pins s ZV H B G v u Q I rx ry h;obtain⟨Z',L,x,y,k,W,hy,U,q⟩:=h;exact aCl I M.units rx ry W hy U q
theorem aMh(M:Mc X P Γ n)(I:PE X ea (WE X P n RT Y old Z a))(L:PE X eb (WE X P n RT Y old Z b))(B:aK eb=true):PE X (.Compare ea [o] [eb] pos) (WE X P n RT Y old Z (.cmp o a b)):=by refine(aFJ (gC (RT:=RT) (Y:=Y) (old:=old) M o) I L (kP B)).imp λZV H Q t ⟨S,h⟩=>?_;have h:=RE.bind' (show RE (ev P (call P n) Z a >>= λx=>ev P (call P n) Z b >>= λy=>(match bY o x.d y.d with|some k=>R.ok (Vl.cl (.bl k))|none=>.bad)) _ from h);refine wE.two S (h.mono λx G=>RE.bind' G) λx y ux uy H2 B t2 s2 S2 G W=>?_;split at B;rename_i k U;exact⟨Z,ZV,x,y,k,G,W,U,λt'=>B _ _ t' (Ro.cl s2 rfl)⟩;exact B.elim
theorem kQ(M:Mc X P Γ n)(I:PE X ea (WE X P n RT Y old Z a))(L:PE X eb (WE X P n RT Y old Z b))(B:aK eb=true):PT X (.Compare ea [o] [eb] pos) (WT X P n RT Y old Z (.cmp o a b)):=by refine(aAD (gC (RT:=RT) (Y:=Y) (old:=old) M o) I L (kP B)).imp λZV H Q t ⟨S,h⟩=>?_;have h:=RE.bind' (show RE (ev P (call P n) Z a >>= λx=>ev P (call P n) Z b >>= λy=>(match bY o x.d y.d with|some k=>R.ok k|none=>.bad)) _ from h);refine wE.two S (h.mono λx G=>RE.bind' G) λx y ux uy H2 B t2 s2 S2 G W=>?_;split at B;rename_i k U;exact⟨Z,ZV,x,y,k,G,W,U,k,rfl,λt'=>B _ t' s2⟩;exact B.elim
theorem aMi(I:PE X ea (WE X P n RT Y old Z a))(L:PE X eb (WE X P n RT Y old Z b))(B:aK eb=true):PE X (.Subscript ea eb pos) (WE X P n RT Y old Z (.idx a b)):=by refine(aDp zE I L (jR B)).imp λZV H Q t ⟨S,h⟩=>?_;have h:=RE.bind' (show RE (ev P (call P n) Z a >>= λx=>ev P (call P n) Z b >>= λy=>bH x y) _ from h);refine wE.two S (h.mono λx G=>RE.bind' G) λx y ux uy H2 B W s2 S2 G U=>?_;exact sF W G U (B.mono λv M u H' t r=>M u H' t (r.from s2))
theorem aAY:PA X [] (WA X P n RT Y old Z .nil):=eQ.imp λZV H Q t ⟨S,h⟩ t'=>h [] H t' (aI.refl H) rfl
theorem mD(I:PE X e (WE X P n RT Y old Z c))(M:PA X es (WA X P n RT Y old Z cs))(L:aK e=true):PA X (e::es) (WA X P n RT Y old Z (.cons c cs)):=by
 refine(cI I M (aA L)).imp λZV H Q t ⟨S,h⟩=>?_;have h:=RE.bind' (show RE (ev P (call P n) Z c >>= λx=>evs P (call P n) Z cs >>= λxs=>R.ok (x::xs)) _ from h);refine wE.one S h λx u H1 W t1 G r1=>⟨G,(RE.bind' W).mono λvs U us B t2 s2 r2 t'=>?_⟩
 exact U (u::us) B t' (r1.1.trans s2) ⟨u,us,rfl,(r1.rv S).grow s2,r2⟩
theorem uF:∀{cs:Es} {es:List A2} {vs:List Vl},chkEs Γ cs es=true->evs P (call P n) Z cs=.ok vs->vs.length=es.length
 | .nil,[],vs,_,h=>by cases(show R.ok []=R.ok vs from h);rfl|.nil,_::_,_,h,_=>by cases h|.cons _ _,[],_,h,_=>by cases h|.cons c cs,e::es,vs,I,h=>by
  simp only[chkEs,bA] at I;have h:(ev P (call P n) Z c >>= λx=>evs P (call P n) Z cs >>= λxs=>R.ok (x::xs))=R.ok vs:=h;cases B:ev P (call P n) Z c with
  | ok x=>
   cases G:evs P (call P n) Z cs with
   | ok xs=>rw[B] at h;have h:(evs P (call P n) Z cs >>= λxs=>R.ok (x::xs))=R.ok vs:=h;rw[G] at h;cases(show R.ok (x::xs)=R.ok vs from h);rw[lC,lC,uF I.2 G]|exc z=>rw[B] at h;have h:(evs P (call P n) Z cs >>= λxs=>R.ok (x::xs))=R.ok vs:=h;rw[G] at h;cases h|bad=>rw[B] at h;have h:(evs P (call P n) Z cs >>= λxs=>R.ok (x::xs))=R.ok vs:=h;rw[G] at h;cases h
  | exc z=>rw[B] at h;cases h|bad=>rw[B] at h;cases h
theorem RE.eq{α:Type}{x:R α}{p:α->Prop}(h:RE x p):∃a,x=.ok a/\p a:=by
 cases x with
 | ok a=>exact⟨a,rfl,h⟩|exc e=>exact h.elim|bad=>exact h.elim
theorem aMj{es:List A2}(B:PA X es (WA X P n RT Y old Z cs))(G:chkEs Γ cs es=true)(U:es.length<=1000):PE X (.Tuple es k pos) (WE X P n RT Y old Z (.tup cs)):=by
 refine(aDj B).imp λZV H Q t ⟨S,h⟩=>?_;have h:=RE.bind' (show RE (evs P (call P n) Z cs >>= λvs=>R.ok (rV vs)) _ from h);obtain⟨vs,e,M⟩:=h.eq;refine⟨S,?_⟩;show RE (evs P (call P n) Z cs) _;rw[e];intro us H1 W s1 r1;have I:us.length<=sizeLine:=by rw[<-r1.length,uF G e,Bf];omega
 exact⟨I,λp L t'=>(show Wn X RT Y old Z ZV H Q (rV vs) from M) _ _ t' ((Ro.tup L rfl rfl r1.all).from s1)⟩
theorem aMk{es:List A2}(B:PA X es (WA X P n RT Y old Z cs))(G:chkEs Γ cs es=true)(W:es.length<=1000):PE X (.List es pos) (WE X P n RT Y old Z (.lst cs)):=by
 refine(aIB B).imp λZV H Q t ⟨S,h⟩=>?_;have h:=RE.bind' (show RE (evs P (call P n) Z cs >>= λvs=>R.ok (oV vs)) _ from h);obtain⟨vs,e,M⟩:=h.eq;refine⟨S,?_⟩;show RE (evs P (call P n) Z cs) _;rw[e];intro us H1 U s1 r1;have I:us.length<=sizeLine:=by rw[<-r1.length,uF G e,Bf];omega
 exact⟨I,λp L t'=>(show Wn X RT Y old Z ZV H Q (oV vs) from M) _ _ t' ((Ro.fresh L t' rfl rfl (S.grow s1 U) r1.all).from s1)⟩
theorem aGp:∀b:Bi,aDA b=true->Co (jP b)=some (aHP b):=by intro b B;cases b <;> first|kernel_rfl|cases B
theorem dP:∀b:Bi,jP b∈bltNames:=by intro b;cases b <;> decide +kernel
theorem eN:∀b:Bi,jP b ≠ "__name__" := by intro b;cases b <;> decide +kernel
theorem aOY(M:Mc X P Γ n)(W:aDA b=true)(hx:jP b=x)(L:bT Γ x=true)(U:bO x=true)(I:PA X (e::es) (WA X P n RT Y old Z cs))(hp:(e::es).all aK=true) :
 PE X (.Call (.Name x p) (e::es) [] pos) (WE X P n RT Y old Z (.bi b cs)):=by
 subst hx;have B:aK e=true/\es.all aK=true:=by simpa using hp
 have body:∀(f:PE X (.Call (.Name (jP b) p) (e::es) [] pos) (tCB (rBi X b) (WA X P n RT Y old Z cs))),PE X (.Call (.Name (jP b) p) (e::es) [] pos) (WE X P n RT Y old Z (.bi b cs)):=λf=>f.imp λZV H Q t ⟨S,h⟩=>by have h:=RE.bind' (show RE (evs P (call P n) Z cs >>= λvs=>biD b vs) _ from h);refine⟨S,h.mono λvs hv us H1 t1 s1 r1=>?_⟩;exact aDT W (S.grow s1 t1) r1 (hv.mono λv hv u H' t r=>hv u H' t (r.from s1))
 refine body ?_;have r:=aGn M.calm M.room.gd M.units b W;have G:=aGp b W;cases b with
 | len=>exact oT r (M.gl L) (M.md.blt _ (dP _)) G I (eN _) (aM U) (aA B.1) (bP B.2)|min=>exact oT r (M.gl L) (M.md.blt _ (dP _)) G I (eN _) (aM U) (aA B.1) (bP B.2)|sum=>exact oT r (M.gl L) (M.md.blt _ (dP _)) G I (eN _) (aM U) (aA B.1) (bP B.2)|list=>exact iP r (M.gl L) (M.md.blt _ (dP _)) G I (eN _) (aM U) (aA B.1) (bP B.2)|tuple=>exact iP r (M.gl L) (M.md.blt _ (dP _)) G I (eN _) (aM U) (aA B.1) (bP B.2)|int=>exact iP r (M.gl L) (M.md.blt _ (dP _)) G I (eN _) (aM U) (aA B.1) (bP B.2)|_=>cases W
theorem uG(M:Sx X.K RT Y old Z ZV H1)(s1:aI H H1)(s':aI H1 H')(h:Rr X.K H1 H' (λb=>Od X.K H1 b/\exV RT Y old Z ZV (aU vs) (bR vs) b) r u) :
 Ro X.K RT Y old Z ZV H H' (cS vs r) u:=by
 obtain⟨d,fr,pa⟩:=r;have B:∀b,exV RT Y old Z ZV (cS vs (d,fr,pa)).pa (cS vs (d,fr,pa)).al b->(Od X.K H1 b/\exV RT Y old Z ZV (aU vs) (bR vs) b)\/(pa=false/\Od X.K H1 b):=by
  intro b z;have tk:=exV.trk M z;cases pa with
  | true=>exact .inl ⟨tk,z⟩|false=>exact .inr ⟨rfl,tk⟩
 have G:(cS vs (d,fr,pa)).fr=fr:=by unfold cS;split <;> rfl
 have L:(cS vs (d,fr,pa)).d=d:=by unfold cS;split <;> rfl
 refine⟨s1.trans s',?_⟩;rw[G];unfold Rr at h;cases fr with
 | true=>rw[if_pos rfl] at h ⊢;obtain⟨a,xs,ds,U,W,I,e4,rr⟩:=h;exact⟨a,xs,ds,U,by rw[L];exact W,⟨s1.free I.1,I.2⟩,e4,rr.weak λb z=>z.elim (λz=>.inl z) λz=>.inr (B b z)⟩|false=>rw[if_neg bN] at h ⊢;unfold Rv;rw[L];exact Rep.weak h B
theorem aDX(S:Sx X.K RT Y old Z ZV H)(h:RE (ev P (call P n) Z (.call f cs)) (Wn X RT Y old Z ZV H Q)) :
 WA X P n RT Y old Z cs ZV H λus H1=>spA X.K P n f (us++[]) H1 (λv H'=>Tk X.K H'->Q v H') E0:=by have h:=RE.bind' (show RE (evs P (call P n) Z cs >>= λvs=>call P n f (vs.map (·.d)) >>= λr=>R.ok (cS vs r)) _ from h);refine⟨S,h.mono λvs I us H1 M s1 r1=>?_⟩;have B:=S.grow s1 M;refine .inl ⟨vs.map (·.d),λb=>Od X.K H1 b/\exV RT Y old Z ZV (aU vs) (bR vs) b,λa z=>z.1,by rw[AH];exact r1.all.weak λa z=>z.2,(RE.bind' I).mono λr G u H' t' L rr _=>?_⟩;exact(show Wn X RT Y old Z ZV H Q (cS vs r) from G) u H' t' (uG B s1 L rr)
theorem aJb(M:Mc X P Γ n){es:List A2}(hf:Γ.fns[f]? = some x)(W:bT Γ x=true)(ho:bO x=true)(ha:PA X es (WA X P n RT Y old Z cs))(hp:es.all aK=true)(hc:chkEs Γ cs es=true) :
 PE X (.Call (.Name x p) es [] pos) (WE X P n RT Y old Z (.call f cs)):=by
 obtain⟨fa,fd,ps,G,I,L,U⟩:=M.md.fn f x hf;cases es with
 | cons e es=>
  have B:aK e=true/\es.all aK=true:=by simpa using hp
  exact(kB U M.room (M.gl W) G I L .nil rS ha (aM ho) (aA B.1) (bP B.2)).imp λZV H Q t ⟨S,h⟩=>aDX S h
 | nil=>
  cases cs with
  | cons _ _=>cases hc|nil=>refine(aDl U M.room (M.gl W) G I L .nil rS (aM ho)).imp λZV H Q t ⟨S,h⟩=>?_;exact(aDX S h).2 [] H t (aI.refl H) rfl
theorem aCq(B:wZ c=some cv)(G:zJ Γ c=some x):Co x=some cv/\x∈bltNames/\x ≠ "__name__" := by cases c <;> cases B <;> cases G <;> exact⟨by kernel_rfl,by decide +kernel,by decide +kernel⟩
theorem aMl(M:Mc X P Γ n)(hf:f=("isinstance" : Str))(hg:bT Γ f=true)(hc:wZ c=some cv)(hx:zJ Γ c=some x)(G:bT Γ x=true)(U:bO x=true)
 (ha:PE X ea (WE X P n RT Y old Z a)) (hp:aK ea=true):PE X (.Call (.Name f pf) [ea,.Name x py] [] pos) (WE X P n RT Y old Z (.isi a [c])):=by subst hf;intro pins s ZV H Q I hw;obtain⟨S,h⟩:=hw;have h:=RE.bind' (show RE (ev P (call P n) Z a >>= λx=>(match isI [c] P x.d with|some k=>R.ok (Vl.cl (.bl k))|none=>.bad)) _ from h);obtain⟨b1,b2,b3⟩:=aCq hc hx;refine BG (fE I (M.gl hg) (M.md.blt _ (by decide +kernel)) (show Co "isinstance" = some (.builtin "isinstance") by kernel_rfl) ?_ (by decide +kernel) (by decide +kernel));refine BS ?_ (aA hp) rfl;rw[aA hp];show wpAny _ _ (Hr ((false,Dn ea X.env)::D7 pos (AT [.Name x py] X.env))) _ _ s;refine Dc (thn (ha pins s ZV H (λu H1=>∃y k,Rv X.K RT Y old Z ZV H1 y u/\isI [c] P y.d=some k/\Q (.bl k) H1) I (wE.one S h λy u H1 B t1 S1 r1=>?_)) λv s1 ⟨u,H1,W,ru,y,k,B,L,q⟩=>?_);split at B;rename_i k L;exact⟨y,k,r1.rv S,L,(show Wn X RT Y old Z ZV H Q (Vl.cl (.bl k)) from B) _ _ t1 (Ro.cl r1.1 rfl)⟩;exact B.elim;show wpAny _ _ (Hr ((false,Dn (.Name x py) X.env)::D7 pos (AT [] X.env))) _ _ s1;refine Dc (fE W (M.gl G) (M.md.blt _ b2) b1 (DU ?_) b3 (aM U));exact aCp P W ru B hc L q
end
section
variable {X:Cx} {P:Pg} {Γ:Ct} {n:Nat} {RT Y old:Addr->Prop} {Z:Sg} {pos:EJ}
theorem pI{o o':CmpOp}{G B:A2}(I:aK B=true):JF [o,o'] [G,B]=false:=kP I
theorem aJc(M:Mc X P Γ n){o o':CmpOp}{a b c:E}{ea eb I:A2}(ha:PE X ea (WE X P n RT Y old Z a))(hb:PE X eb (WE X P n RT Y old Z b))(hc:PE X I (WE X P n RT Y old Z c))(hq:aK I=true) :
 PE X (.Compare ea [o,o'] [eb,I] pos) (WE X P n RT Y old Z (.cmp2 o o' a b c)):=by
 refine(aDf (gC (RT:=RT) (Y:=Y) (old:=old) M o) (gC (RT:=RT) (Y:=Y) (old:=old) M o') ha hb hc (pI hq)).imp λZV H Q t ⟨S,h⟩=>?_;have h:=RE.bind' (show RE (ev P (call P n) Z a >>= λx=>ev P (call P n) Z b >>= λy=>(match bY o x.d y.d with
  | some true=>ev P (call P n) Z c >>= λz=>(match bY o' y.d z.d with|some k=>R.ok (Vl.cl (.bl k))|none=>.bad)
  | some false=>R.ok (Vl.cl (.bl false))|none=>.bad)) _ from h)
 refine wE.two S (h.mono λx G=>RE.bind' G) λx y ux uy H2 B t2 s2 S2 G W=>?_;split at B;rename_i L;refine⟨Z,ZV,x,y,true,G,W,L,true,rfl,?_⟩;rw[if_pos rfl];refine wE.one S2 (RE.bind' B) λz u H3 hz t3 S3 r3=>?_;split at hz;rename_i k' U;exact⟨Z,ZV,y,z,k',W.grow r3.1,r3.rv S2,U,λt'=>hz _ _ t' (Ro.cl (s2.trans r3.1) rfl)⟩;exact hz.elim;rename_i L;refine⟨Z,ZV,x,y,false,G,W,L,false,rfl,?_⟩;rw[if_neg bN];exact λt'=>B _ _ t' (Ro.cl s2 rfl);exact B.elim
theorem aJd(M:Mc X P Γ n){o o':CmpOp}{a b c:E}{ea eb I:A2}(ha:PE X ea (WE X P n RT Y old Z a))(hb:PE X eb (WE X P n RT Y old Z b))(hc:PE X I (WE X P n RT Y old Z c))(hq:aK I=true) :
 PT X (.Compare ea [o,o'] [eb,I] pos) (WT X P n RT Y old Z (.cmp2 o o' a b c)):=by
 refine(aDg (gC (RT:=RT) (Y:=Y) (old:=old) M o) (gC (RT:=RT) (Y:=Y) (old:=old) M o') ha hb hc (pI hq)).imp λZV H Q t ⟨S,h⟩=>?_;have h:=RE.bind' (show RE (ev P (call P n) Z a >>= λx=>ev P (call P n) Z b >>= λy=>(match bY o x.d y.d with
  | some true=>ev P (call P n) Z c >>= λz=>(match bY o' y.d z.d with|some k=>R.ok k|none=>.bad)
  | some false=>R.ok false|none=>.bad)) _ from h)
 refine wE.two S (h.mono λx G=>RE.bind' G) λx y ux uy H2 B t2 s2 S2 G W=>?_;split at B;rename_i L;refine⟨Z,ZV,x,y,true,G,W,L,true,rfl,?_⟩;rw[if_pos rfl];refine wE.one S2 (RE.bind' B) λz u H3 hz t3 S3 r3=>?_;split at hz;rename_i k' U;exact⟨Z,ZV,y,z,k',W.grow r3.1,r3.rv S2,U,k',rfl,λt'=>hz _ t' (s2.trans r3.1)⟩;exact hz.elim;rename_i L;refine⟨Z,ZV,x,y,false,G,W,L,false,rfl,?_⟩;rw[if_neg bN];exact⟨false,rfl,λt'=>B _ t' s2⟩;exact B.elim
theorem zV{a:E}{B:A2}(G:PT X B (WT X P n RT Y old Z a)):PT X (.UnaryOp .Not B pos) (WT X P n RT Y old Z (.nt a)):=by refine(aIm G).imp λZV H Q t ⟨S,h⟩=>?_;have h:=RE.bind' (show RE (tst P (call P n) Z a >>= λx=>R.ok (!x)) _ from h);exact⟨S,h.mono λk I H1 L s1 t'=>(show ∀H',Tk X.K H'->aI H H'->Q (!k) H' from I) _ t' s1⟩
theorem aDY{e:A2}{t t':TT}(h:PW X e t)(f:∀ZV H Q,Tk X.K H->t' ZV H Q->t ZV H λv H'=>Tk X.K H'->Q v H'):PW X e t':=λL pins s ZV H Q I G=>thn (h L pins s ZV H _ I (f ZV H Q I.tk G)) λk M ⟨H',B,q⟩=>⟨H',B,q B.tk⟩
theorem aMm{a b:E}{G I:A2}{r:List A2}(L:PT X G (WT X P n RT Y old Z a))(M:PW X (.BoolOp .And (I::r) pos) (WT X P n RT Y old Z b)):PW X (.BoolOp .And (G::I::r) pos) (WT X P n RT Y old Z (.an a b)):=by
 refine aDY (aIl L M) λZV H Q t ⟨S,h⟩=>?_;have h:=RE.bind' (show RE (tst P (call P n) Z a >>= λx=>if x=true then tst P (call P n) Z b else R.ok false) _ from h);refine⟨S,h.mono λk B H1 t1 s1=>?_⟩;cases k with
 | true=>rw[if_pos rfl] at B ⊢;exact⟨S.grow s1 t1,B.mono λv U H' t W _=>U H' t (s1.trans W)⟩|false=>rw[if_neg bN] at B ⊢;exact λt'=>(show ∀H',Tk X.K H'->aI H H'->Q false H' from B) _ t' s1
theorem aHR{a b:E}{G I:A2}{r:List A2}(L:PT X G (WT X P n RT Y old Z a))(M:PW X (.BoolOp .Or (I::r) pos) (WT X P n RT Y old Z b)):PW X (.BoolOp .Or (G::I::r) pos) (WT X P n RT Y old Z (.orr a b)):=by
 refine aDY (aLe L M) λZV H Q t ⟨S,h⟩=>?_;have h:=RE.bind' (show RE (tst P (call P n) Z a >>= λx=>if x=true then R.ok true else tst P (call P n) Z b) _ from h);refine⟨S,h.mono λk B H1 t1 s1=>?_⟩;cases k with
 | true=>rw[if_pos rfl] at B ⊢;exact λt'=>(show ∀H',Tk X.K H'->aI H H'->Q true H' from B) _ t' s1|false=>rw[if_neg bN] at B ⊢;exact⟨S.grow s1 t1,B.mono λv U H' t W _=>U H' t (s1.trans W)⟩
def wO(X:Cx)(P:Pg)(n:Nat)(RT Y old:Addr->Prop)(Z:Sg)(cs:Es):TO:=λZV H Q=>Sx X.K RT Y old Z ZV H/\RE (evs P (call P n) Z cs) λvs=>(vs=[]/\∀H',Tk X.K H'->aI H H'->Q none H')\/∃v i,vs=[v]/\v.d=.int i/\∀H',Tk X.K H'->aI H H'->Q (some i) H'
theorem aDZ{e:Option A2}{t t':TO}(h:PO X e t)(f:∀ZV H Q,Tk X.K H->t' ZV H Q->t ZV H λv H'=>Tk X.K H'->Q v H'):PO X e t':=λpins s ZV H Q I G=>thn (h pins s ZV H _ I (f ZV H Q I.tk G)) λu L ⟨o,H',B,r,q⟩=>⟨o,H',B,r,q B.tk⟩
theorem aMn:PO X none (wO X P n RT Y old Z .nil):=aDZ aFN λZV H Q t ⟨S,h⟩ t'=>by
 rcases(show([]:List Vl)=[]/\_\/_ from h) with⟨_,q⟩|⟨v,i,e,_⟩
 exact q H t' (aI.refl H);cases e
theorem aMo{c:E}{e:A2}(B:PE X e (WE X P n RT Y old Z c)):PO X (some e) (wO X P n RT Y old Z (.cons c .nil)):=by
 refine aDZ (aFO B) λZV H Q t ⟨S,h⟩=>?_;have h:=RE.bind' (show RE (ev P (call P n) Z c >>= λx=>evs P (call P n) Z .nil >>= λxs=>R.ok (x::xs)) _ from h);refine wE.one S h λx u H1 G L I r1=>?_;rcases(show([x]:List Vl)=[]/\_\/∃v i,([x]:List Vl)=[v]/\_/\_ from G) with⟨e,_⟩|⟨v,i,e,hd,q⟩
 cases e;cases e;exact⟨i,(r1.rv S).int hd,λt'=>q _ t' r1.1⟩
theorem aMp{a:E}{lo hi:Es}{ea:A2}{el eh:Option A2}{p2:EJ}(ha:PE X ea (WE X P n RT Y old Z a))(I:PO X el (wO X P n RT Y old Z lo))(B:PO X eh (wO X P n RT Y old Z hi)) :
 PE X (.Subscript ea (.Slice el eh none p2) pos) (WE X P n RT Y old Z (.sli a lo hi)):=by
 refine(aDn (aIZ (X:=X)) ha I B).imp λZV H Q t ⟨S,h⟩=>?_;have h:=RE.bind' (show RE (ev P (call P n) Z a >>= λx=>evs P (call P n) Z lo >>= λl=>evs P (call P n) Z hi >>= λh=>(match l,h with
  | [],[]=>eG x none none|[l],[]=>(match l.d with|.int l=>R.iff (aH l) (eG x (some l) none)|_=>.bad)
  | [],[h]=>(match h.d with|.int h=>R.iff (aH h) (eG x none (some h))|_=>.bad)
  | [l],[h]=>(match l.d,h.d with|.int l,.int h=>R.iff (aH l&&aH h) (eG x (some l) (some h))|_,_=>.bad)
  | _,_=>.bad)) _ from h)
 refine wE.one S h λx u H1 hx t1 S1 r1=>?_;have hx:=RE.bind' hx;refine⟨S1,hx.mono λl I=>?_⟩;have I:=RE.bind' I;have up:∀(L:Option Int) (M:Hp),Tk X.K M->aI H1 M->(RE (evs P (call P n) Z hi) λh=>(h=[]/\RE (eG x L none) (Wn X RT Y old Z ZV H Q))\/∃v i,h=[v]/\v.d=.int i/\RE (eG x L (some i)) (Wn X RT Y old Z ZV H Q)) ->
  wO X P n RT Y old Z hi ZV M λW G=>aDq X.K u L W G (λv H'=>Tk X.K H'->Q v H')\/aDo X.K u L W G (λv H'=>Tk X.K H'->Q v H')\/wY X.K u L W G (λv H'=>Tk X.K H'->Q v H')\/aDS u L W G (λv H'=>Tk X.K H'->Q v H'):=by
  intro L M t2 s2 B;refine⟨S1.grow s2 t2,B.mono λW hq=>?_⟩;have q0:∀(U:Option Int) (G:Hp),Tk X.K G->aI M G->RE (eG x L U) (Wn X RT Y old Z ZV H Q) ->
   aDq X.K u L U G (λv H'=>Tk X.K H'->Q v H')\/aDo X.K u L U G (λv H'=>Tk X.K H'->Q v H')\/wY X.K u L U G (λv H'=>Tk X.K H'->Q v H')\/aDS u L U G (λv H'=>Tk X.K H'->Q v H'):=λU G t3 s3 hs=>
   aCn (S1.grow (s2.trans s3) t3) t3 ((r1.rv S).grow (s2.trans s3)) (hs.mono λv W u H' t r=>W u H' t (r.from (r1.1.trans (s2.trans s3))))
  rcases hq with⟨e,hs⟩|⟨v,i,e,hd,hs⟩
  exact .inl ⟨e,λG t3 s3=>q0 none G t3 s3 hs⟩;exact .inr ⟨v,i,e,hd,λG t3 s3=>q0 (some i) G t3 s3 hs⟩
 match l,I with
 | [],I=>
  refine .inl ⟨rfl,λM t2 s2=>up none M t2 s2 (I.mono λh B=>?_)⟩
  match h,B with
  | [],B=>exact .inl ⟨rfl,B⟩|[h],B=>have B:RE (match h.d with|.int h=>R.iff (aH h) (eG x none (some h))|_=>.bad) _:=B;split at B;rename_i i hd;exact .inr ⟨h,i,rfl,hd,B.iff.2⟩;exact B.elim|_::_::_,B=>exact B.elim
 | [l],I=>
  have hd:∃i,l.d=.int i:=by
   obtain⟨h,_,B⟩:=I.eq
   match h,B with
   | [],B=>have B:RE (match l.d with|.int l=>R.iff (aH l) (eG x (some l) none)|_=>.bad) _:=B;split at B;rename_i i hd;exact⟨i,hd⟩;exact B.elim|[h],B=>have B:RE (match l.d,h.d with|.int l,.int h=>R.iff (aH l&&aH h) (eG x (some l) (some h))|_,_=>.bad) _:=B;split at B;rename_i i j hd _;exact⟨i,hd⟩;exact B.elim|_::_::_,B=>exact B.elim
  obtain⟨i,hd⟩:=hd;refine .inr ⟨l,i,rfl,hd,λM t2 s2=>up (some i) M t2 s2 (I.mono λh B=>?_)⟩
  match h,B with
  | [],B=>have B:RE (match l.d with|.int l=>R.iff (aH l) (eG x (some l) none)|_=>.bad) _:=B;rw[hd] at B;exact .inl ⟨rfl,B.iff.2⟩|[h],B=>have B:RE (match l.d,h.d with|.int l,.int h=>R.iff (aH l&&aH h) (eG x (some l) (some h))|_,_=>.bad) _:=B;rw[hd] at B;split at B;rename_i i' j e1 e2;cases e1;exact .inr ⟨h,j,rfl,e2,B.iff.2⟩;exact B.elim|_::_::_,B=>exact B.elim
 | _::_::_,I=>exact(by
     obtain⟨h,_,B⟩:=I.eq
     match h,B with
     | [],B=>exact B.elim|[_],B=>exact B.elim|_::_::_,B=>exact B.elim)
end
end Hp
namespace L2
open PySem PySem.Spec PyProof.Rows
set_option maxRecDepth 100000
instance:LawfulBEq Key where
 eq_of_beq:=λ{a b} h=>by
  cases a with
  | inl x=>cases b with|inl y=>exact congrArg F8 (eq_of_beq (show(x==y)=true from h))|inr y=>cases h
  | inr x=>cases b with|inl y=>cases h|inr y=>exact congrArg BO (eq_of_beq (show(x==y)=true from h))
 rfl:=λ{a}=>by
  cases a with
  | inl x=>exact(beq_self_eq_true x:(x==x)=true)|inr x=>exact(beq_self_eq_true x:(x==x)=true)
end L2
namespace L2
open PySem PySem.Spec PyProof.Rows
section
variable {X:Cx} {pins:List (Addr×Obj)} {Z:St} {H:Hp} {s:Ad} {h':Heap}
theorem Inv.turnsNew{its:List Addr}{T:Addr}{o:HO}{t':Nat}(I:Inv X pins Z H s)(f:∀b∈its,kA X pins H b)(k:∀b o,b∉its->s.heap.get? b=some o->h'.get? b=some o)(there:∀b∈its,∃o,h'.get? b=some o)
 (W:s.heap.objs.size<=T) (new:dL X.prog X.w (upd H T o) h' T o):Inv X pins Z (upd H T o) { s with heap:=h',toks:=t' }:=by
 have L:∀b u,H b=some u->b∉its:=λb u e z=>by rw[(f b z).1] at e;cases e
 have G:H T=none:=I.hok.fresh W;have U:∀b o,s.heap.get? b=some o->b≠T:=λb o e=>Aw (A7 (Am e) W);refine I.step (g':=s.gens) (d':=s.drawn) (ch:=its) (λb M=>?_) (λb o _ _ B e _=>k b o B e) (λb o _ _ B e _=>⟨o.slots,k b o B e⟩) (λb o _ e n=>by rw[upd_ne (U b o e)];exact n)
  (λb o B e=>⟨o,k b o B e⟩) (λb xs e=>by rw[upd_ne (bB e G)];exact e) (λb o u e=>by rw[upd_ne (bB e G)];exact e) (λb ps e=>⟨#[],by rw[upd_ne (bB e G),e];simp⟩) (λm hm=>?_) (λb u e=>?_) I.bare
 obtain⟨_,f1,f2,f3,f4,f5⟩:=f b M;exact⟨f3,f1,f4,f5⟩;obtain⟨o,es,ep,ho,r⟩:=hm;exact⟨o,es,ep,k _ o (λz=>(f _ z).2.1 rfl) ho,r⟩;by_cases M:b=T;subst M;rw[aR] at e;cases e;exact new;rw[upd_ne M] at e;refine(I.hok b u e).stay (λc v B q=>k c v ?_ q) (λc q=>by rw[upd_ne (bB q G)];exact q) λc xs q=>by rw[upd_ne (bB q G)];exact q
 rcases B with z|z;rw[z];exact L b u e;exact L c _ z
theorem Inv.turns{its:List Addr}{t':Nat}(I:Inv X pins Z H s)(f:∀b∈its,kA X pins H b)(k:∀b o,b∉its->s.heap.get? b=some o->h'.get? b=some o):Inv X pins Z H { s with heap:=h',toks:=t' }:=by
 have G:∀b u,H b=some u->b∉its:=λb u e z=>by rw[(f b z).1] at e;cases e
 refine I.step (g':=s.gens) (d':=s.drawn) (ch:=its) (λb L=>?_) (λb o _ _ B e _=>k b o B e) (λb o _ _ B e _=>⟨o.slots,k b o B e⟩) (λb o _ e n=>n)
  (λb o B e=>⟨o,k b o B e⟩) (λb xs e=>e) (λb o u e=>e) (λb ps e=>⟨#[],by rw[e];simp⟩) (λm M=>?_) (λb u e=>?_) I.bare
 obtain⟨_,f1,f2,f3,f4,f5⟩:=f b L;exact⟨f3,f1,f4,f5⟩;obtain⟨o,es,ep,U,r⟩:=M;exact⟨o,es,ep,k _ o (λz=>(f _ z).2.1 rfl) U,r⟩;refine(I.hok b u e).stay (λc v B q=>k c v ?_ q) (λc q=>q) λc xs q=>q;rcases B with z|z;rw[z];exact G b u e;exact G c _ z
theorem Inv.newK(I:Inv X pins Z H s):X.K.lookup s.heap.objs.size=none:=by
 cases q:X.K.lookup s.heap.objs.size with
 | none=>rfl|some o=>exact absurd (Am (I.bk _ o (I.ok.mod.kin _ o q))) (AC _)
def Sq(k:Bool)(K:Aq)(H:Hp)(a:Addr)(xs:List V):Prop:=match k with|true=>SqL K H a xs|false=>SqT K H a xs
def fH(k:Bool)(h:Heap)(a:Addr)(its:Array Value):Prop:=match k with|true=>h.IsList a its|false=>h.IsTuple a its
def dF(k:Bool)(h:Heap)(it a:Addr)(i:Nat):Prop:=match k with|true=>h.IsListIter it a i|false=>h.IsTupleIter it a i
theorem fH.at{h:Heap}(q:fH k h a its)(e:∀o,h.get? a=some o->h'.get? a=some o):fH k h' a its:=by
 cases k with
 | true=>exact Heap.IsList.at q e|false=>exact Heap.IsTuple.at q e
theorem dF.at{h:Heap}(q:dF k h it a i)(e:∀o,h.get? it=some o->h'.get? it=some o):dF k h' it a i:=by
 cases k with
 | true=>exact Heap.IsListIter.at q e|false=>exact Heap.IsTupleIter.at q e
theorem dF.obj{h:Heap}(q:dF k h it a i):∃o,h.get? it=some o/\∀v,o.data≠.cell v:=by
 cases k with
 | true=>obtain⟨o,e,c,d⟩:=q;exact⟨o,e,λv z=>by rw[d] at z;cases z⟩|false=>obtain⟨o,e,c,d⟩:=q;exact⟨o,e,λv z=>by rw[d] at z;cases z⟩
theorem Inv.sq{xs:List V}(I:Inv X pins Z H s)(h:Sq k X.K H a xs):∃its:List Value,aS xs its/\fH k s.heap a its.toArray/\xs.length<=sizeLine:=by
 cases k with
 | true=>obtain⟨its,r,p,z⟩:=I.list h;exact⟨its,r,p.isList,z⟩|false=>obtain⟨its,r,p,z⟩:=I.tuple h;exact⟨its,r,p,z⟩
theorem Inv.sq_inj(I:Inv X pins Z H s)(h:Sq k X.K H a xs)(h':Sq k X.K H a ys):xs=ys:=by
 cases k with
 | true=>exact I.list_inj h h'|false=>exact I.tuple_inj h h'
theorem Sq.there{K:Aq}(h:Sq k K H a xs):H a≠none\/∃o,K.lookup a=some o:=by
 cases k with
 | true=>
  rcases h with(h|⟨o,h⟩)|⟨o,its,n,q,_⟩
  exact .inl (by rw[h];simp);exact .inl (by rw[h];simp);exact .inr ⟨_,q⟩
 | false=>
  rcases h with(h|⟨o,h⟩)|⟨o,its,n,q,_⟩
  exact .inl (by rw[h];simp);exact .inl (by rw[h];simp);exact .inr ⟨_,q⟩
theorem Inv.sqNe(I:Inv X pins Z H s)(h:Sq k X.K H a xs)(f:kA X pins H b):a≠b:=by
 intro e;subst e;rcases h.there with z|⟨o,z⟩
 exact z f.1;have B:=I.ok.mod.kin a o z;rcases f.2.2.2.1 with q|q;exact I.ok.noex a o B q;exact absurd (A7 (Am B) (AI I.ok.bsz q)) (AC _)
end
section
variable {prog:A3} {w:AG} {A:Bh} {E:Value->Ad->Prop} {s:Ad}
theorem kR{items}{Q:Value->Ad->Prop}(B:s.heap.IsTupleIter it l i)
 (U:s.heap.IsTuple l items) (W:items[i]? = some x)
 (L:∀h',h'.IsTupleIter it l (i+1)->B5 it s.heap h'->Q x { s with heap:=h' }) :
 wpAny (A1 prog w) A (AK (.ref it)) Q E s:=by
 obtain⟨o,G,M,hd⟩:=id B;obtain⟨ol,I,_,nl,hdl⟩:=U;unfold AK;refine Aa (Bg (name:=C6 "__next__") B.typeIs Cy
  (AV Cy B.typeIs EG ?_ (E4 _)))
 show wpAny _ _ (Jl (.ref it) 0 >>= _) _ _ s;refine Aa (B7 G hd (x:=.ref l) rfl ?_);show wpAny _ _ (if (AB l==Bj)=true then _ else _) _ _ s;rw[if_neg (show ¬ ((AB l==Bj)=true) from bN)];show wpAny _ _ (Jl (.ref it) 1 >>= _) _ _ s;refine Aa (B7 G hd (x:=.int i 0) rfl ?_);show wpAny _ _ (JJ (.ref l) >>= _) _ _ s;refine Aa (BB I hdl ?_);simp only[Bt,W];refine Aa (EX G hd (by simp) (Ac ⟨x,rfl,Ac (L _ ?_ (AQ ..))⟩));exact⟨_,B9 _ G (Gc (DO hd _)),(HF ..).trans M,by
  rw[DO hd];simp[BZ]⟩
theorem mE{items}{Q:Value->Ad->Prop}(L:A.handled=none)
 (B:s.heap.IsTupleIter it l i) (U:s.heap.IsTuple l items) (W:items[i]? = none)
 (M:∀h' e,Gu it s.heap h'->(∃o,h'.get? e=some o/\o.cls=.type "StopIteration")->E (.ref e) { s with heap:=h' }) :
 wpAny (A1 prog w) A (AK (.ref it)) Q E s:=by
 obtain⟨o,G,hc,hd⟩:=id B;obtain⟨ol,I,_,nl,hdl⟩:=U;unfold AK;refine Aa (Bg (name:=C6 "__next__") B.typeIs Cy
  (AV Cy B.typeIs EG ?_ (E4 _)))
 show wpAny _ _ (Jl (.ref it) 0 >>= _) _ _ s;refine Aa (B7 G hd (x:=.ref l) rfl ?_);show wpAny _ _ (if (AB l==Bj)=true then _ else _) _ _ s;rw[if_neg (show ¬ ((AB l==Bj)=true) from bN)];show wpAny _ _ (Jl (.ref it) 1 >>= _) _ _ s;refine Aa (B7 G hd (x:=.int i 0) rfl ?_);show wpAny _ _ (JJ (.ref l) >>= _) _ _ s;refine Aa (BB I hdl ?_);simp only[Bt,W];refine Aa (Ds (Aa (EX G hd (by simp) ?_)));show wpAny _ _ (Jf (.type "StopIteration") [] >>= _) _ _ _;refine Aa ?_;simp only[Jf,Kn];refine Aa (AM ?_ (by size_fits));refine Aa (m:=Dr _ _) (Gp (a:=Bj) (by first|rfl|(simp only[Dr];rfl)) ?_);refine AM ?_ (by size_fits);simp only[Ko];refine Aa (GO ?_)
 first|rw[show A.in1.handled=none from L]|rw[L]
 refine Aa (Ac (Io ?_));exact M _ _ (((AQ ..).extBut.push _).push _) ⟨_,Al _ rfl,rfl⟩
theorem iD{items:Array Value}{Q:Value->Ad->Prop}(B:dF k s.heap it l i)(I:fH k s.heap l items)(L:items[i]? = some x)
 (G:∀h',dF k h' it l (i+1)->B5 it s.heap h'->Q x { s with heap:=h' }):wpAny (A1 prog w) A (AK (.ref it)) Q E s:=by
 cases k with
 | true=>exact wpAny_nextOf_list_item B I L G|false=>exact kR B I L G
theorem pJ{items:Array Value}{Q:Value->Ad->Prop}(I:A.handled=none)(B:dF k s.heap it l i)(L:fH k s.heap l items)(M:items[i]? = none)
 (G:∀h' e,Gu it s.heap h'->(∃o,h'.get? e=some o/\o.cls=.type "StopIteration")->E (.ref e) { s with heap:=h' }):wpAny (A1 prog w) A (AK (.ref it)) Q E s:=by
 cases k with
 | true=>exact wpAny_nextOf_list_end I B L M G|false=>exact mE I B L M G
theorem aCr{ka kb:Bool}{z TI TO i1 i2 l1 l2:Addr}{k1 k2:Nat}{xs ys:Array Value}{x y a b:Value}{Q:Value->Ad->Prop}(D:HI z TI TO i1 i2 l1 l2)
 (hz:EZ s.heap z TI TO .none) (z8:Cr s.heap TI (.ref i1) (.ref i2)) (z9:Cr s.heap TO a b)
 (h1:dF ka s.heap i1 l1 k1) (h2:dF kb s.heap i2 l2 k2) (x1:fH ka s.heap l1 xs) (x2:fH kb s.heap l2 ys) (hx:xs[k1]? = some x) (hy:ys[k2]? = some y)
 (hQ:∀h',EZ h' z TI TO (BZ s.heap.objs.size)->Cr h' TO x y->dF ka h' i1 l1 (k1+1)->dF kb h' i2 l2 (k2+1)->Cr h' s.heap.objs.size x y->h'.objs.size=s.heap.objs.size+1 ->
  (∀c o,c≠z->c≠TO->c≠i1->c≠i2->s.heap.get? c=some o->h'.get? c=some o)->Q (.ref s.heap.objs.size) { s with heap:=h' }) :
 wpAny (A1 prog w) A (BX.«zip.__next__» ⟨[.ref z],[]⟩) (λz7 s'=>∃v,z7=.done (.ret v)/\Q v s') E s:=by
 show wpAny _ _ (Jl (.ref z) 2 >>= _) _ _ _;refine Aa (B7 hz rfl (x:=.bool false) rfl ?_);show wpAny _ _ (Jl (.ref z) 3 >>= _) _ _ _;refine Aa (B7 hz rfl (x:=.ref TI) rfl ?_);refine Aa (BB z8 rfl ?_);show wpAny _ _ (BD (.ref z) >>= _) _ _ _;refine Aa ?_;unfold BD;refine Aa (B7 hz rfl (x:=.none) rfl (Ac ?_));simp only[if_true];refine Aa (Ds ?_);refine Aa (B7 hz rfl (x:=.ref TO) rfl ?_);refine Aa (B4 hz (by simp) λz2 q5 G=>?_);replace q5:EZ z2 z TI TO .ellipsis:=q5;refine Aa ?_;simp only[Ia,IH,FT,Gy];refine Aa (Aa (Fu ?_));show wpAny _ _ (AK (.ref i1) >>= _) _ _ _;refine Aa (iD (h1.at λo e=>G.extBut _ _ D.i1z e) (x1.at λo e=>G.extBut _ _ D.l1z e) hx λz3 w5 L=>Ac ?_);have q7:Cr z3 TO a b:=L.extBut _ _ D.TOi1 (G.extBut _ _ D.TOz z9);refine Aa (BB q7 rfl ?_);refine Aa (Ew q7 λz4 q0 M=>?_);replace q0:Cr z4 TO x b:=q0;refine Aa (Iu (Ac ?_));refine Aa (Aa (Fu ?_));show wpAny _ _ (AK (.ref i2) >>= _) _ _ _;refine Aa (iD (h2.at λo e=>M.extBut _ _ D.TOi2.symm (L.extBut _ _ D.i12.symm (G.extBut _ _ D.i2z e)))
  (x2.at λo e=>M.extBut _ _ D.l2TO (L.extBut _ _ D.l2i1 (G.extBut _ _ D.l2z e))) hy λz5 w7 U=>Ac ?_)
 have q8:Cr z5 TO x b:=U.extBut _ _ D.TOi2 q0;refine Aa (BB q8 rfl ?_);refine Aa (Ew q8 λB I W=>?_);replace I:Cr B TO x y:=I;refine Aa (Iu (Ac (Ac ?_)));refine Aa (BB I rfl ?_);refine Aa (Jg ?_);have hsz:B.objs.size=s.heap.objs.size:=by rw[W.1,U.1,M.1,L.1,G.1]
 have w3:EZ B z TI TO .ellipsis:=W.extBut _ _ D.TOz.symm (U.extBut _ _ D.i2z.symm (M.extBut _ _ D.TOz.symm (L.extBut _ _ D.i1z.symm q5)));have w9:∀c o,c≠z->c≠TO->c≠i1->c≠i2->s.heap.get? c=some o->B.get? c=some o:=λc o c1 c2 c3 c4 e=>W.extBut _ _ c2 (U.extBut _ _ c4 (M.extBut _ _ c2 (L.extBut _ _ c3 (G.extBut _ _ c1 e))));have w6:dF ka B i1 l1 (k1+1):=w5.at λo e=>W.extBut _ _ D.TOi1.symm (U.extBut _ _ D.i12 (M.extBut _ _ D.TOi1.symm e));have w8:dF kb B i2 l2 (k2+1):=w7.at λo e=>W.extBut _ _ D.TOi2.symm e;have w4:z<B.objs.size:=Am w3;have x0:TO<B.objs.size:=Am I;show wpAny _ _ (DC (.ref z) (.ref B.objs.size) >>= _) _ _ _;refine Aa ?_;unfold DC;have z0:EZ (B.push { cls:=.type "tuple",data:=.seq #[x,y] }) z TI TO .ellipsis:=Ab _ w3;refine Aa (B4 z0 (by simp) λz6 q6 q3=>?_);replace q6:EZ z6 z TI TO (BZ B.objs.size):=q6;refine B4 q6 (by simp) λq2 q1 q4=>?_;replace q1:EZ q2 z TI TO (BZ B.objs.size):=q1;have up:∀c o,c≠z->B.get? c=some o->q2.get? c=some o:=λc o c1 e=>q4.extBut _ _ c1 (q3.extBut _ _ c1 (Ab _ e));have q9:Cr q2 B.objs.size x y:=q4.extBut _ _ (BE w4) (q3.extBut _ _ (BE w4) (Al _ rfl));have z1:q2.objs.size=B.objs.size+1:=by rw[q4.1,q3.1,BC]
 rw[hsz] at q1 q9 z1;refine Ac ⟨_,rfl,?_⟩;show Q (.ref B.objs.size) _;rw[hsz];exact hQ q2 q1 (up _ _ D.TOz I) (w6.at λo e=>up _ o D.i1z e) (w8.at λo e=>up _ o D.i2z e) q9 z1 λc o c1 c2 c3 c4 e=>up c o c1 (w9 c o c1 c2 c3 c4 e)
theorem aEa{ka kb:Bool}{z TI TO i1 i2 l1 l2:Addr}{k1 k2:Nat}{xs ys:Array Value}{a b:Value}{Q:Fin->Ad->Prop}(hh:A.handled=none)(D:HI z TI TO i1 i2 l1 l2)
 (hz:EZ s.heap z TI TO .none) (w7:Cr s.heap TI (.ref i1) (.ref i2)) (w8:Cr s.heap TO a b)
 (h1:dF ka s.heap i1 l1 k1) (h2:dF kb s.heap i2 l2 k2) (q8:fH ka s.heap l1 xs) (w9:fH kb s.heap l2 ys) (q7:xs[k1]? = none\/ys[k2]? = none)
 (hE:∀h' e,(∀c o,c≠z->c≠TO->c≠i1->c≠i2->s.heap.get? c=some o->h'.get? c=some o)->(∃o,h'.get? e=some o/\o.cls=.type "StopIteration")->E (.ref e) { s with heap:=h' }) :
 wpAny (A1 prog w) A (BX.«zip.__next__» ⟨[.ref z],[]⟩) Q E s:=by
 show wpAny _ _ (Jl (.ref z) 2 >>= _) _ _ _;refine Aa (B7 hz rfl (x:=.bool false) rfl ?_);show wpAny _ _ (Jl (.ref z) 3 >>= _) _ _ _;refine Aa (B7 hz rfl (x:=.ref TI) rfl ?_);refine Aa (BB w7 rfl ?_);show wpAny _ _ (BD (.ref z) >>= _) _ _ _;refine Aa ?_;unfold BD;refine Aa (B7 hz rfl (x:=.none) rfl (Ac ?_));simp only[if_true];refine Aa (Ds ?_);refine Aa (B7 hz rfl (x:=.ref TO) rfl ?_);refine Aa (B4 hz (by simp) λq9 L B=>?_);replace L:EZ q9 z TI TO .ellipsis:=L;refine Aa ?_;simp only[Ia,IH,FT,Gy];refine Aa (Aa (Fu ?_));show wpAny _ _ (AK (.ref i1) >>= _) _ _ _;cases hx:xs[k1]? with
 | none=>
  refine Aa (pJ hh (h1.at λo e=>B.extBut _ _ D.i1z e) (q8.at λo e=>B.extBut _ _ D.l1z e) hx λq4 e G he=>?_);obtain⟨oe,M,W⟩:=he;have q2:EZ q4 z TI TO .ellipsis:=G _ _ D.i1z.symm L;have q6:e≠z:=λx=>by subst x;rw[q2] at M;cases M;simp at W
  refine B4 q2 (by simp) λq5 _ I=>hE q5 e (λc o c1 _ c3 _ x=>I.extBut _ _ c1 (G _ _ c3 (B.extBut _ _ c1 x))) ⟨oe,I.extBut _ _ q6 M,W⟩
 | some x=>
  have hy:ys[k2]? = none:=by rcases q7 with h|h;rw[hx] at h;cases h;exact h
  refine Aa (iD (h1.at λo e=>B.extBut _ _ D.i1z e) (q8.at λo e=>B.extBut _ _ D.l1z e) hx λq4 w6 G=>Ac ?_);have U:Cr q4 TO a b:=G.extBut _ _ D.TOi1 (B.extBut _ _ D.TOz w8);refine Aa (BB U rfl ?_);refine Aa (Ew U λq5 w5 I=>?_);refine Aa (Iu (Ac ?_));refine Aa (Aa (Fu ?_));show wpAny _ _ (AK (.ref i2) >>= _) _ _ _;refine Aa (pJ hh (h2.at λo e=>I.extBut _ _ D.TOi2.symm (G.extBut _ _ D.i12.symm (B.extBut _ _ D.i2z e)))
   (w9.at λo e=>I.extBut _ _ D.l2TO (G.extBut _ _ D.l2i1 (B.extBut _ _ D.l2z e))) hy λw3 e q0 he=>?_)
  obtain⟨oe,M,W⟩:=he;have q3:EZ w3 z TI TO .ellipsis:=q0 _ _ D.i2z.symm (I.extBut _ _ D.TOz.symm (G.extBut _ _ D.i1z.symm L));have q6:e≠z:=λx=>by subst x;rw[q3] at M;cases M;simp at W
  refine B4 q3 (by simp) λw4 _ q1=>hE w4 e (λc o c1 c2 c3 c4 x=>q1.extBut _ _ c1 (q0 _ _ c4 (I.extBut _ _ c2 (G.extBut _ _ c3 (B.extBut _ _ c1 x))))) ⟨oe,q1.extBut _ _ q6 M,W⟩
theorem nW{ka kb:Bool}{z TI TO i1 i2 B G:Addr}{W k2:Nat}{xs ys:Array Value}{x y a b:Value}{Q:Option Value->Ad->Prop}(D:HI z TI TO i1 i2 B G)
 (hz:EZ s.heap z TI TO .none) (I:Cr s.heap TI (.ref i1) (.ref i2)) (L:Cr s.heap TO a b)
 (h1:dF ka s.heap i1 B W) (h2:dF kb s.heap i2 G k2) (M:fH ka s.heap B xs) (U:fH kb s.heap G ys) (hx:xs[W]? = some x) (hy:ys[k2]? = some y)
 (hQ:∀h',EZ h' z TI TO (BZ s.heap.objs.size)->Cr h' TO x y->dF ka h' i1 B (W+1)->dF kb h' i2 G (k2+1)->Cr h' s.heap.objs.size x y->h'.objs.size=s.heap.objs.size+1 ->
  (∀c o,c≠z->c≠TO->c≠i1->c≠i2->s.heap.get? c=some o->h'.get? c=some o)->Q (some (.ref s.heap.objs.size)) { s with heap:=h' }) :
 wpAny (A1 prog w) A (D8 (.ref z)) Q E s:=by
 have hT:s.TypeIs (.ref z) "zip" := ⟨_,hz,rfl⟩
 unfold D8;exact Aa (Er (Bg (name:=C6 "__next__") hT E5
  (AV E5 hT Ib
   (aCr D hz I L h1 h2 M U hx hy λh' a1 a2 a3 a4 a5 a6 a7=>Ac (hQ h' a1 a2 a3 a4 a5 a6 a7)) (HJ _))))
theorem pK{ka kb:Bool}{z TI TO i1 i2 U W:Addr}{k1 k2:Nat}{xs ys:Array Value}{a b:Value}{Q:Option Value->Ad->Prop}(hh:A.handled=none)(D:HI z TI TO i1 i2 U W)
 (hz:EZ s.heap z TI TO .none) (G:Cr s.heap TI (.ref i1) (.ref i2)) (I:Cr s.heap TO a b)
 (h1:dF ka s.heap i1 U k1) (h2:dF kb s.heap i2 W k2) (L:fH ka s.heap U xs) (M:fH kb s.heap W ys) (B:xs[k1]? = none\/ys[k2]? = none)
 (hQ:∀h',(∀c o,c≠z->c≠TO->c≠i1->c≠i2->s.heap.get? c=some o->h'.get? c=some o)->Q none { s with heap:=h' }):wpAny (A1 prog w) A (D8 (.ref z)) Q E s:=by
 have hT:s.TypeIs (.ref z) "zip" := ⟨_,hz,rfl⟩
 unfold D8;refine Aa (Er (Bg (name:=C6 "__next__") hT E5
  (AV E5 hT Ib (aEa hh D hz G I h1 h2 L M B λh' e hk he=>?_) (HJ _))))
 obtain⟨o,ho,hc⟩:=he;refine Aa (CU (T:= "StopIteration") (b:=true) ⟨o,ho,hc⟩ Gv ?_);exact Ac (hQ _ hk)
end
noncomputable def sH(k:Bool)(l:Addr):Obj:=match k with
 | true=>{ cls:=.type "list_iterator",data:=.fields #[.ref l,.int 0 0] }
 | false=>{ cls:=.type "tuple_iterator",data:=.fields #[.ref l,.int 0 0] }
abbrev zH1(k:Bool)(h:Heap)(l1:Addr):Heap:=h.push (sH k l1)
abbrev zH2(ka kb:Bool)(h:Heap)(l1 l2:Addr):Heap:=(zH1 ka h l1).push (sH kb l2)
abbrev zH3(ka kb:Bool)(h:Heap)(l1 l2:Addr):Heap:=(zH2 ka kb h l1 l2).push { cls:=.type "tuple",data:=.seq #[.ref h.objs.size,.ref (zH1 ka h l1).objs.size] }
abbrev zH4(ka kb:Bool)(h:Heap)(l1 l2:Addr):Heap:=(zH3 ka kb h l1 l2).push { cls:=.type "tuple",data:=.seq #[.none,.none] }
abbrev zH5(ka kb:Bool)(h:Heap)(l1 l2:Addr):Heap:=(zH4 ka kb h l1 l2).push { cls:=.type "zip",data:=.fields #[.none,.bool false,.bool false,.ref (zH2 ka kb h l1 l2).objs.size,.ref (zH3 ka kb h l1 l2).objs.size] }
theorem sJ{E:Value->Ad->Prop}{s:Ad}{Q:Value->Ad->Prop}(G:fH k s.heap l items)
 (B:Q (.ref s.heap.objs.size) { s with heap:=s.heap.push (sH k l) }):wpAny (A1 prog w) A (GW (.ref l)) Q E s:=by
 cases k with
 | true=>exact Dl G B|false=>exact Hj G B
theorem zW(G L:Bool)(B I:Addr)(xs ys:Array Value) :
 KY (BX.«zip.__new__» ⟨[.type "zip",.ref B,.ref I],[]⟩) (λ_ R s=>fH G s.heap B xs/\fH L s.heap I ys /\
  R (.ok (.ret (.ref (zH4 G L s.heap B I).objs.size))) { s with heap:=zH5 G L s.heap B I }):=
 .of_wp λprog w A R s h=>by
  obtain⟨hp,g,d,tk,os⟩:=s;obtain⟨W,q0,h⟩:=h;have q1:=sub_zip;have M:fH G (Shared.heap ⟨hp,g,d,tk,os⟩) B xs:=W;have U:fH L (Shared.heap ⟨hp.push (sH G B),g,d,tk,os⟩) I ys:=q0.at λo e=>Ab _ e
  wp_walk using sJ M,sJ U
  exact⟨_,rfl,h⟩
theorem xD{h:Heap}(e:h.get? it=some (sH k a)):dF k h it a 0:=by
 cases k with
 | true=>exact⟨_,e,rfl,rfl⟩|false=>exact⟨_,e,rfl,rfl⟩
theorem aCs{E:Value->Ad->Prop}{s:Ad}{Q:Value->Ad->Prop}(G:fH ka s.heap l1 xs)(I:fH kb s.heap l2 ys)
 (h:∀h',EZ h' (s.heap.objs.size+4) (s.heap.objs.size+2) (s.heap.objs.size+3) .none->Cr h' (s.heap.objs.size+2) (.ref s.heap.objs.size) (.ref (s.heap.objs.size+1)) ->
  Cr h' (s.heap.objs.size+3) .none .none->dF ka h' s.heap.objs.size l1 0->dF kb h' (s.heap.objs.size+1) l2 0->h'.objs.size=s.heap.objs.size+5 ->
  (∀c o,s.heap.get? c=some o->h'.get? c=some o)->Q (.ref (s.heap.objs.size+4)) { s with heap:=h' }) :
 wpAny (A1 prog w) A (call (.type "zip") [.ref l1,.ref l2]) Q E s:=by
 refine callType_new F.called_zip (by decide) (F.typeCall_zip_2 _ _) (F.newCall_zip_2 _ _) (λobj=>F.args_object_init_3 obj _ _) F.entry_zip_new
  (zW ka kb l1 l2 xs ys) ⟨G,I,?_⟩
 have L:(zH1 ka s.heap l1).objs.size=s.heap.objs.size+1:=BC ..;have M:(zH2 ka kb s.heap l1 l2).objs.size=s.heap.objs.size+2:=by rw[BC,L]
 have U:(zH3 ka kb s.heap l1 l2).objs.size=s.heap.objs.size+3:=by rw[BC,M]
 have W:(zH4 ka kb s.heap l1 l2).objs.size=s.heap.objs.size+4:=by rw[BC,U]
 have z5:(zH5 ka kb s.heap l1 l2).objs.size=s.heap.objs.size+5:=by rw[BC,W]
 have nf:∀k l,(sH k l).isFreed=false:=by intro k l;cases k <;> rfl
 have B:(zH5 ka kb s.heap l1 l2).get? (zH4 ka kb s.heap l1 l2).objs.size=some _:=Al _ rfl;have g4:(zH5 ka kb s.heap l1 l2).get? (zH3 ka kb s.heap l1 l2).objs.size=some _:=Ab _ (Al _ rfl);have g3:(zH5 ka kb s.heap l1 l2).get? (zH2 ka kb s.heap l1 l2).objs.size=some _:=Ab _ (Ab _ (Al _ rfl));have g2:(zH5 ka kb s.heap l1 l2).get? (zH1 ka s.heap l1).objs.size=some _:=Ab _ (Ab _ (Ab _ (Al _ (nf _ _))));have g1:(zH5 ka kb s.heap l1 l2).get? s.heap.objs.size=some _:=Ab _ (Ab _ (Ab _ (Ab _ (Al _ (nf _ _)))));show _/\_;rw[M,U,W] at B;rw[L,M] at g3;rw[U] at g4;rw[L] at g2;rw[W];exact⟨⟨_,B,rfl⟩,h _ B g3 g4 (xD g1) (xD g2) z5 λc o x=>
  Ab _ (Ab _ (Ab _ (Ab _ (Ab _ x))))⟩
def Itz(K:Aq)(ka kb:Bool)(a b:Addr):It:=
 ⟨λi H=>∃xs ys x y,Sq ka K H a xs/\Sq kb K H b ys/\xs[i]? = some x/\ys[i]? = some y,
  λi H v H'=>∃p x y,v=.ref p/\H p=none/\K.lookup p=none/\H'=upd H p (.tup [x,y])/\∀xs ys,Sq ka K H a xs->Sq kb K H b ys->xs[i]? = some x/\ys[i]? = some y,
  λi H=>∃xs ys,Sq ka K H a xs/\Sq kb K H b ys/\(xs.length<=i\/ys.length<=i)⟩
structure aGq (z TI TO i1 i2:Addr):Prop where
 TIz:TI≠z
 TOz:TO≠z
 i1z:i1≠z
 i2z:i2≠z
 TITO:TI≠TO
 TIi1:TI≠i1
 TIi2:TI≠i2
 TOi1:TO≠i1
 TOi2:TO≠i2
 i12:i1≠i2
theorem aGq.apart{X:Cx}{pins:List (Addr×Obj)}{Z:St}{H:Hp}{s:Ad}{L M:Bool}{a b z TI TO i1 i2:Addr}{xs U:List V}(F:aGq z TI TO i1 i2)(I:Inv X pins Z H s)(f:∀c∈[z,TI,TO,i1,i2],kA X pins H c)
 (B:Sq L X.K H a xs) (G:Sq M X.K H b U):HI z TI TO i1 i2 a b:=
 ⟨F.TIz,F.TOz,F.i1z,F.i2z,F.TITO,F.TIi1,F.TIi2,F.TOi1,F.TOi2,F.i12,I.sqNe B (f z (by simp)),I.sqNe B (f TO (by simp)),I.sqNe B (f i1 (by simp)),I.sqNe B (f i2 (by simp)),
  I.sqNe G (f z (by simp)),I.sqNe G (f TO (by simp)),I.sqNe G (f i1 (by simp)),I.sqNe G (f i2 (by simp))⟩
theorem aEb{P:A3}{w:AG}{K:Aq}{ka kb:Bool}{q0:List A2}{tk:Nat}{tp:EJ}{z TI TO i1 i2 a b:Addr}(F:aGq z TI TO i1 i2) :
 yV P w K (.Tuple q0 tk tp) (Itz K ka kb a b) [z,TI,TO,i1,i2] z (λi h=>EZ h z TI TO .none/\Cr h TI (.ref i1) (.ref i2)/\(∃u v,Cr h TO u v)/\dF ka h i1 a i/\dF kb h i2 b i) where
 mem:=by simp
 obj:=λi h st c U=>by
  obtain⟨hz,G,⟨u,v,L⟩,h1,h2⟩:=st;have B:c=z\/c=TI\/c=TO\/c=i1\/c=i2:=by simpa using U
  rcases B with rfl|rfl|rfl|rfl|rfl;exact⟨_,hz,λv z=>by cases(show Ij _=HQ v from z)⟩;exact⟨_,G,λv z=>by cases(show Ja _ _=HQ v from z)⟩;exact⟨_,L,λv z=>by cases(show Ja _ _=HQ v from z)⟩;exact h1.obj;exact h2.obj
 keep:=λi h h' st k=>by obtain⟨hz,G,⟨u,v,L⟩,h1,h2⟩:=st;exact⟨k z (by simp) _ hz,k TI (by simp) _ G,⟨u,v,k TO (by simp) _ L⟩,h1.at λo e=>k i1 (by simp) o e,h2.at λo e=>k i2 (by simp) o e⟩
 item:=by
  intro X hP hw hK U i pins s Z H E I hf st hg;subst hP hw hK;obtain⟨hz,G,⟨u,v,L⟩,h1,h2⟩:=st;obtain⟨xs,ys,x,y,ha,hb,hx,hy⟩:=hg;obtain⟨as,ra,pa,_⟩:=I.sq ha;obtain⟨bs,rb,pb,_⟩:=I.sq hb;obtain⟨ux,q7,rx⟩:=ra.get hx;obtain⟨uy,q8,ry⟩:=rb.get hy;have D:=F.apart I hf ha hb;refine nW D hz G L h1 h2 pa pb (x:=ux) (y:=uy) (by simpa using q7) (by simpa using q8) λh' a1 a2 a3 a4 a5 a6 hk=>?_;refine⟨_,rfl,wpAny_letOwnedTupleGo_zip (s:={ s with heap:=h' }) a1 λM q3 W=>?_⟩;have q1:s.heap.objs.size≠z:=BE (Am hz);have q6:∀c o,c∉[z,TI,TO,i1,i2]->s.heap.get? c=some o->M.get? c=some o:=λc o U e=>by
   have B:c≠z/\c≠TI/\c≠TO/\c≠i1/\c≠i2:=by simpa using U
   exact W.extBut _ _ B.1 (hk c o B.1 B.2.2.1 B.2.2.2.1 B.2.2.2.2 e)
  have tI:Cr M TI (.ref i1) (.ref i2):=W.extBut _ _ F.TIz (hk _ _ F.TIz F.TITO F.TIi1 F.TIi2 G);have tO:Cr M TO ux uy:=W.extBut _ _ F.TOz a2;have t1:dF ka M i1 a (i+1):=a3.at λo e=>W.extBut _ _ F.i1z e;have t2:dF kb M i2 b (i+1):=a4.at λo e=>W.extBut _ _ F.i2z e;have tT:Cr M s.heap.objs.size ux uy:=W.extBut _ _ q1 a5;have hn:H s.heap.objs.size=none:=I.fresh;have I1:Inv X pins Z (upd H s.heap.objs.size (.tup [x,y])) { s with heap:=M }:=by
   refine I.turnsNew (t':=s.toks) hf q6 (λc U=>?_) (Ak _) ⟨by show 2<=sizeLine;rw[Bf];decide,[ux,uy],.cons rx (.cons ry .nil),_,tT,rfl,_,rfl⟩;have B:c=z\/c=TI\/c=TO\/c=i1\/c=i2:=by simpa using U
   rcases B with rfl|rfl|rfl|rfl|rfl;exact⟨_,q3⟩;exact⟨_,tI⟩;exact⟨_,tO⟩;obtain⟨o,e,_⟩:=t1.obj;exact⟨o,e⟩;obtain⟨o,e,_⟩:=t2.obj;exact⟨o,e⟩
  refine⟨.ref s.heap.objs.size,_,I1,rfl,⟨_,x,y,rfl,hn,I.newK,rfl,λq9 w3 q4 q5=>?_⟩,⟨q3,tI,⟨_,_,tO⟩,t1,t2⟩,λc U=>?_⟩;rw[I.sq_inj q4 ha,I.sq_inj q5 hb];exact⟨hx,hy⟩;rw[upd_ne (Aw ?_)];exact(hf c U).1;obtain⟨o,e,_⟩:∃o,s.heap.get? c=some o/\True:=by
   have B:c=z\/c=TI\/c=TO\/c=i1\/c=i2:=by simpa using U
   rcases B with rfl|rfl|rfl|rfl|rfl;exact⟨_,hz,trivial⟩;exact⟨_,G,trivial⟩;exact⟨_,L,trivial⟩;obtain⟨o,e,_⟩:=h1.obj;exact⟨o,e,trivial⟩;obtain⟨o,e,_⟩:=h2.obj;exact⟨o,e,trivial⟩
  exact Am e
 done:=by
  intro X hP hw hK U i pins s Z H E I hf st hg;subst hP hw hK;obtain⟨hz,G,⟨u,v,L⟩,h1,h2⟩:=st;obtain⟨xs,ys,ha,hb,q2⟩:=hg;obtain⟨as,ra,pa,_⟩:=I.sq ha;obtain⟨bs,rb,pb,_⟩:=I.sq hb;have la:=ra.length;have lb:=rb.length;refine pK (I.ok.hd U) (F.apart I hf ha hb) hz G L h1 h2 pa pb ?_ λh' hk=>⟨rfl,I.turns (t':=s.toks) hf λc o U e=>?_⟩
  rcases q2 with q|q;exact .inl (by simp;omega);exact .inr (by simp;omega);have B:c≠z/\c≠TI/\c≠TO/\c≠i1/\c≠i2:=by simpa using U
  exact hk c o B.1 B.2.2.1 B.2.2.2.1 B.2.2.2.2 e
 self:=λ_ _ _ _ _ st h=>Ic st.1 h
def aOZ(K:Aq)(ta:TA):TI:=λZ H R=>ta Z H λvs H1=>∃(ka kb:Bool) (a b:Addr) (xs ys:List V),vs=[.ref a,.ref b]/\Sq ka K H1 a xs/\Sq kb K H1 b ys/\R (Itz K ka kb a b) H1
theorem aEc:Co "zip" = some (.type "zip"):=by kernel_rfl
theorem aEd(n:Nat):aGq (n+4) (n+2) (n+3) n (n+1) where
 TIz:=by simp
 TOz:=by simp
 i1z:=by simp
 i2z:=by simp
 TITO:=by simp
 TIi1:=by simp
 TIi2:=by simp
 TOi1:=by simp
 TOi2:=by simp
 i12:=by simp
theorem aJe{X:Cx}{a b:A2}{ta:TA}{p pos:EJ}{G:List A2}{tk:Nat}{tp:EJ}(hg:Gl X "zip")(hm:X.mg "zip" = none)(ha:PA X [a,b] ta)(hs:AT [a,b] X.env=[(false,Dn a X.env),(false,Dn b X.env)])(M:AT [b] X.env=[(false,Dn b X.env)]) :
 PI X (.Tuple G tk tp) (.Call (.Name "zip" p) [a,b] [] pos) (aOZ X.K ta):=by
 intro pins s Z H R I h;refine Call_ (fE I hg hm aEc (BK (thn (ha pos pins s Z H _ I h) λus s1 ⟨vs,H1,B,r1,q1⟩=>?_) (by rw[hs,M]) (by rw[M];rfl)));obtain⟨ka,kb,a1,b1,xs,ys,e,q1,q2,q⟩:=q1;subst e;cases r1 with
 | cons r rr=>
  cases rr with
  | cons r' rr=>
   cases rr;cases r;cases r';obtain⟨as,ra,pa,_⟩:=B.sq q1;obtain⟨bs,rb,pb,_⟩:=B.sq q2;refine aCs pa pb λh' hz U W h1 h2 hsz hk=>Ic (s:={ s1 with heap:=h' }) hz ?_;refine⟨s1.heap.objs.size+4,_,_,_,H1,rfl,B.kept (t':=s1.toks) hk,aEb (aEd _),⟨hz,U,⟨_,_,W⟩,h1,h2⟩,λc hc=>?_,q⟩;have q0:c=s1.heap.objs.size+4\/c=s1.heap.objs.size+2\/c=s1.heap.objs.size+3\/c=s1.heap.objs.size\/c=s1.heap.objs.size+1:=by simpa using hc
   have L:s1.heap.objs.size<=c:=by rcases q0 with rfl|rfl|rfl|rfl|rfl <;> omega
   exact B.fpOk L (B.hok.fresh L)
def Its(x:Str):It:=⟨λi _=>i<x.cps.size,λi H v H'=>H'=H/\∃c,x.cps[i]? = some c/\v=.str ⟨#[c]⟩,λi _=>x.cps.size<=i⟩
theorem xE{P:A3}{w:AG}{K:Aq}{tg:A2}{it:Addr}{x:Str}{t:Tok}{ty:String}(hn:["enumerate", "zip", "dict_itemiterator", "dict_reverseitemiterator", "odict_iterator", "itertools.zip_longest", "itertools.pairwise"].contains ty=false)
 (W0:∀A':Bh,A'.handled=none->Walks P w A' it [it] [it] x.cps.size (SignAt x) (λi h=>h.IsStrIter it ty x t i))
 (S:∀(A:Bh) (i:Nat) (s:Ad) (Q:Value->Ad->Prop) (E:Value->Ad->Prop),s.heap.IsStrIter it ty x t i->Q (.ref it) s->wpAny (A1 P w) A (GW (.ref it)) Q E s):yV P w K tg (Its x) [it] it (λi h=>i<=x.cps.size/\h.IsStrIter it ty x t i) where
 mem:=by simp
 obj:=λi h st b B=>by
  have e:b=it:=by simpa using B
  subst e;obtain⟨_,o,e,c,d⟩:=st;exact⟨o,e,λv z=>by rw[d] at z;cases z⟩
 keep:=λi h h' st k=>by obtain⟨hi,o,e,c,d⟩:=st;exact⟨hi,o,k it (by simp) o e,c,d⟩
 item:=by intro X W hw U hc i pins s Z H E I L st M;subst W hw U;obtain⟨f0,f1,f2,f3,f4,f5⟩:=L it (by simp);refine(W0 X.A (I.ok.hd hc)).item i s _ _ M st.2 λv h' tk hv G kk=>?_;obtain⟨c,u,q0,rfl⟩:=hv;have I1:Inv X pins Z H { s with heap:=h',toks:=tk }:=I.turned (λb o B e=>kk b o (by simpa using B) e) f0 f1 f3 f4 f5;obtain⟨o,e,oc,od⟩:=id G;exact⟨_,rfl,oP (s:={ s with heap:=h',toks:=tk }) e oc od hn ⟨.str ⟨#[c]⟩,H,I1,⟨u,rfl⟩,⟨rfl,c,q0,rfl⟩,⟨M,G⟩,λb B=>(L b B).1⟩⟩
 done:=by intro X W hw U hc i pins s Z H E I L st M;subst W hw U;obtain⟨f0,f1,f2,f3,f4,f5⟩:=L it (by simp);have e:i=x.cps.size:=FR st.1 M;subst e;exact(W0 X.A (I.ok.hd hc)).done s _ _ st.2 λh' tk eb=>⟨rfl,I.turned (λb o B e=>eb b o (by simpa using B) e) f0 f1 f3 f4 f5⟩
 self:=λA i s Q E st h=>S A i s Q E st.2 h
theorem aJf{X:Cx}{tg l:A2}{W:TE}(hl:PE X l W):PI X tg l (λZ H R=>W Z H λx H1=>(∃a,x=.ref a/\(((∃xs,SqL X.K H1 a xs)/\R (Itl X.K a) H1)\/((∃xs,SqT X.K H1 a xs)/\R (Itt X.K a) H1)))\/∃z,x=.str z/\R (Its z) H1):=by
 intro pins s Z H R I h;refine thn (hl pins s Z H _ I h) λv s1 ⟨x,H1,B,r1,q1⟩=>?_;rcases q1 with⟨a,e,q⟩|⟨z,e,q⟩
 subst e;cases r1;rcases q with⟨⟨xs,M⟩,q⟩|⟨⟨xs,M⟩,q⟩
 obtain⟨its,rv,p,hz⟩:=B.list M;refine Dl p.isList ?_;refine⟨s1.heap.objs.size,[s1.heap.objs.size],_,_,H1,rfl,B.kept (t':=s1.toks) λb o e=>Ab _ e,aBQ a _,⟨_,Al _ rfl,rfl,rfl⟩,λb G=>?_,q⟩;have e:b=s1.heap.objs.size:=by simpa using G
 subst e;exact B.fpOk (Ak _) (B.hok.fresh (Ak _));obtain⟨its,rv,p,hz⟩:=B.tuple M;refine Hj (show s1.heap.IsTuple a its.toArray from p) ?_;refine⟨s1.heap.objs.size,[s1.heap.objs.size],_,_,H1,rfl,B.kept (t':=s1.toks) λb o e=>Ab _ e,yW a _,⟨_,Al _ rfl,rfl,rfl⟩,λb G=>?_,q⟩;have e:b=s1.heap.objs.size:=by simpa using G
 subst e;exact B.fpOk (Ak _) (B.hok.fresh (Ak _));subst e;obtain⟨t,rfl⟩:=r1;cases U:z.cps.all (·<128) with
 | false=>
  refine wpAny_pyIter_wide U ⟨s1.heap.objs.size,[s1.heap.objs.size],_,_,H1,rfl,B.kept (t':=s1.toks) λb o e=>Ab _ e,xE (ty:= "str_iterator") (x:=z) (t:=t) (by decide) (λA' L=>Walks.strWide L _ z t) (λA i s Q E st h=>wpAny_pyIter_striter_wide st h),⟨AA _,_,Al _ rfl,rfl,rfl⟩,λb G=>?_,q⟩;have e:b=s1.heap.objs.size:=by simpa using G
  subst e;exact B.fpOk (Ak _) (B.hok.fresh (Ak _))
 | true=>
  refine wpAny_pyIter_ascii U ⟨s1.heap.objs.size,[s1.heap.objs.size],_,_,H1,rfl,B.kept (t':=s1.toks) λb o e=>Ab _ e,xE (ty:= "str_ascii_iterator") (x:=z) (t:=t) (by decide) (λA' L=>Walks.strAscii L _ z t) (λA i s Q E st h=>wpAny_pyIter_striter_ascii st h),⟨AA _,_,Al _ rfl,rfl,rfl⟩,λb G=>?_,q⟩;have e:b=s1.heap.objs.size:=by simpa using G
  subst e;exact B.fpOk (Ak _) (B.hok.fresh (Ak _))
end L2
namespace Hp
open PySem PySem.Spec PyProof.Rows L2
theorem Kp.refl(R:Addr->Prop)(H:Hp):Kp R H H:=λ_ _ h _=>h
theorem Kp.same{R:Addr->Prop}(s:aI H H'):Kp R H H':=λa o h _=>s a o h
theorem Kp.trans{R:Addr->Prop}(a:Kp R H H1)(b:Kp R H1 H2):Kp R H H2:=λc o h n=>b c o (a c o h n) n
section
variable {K:Fg} {RT Y old R:Addr->Prop} {Z:Sg} {ZV:L2.St} {H H':Hp}
theorem Kp.seqL(k:Kp R H H')(n:¬ R a)(h:SqL K H a xs):SqL K H' a xs:=by rcases h with(h|⟨o,h⟩)|h;exact .inl (.inl (k _ _ h n));exact .inl (.inr ⟨o,k _ _ h n⟩);exact .inr h
theorem Kp.seqT(k:Kp R H H')(B:∀a,R a->RtO H a)(h:SqT K H a xs):SqT K H' a xs:=by rcases h with(h|⟨o,h⟩)|h;refine .inl (.inl (k _ _ h λz=>?_));obtain⟨o',e,m⟩:=B a z;rw[h] at e;cases e;exact nI m;refine .inl (.inr ⟨o,k _ _ h λz=>?_⟩);obtain⟨o',e,m⟩:=B a z;rw[h] at e;cases e;exact nI m;exact .inr h
theorem Reps.kp{ex:Addr->Prop}(r:Reps K H ex ds xs)(k:Kp R H H')(G:∀a,R a->RtO H a)(L:∀a,R a->ex a):Reps K H' ex ds xs:=
 r.keep λa o e I=>k a o e λz=>by obtain⟨o',B,m⟩:=G a z;rw[e] at B;cases B;exact I m (L a z)
theorem Rep.kp{ex:Addr->Prop}(r:Rep K H ex d x)(k:Kp R H H')(G:∀a,R a->RtO H a)(L:∀a,R a->ex a):Rep K H' ex d x:=
 r.keep λa o e I=>k a o e λz=>by obtain⟨o',B,m⟩:=G a z;rw[e] at B;cases B;exact I m (L a z)
def rtF(RT:Addr->Prop)(Z:Sg)(ZV:L2.St)(al:List Nat)(a:Addr):Prop:=RT a/\¬ alR Z ZV al a
theorem dQ:∀(al:List Nat) (Z:Sg) (i:Nat),(freeze Z al)[i]? = (Z[i]?).map λs=>if i∈al then s.freeze else s
 | [],Z,i=>by cases q:Z[i]? <;> simp[freeze,q]|j::al,Z,i=>by
  rw[freeze,dQ al];cases G:Z[j]? with
  | none=>
   simp only;cases q:Z[i]? with
   | none=>rfl|some s=>
    have I:i≠j:=λe=>by subst e;rw[q] at G;cases G
    simp[I]
  | some M=>simp only;by_cases B:i=j;subst B;have L:i<Z.length:=(Au.mp G).1;rw[Ay L,G];simp only[E2,As,true_or,if_true];split;cases M <;> rfl;rfl;rw[Ah (DI B)];simp[B]
theorem pL:∀(al:List Nat) (Z:Sg),(freeze Z al).length=Z.length
 | [],Z=>rfl|j::al,Z=>by rw[freeze,pL al];split;rw[Ax];rfl
theorem freeze_sh(h:(freeze Z al)[i]? = some (.sh pa d)):Z[i]? = some (.sh pa d)\/∃ds,i∈al/\Z[i]? = some (.own pa ds)/\d=.lst ds:=by
 rw[dQ] at h;cases q:Z[i]? with
 | none=>rw[q] at h;cases h|some s=>
  rw[q] at h;have h:(if i∈al then s.freeze else s)=.sh pa d:=An h;split at h;rename_i hi;cases s with
  | dead=>cases h|sh pa' d'=>cases h;exact .inl rfl|own pa' ds'=>cases h;exact .inr ⟨ds',hi,rfl,rfl⟩|lent _=>cases h|dct _=>cases h
  exact .inl (by rw[h])
theorem eR(h:(freeze Z al)[i]? = some (.own pa ds)):Z[i]? = some (.own pa ds)/\i∉al:=by
 rw[dQ] at h;cases q:Z[i]? with
 | none=>rw[q] at h;cases h|some s=>rw[q] at h;have h:(if i∈al then s.freeze else s)=.own pa ds:=An h;split at h;cases s <;> cases h;rename_i hi;exact⟨by rw[h],hi⟩
theorem xF{al:List Nat}{i:Nat}{ds:List D}(h:(freeze Z al)[i]? = some (.lent ds)):Z[i]? = some (.lent ds):=by
 rw[dQ] at h;cases q:Z[i]? with
 | none=>rw[q] at h;cases h|some s=>
  rw[q] at h;have h:(if i∈al then s.freeze else s)=.lent ds:=An h;split at h;cases s with
  | lent d=>exact congrArg some h|_=>cases h
  rw[h]
theorem zX{al:List Nat}{i:Nat}{ds:List (List Int)}(h:(freeze Z al)[i]? = some (.dct ds)):Z[i]? = some (.dct ds):=by
 rw[dQ] at h;cases q:Z[i]? with
 | none=>rw[q] at h;cases h|some s=>
  rw[q] at h;have h:(if i∈al then s.freeze else s)=.dct ds:=An h;split at h;cases s with
  | dct d=>exact congrArg some h|_=>cases h
  rw[h]
theorem Sx.frz(S:Sx K RT Y old Z ZV H)(al:List Nat):Sx K (rtF RT Z ZV al) Y old (freeze Z al) ZV H where
 sh:=λi pa d h=>by
  rcases freeze_sh h with h|⟨ds,hi,W,e⟩
  obtain⟨v,B,G⟩:=S.sh i pa d h;exact⟨v,B,G.weak λa z=>z.elim (λz=>.inl z.1) .inr⟩;subst e;obtain⟨a,xs,B,G,L,I,M⟩:=S.own i pa ds W;refine⟨.ref a,B,a,xs,rfl,SqL.of G,⟨?_,λ_=>G⟩,M.weak λa z=>z.elim (λz=>.inl z.1) .inr⟩;rintro (z|z|⟨_,z⟩);exact z.2 ⟨i,hi,⟨pa,ds,W⟩,B⟩;exact I (S.yo a z);exact I z
 own:=λi pa ds h=>by obtain⟨h,hi⟩:=eR h;obtain⟨a,xs,B,G,L,I,M⟩:=S.own i pa ds h;refine⟨a,xs,B,G,⟨L,?_⟩,I,M.weak λa z=>z.elim (λz=>.inl z.1) .inr⟩;rintro ⟨j,hj,⟨pa',ds',q⟩,U⟩;have:=S.inj i j pa pa' ds ds' a h q B U;subst this;exact hi hj
 trk:=λa z=>S.trk a (z.elim (λz=>.inl z.1) .inr)
 yo:=S.yo
 tk:=S.tk
 rt:=λa z=>S.rt a z.1
 inj:=λi j pa pa' ds ds' a B G L I=>S.inj i j pa pa' ds ds' a (eR B).1 (eR G).1 L I
 len:=by rw[pL];exact S.len
 lx:=S.lx.imp id (λ_ _ e=>⟨xF e,rfl⟩) (λ_ _ _ _ _ _ e=>e) (λa xs e z o=>⟨e,z,λ⟨j,_,⟨pa,ds,q⟩,U⟩=>by
  obtain⟨b,ys,B,G,L,I,M⟩:=S.own j pa ds q;rw[U] at B;cases B;exact I o⟩) (λ_ _ r=>r.weak λa z=>z.imp (·.1) id)
 dx:=S.dx.imp id (λ_ _ e=>⟨zX e,rfl⟩) (λ_ _ _ _ _ _ e=>e) (λa o e n z _=>⟨e,z,λ⟨j,_,⟨pa,ds,q⟩,U⟩=>by
  obtain⟨b,ys,B,G,L,I,M⟩:=S.own j pa ds q;rw[U] at B;cases B;rw[e] at G;cases G;exact n _ rfl⟩) λ_ _ r=>r
theorem Tk.new(t:Tk K H)(h:K.lookup p=none):Tk K (upd H p o):=λb B=>by by_cases e:b=p;rw[e];exact h;rw[upd_ne e] at B;exact t b B
def Nw(K:Fg)(H:Hp)(a:Addr):Prop:=H a=none/\K.lookup a=none
theorem aAZ(q:SqL K H a xs):¬ Nw K H a:=by
 rintro ⟨n,k⟩;rcases q with(q|⟨o,q⟩)|⟨o,its,m,q,_⟩
 rw[n] at q;cases q;rw[n] at q;cases q;rw[k] at q;cases q
theorem Reps.outN{ex:Addr->Prop}(h:Reps K H ex d v):Reps K H (λb=>ex b\/Nw K H b) d v:=
 Reps.imp (λ_ _ q=>q) (λb xs B q=>⟨λz=>z.elim B (aAZ q),q⟩) (λ⟨c,G,I⟩=>⟨c,G,I.resolve_right λz=>G z.2⟩) (λ_ _ _ q=>q) (λb ks B q=>⟨λz=>z.elim B λz=>(by rw[z.1] at q;cases q),q⟩) d v h
theorem RvN.sub{ex:Addr->Prop}{v:Vl}(h:Rep K H' (λa=>exV RT Y old Z ZV v.pa v.al a\/ex a) d x):Rep K H' (λa=>exV RT Y old Z ZV (v.sub d).pa (v.sub d).al a\/ex a) (v.sub d).d x:=by unfold Vl.sub;by_cases B:noL d=true;rw[if_pos B];exact Rep.free d x B h;rw[if_neg B];exact h
structure uH (K:Fg) (RT Y old:Addr->Prop) (Z:Sg) (ZV:L2.St) (H1:Hp) (J:L2.It) (xs:List Vl) (al:List Nat):Prop where
 sub:∀v∈xs,∀j∈v.al,j∈al
 nofr:∀v∈xs,v.fr=false
 ok:∀(R:Addr->Prop),(∀b,R b->rtF RT Z ZV al b)->∀(i:Nat) (H:Hp),Kp R H1 H->(i<xs.length->J.go i H)/\(xs.length<=i->J.stop i H)/\∀x H',J.yld i H x H'->∀v,xs[i]? = some v->aI H H'/\(Tk K H->Tk K H')/\Rep K H' (λa=>exV RT Y old Z ZV v.pa v.al a\/Nw K H1 a) v.d x
theorem zY{v:Vl}:∀j∈(v.sub d).al,j∈v.al:=by unfold Vl.sub Vl.cl;split;intro j B;cases B;intro j B;exact B
theorem pM{v:Vl}:(v.sub d).fr=false:=by unfold Vl.sub Vl.cl;split <;> rfl
theorem mF{x:Vl}{ds:List D}{i:Nat}{v:Vl}(h:(items x ds)[i]? = some v):∃d,ds[i]? = some d/\v=x.sub d:=by
 unfold items at h;rw[Ar] at h;cases q:ds[i]? with
 | none=>rw[q] at h;cases h|some d=>rw[q] at h;exact⟨d,rfl,(An h).symm⟩
theorem mH(h:rtF RT Z ZV al b):exV RT Y old Z ZV pa al b:=.inl h
theorem nN:∀(as bs:List D),(jD as bs).length=min as.length bs.length
 | [],_=>by simp[jD]|_::_,[]=>by simp[jD]|_::as,_::bs=>by rw[jD,lC,nN as bs,lC,lC];omega
theorem xG:∀{as bs:List D} {i:Nat} {a b:D},as[i]? = some a->bs[i]? = some b->(jD as bs)[i]? = some (.tup [a,b])
 | [],_,_,_,_,h,_=>by simp at h|_::_,[],_,_,_,_,h=>by simp at h|_::_,_::_,0,_,_,h,h'=>by simp at h h';subst h h';rfl|_::as,_::bs,i+1,a,b,h,h'=>by have:=xG (as:=as) (bs:=bs) (i:=i) (a:=a) (b:=b) (by simpa using h) (by simpa using h');simpa[jD] using this
theorem aGr(S:Sx K RT Y old Z ZV H){x:Vl}{ds:List D}{a:Addr}{xs:List V}(q:SqL K H a xs)(n:¬ exV RT Y old Z ZV x.pa x.al a)(r:Reps K H (exV RT Y old Z ZV x.pa x.al) ds xs) :
 uH K RT Y old Z ZV H (Itl K a) (items x ds) x.al where
 sub:=λv B j U=>by obtain⟨d,_,e⟩:=A0.mp B;subst e;exact zY j U
 nofr:=λv B=>by obtain⟨d,_,e⟩:=A0.mp B;subst e;exact pM
 ok:=λR I i H1 k=>by
  have M:SqL K H1 a xs:=k.seqL (λz=>n (mH (I a z))) q;have r1:Reps K H1 (λa=>exV RT Y old Z ZV x.pa x.al a\/Nw K H a) ds xs:=r.outN.kp k (λb z=>S.rt b (I b z).1) λb z=>.inl (mH (I b z));have hl:(items x ds).length=xs.length:=by unfold items;rw[lM,r.length]
  refine⟨λhi=>⟨xs,xs[i]'(by omega),M,Af (by omega)⟩,λhi=>⟨xs,M,by omega⟩,λy H' L v B=>?_⟩;obtain⟨e,L⟩:=L;subst e;obtain⟨d,hd,e⟩:=mF B;subst e;obtain⟨y',G,W⟩:=r1.get hd;rw[L xs M] at G;cases G;exact⟨aI.refl _,id,RvN.sub W⟩
theorem aJg(S:Sx K RT Y old Z ZV H){x:Vl}{ds:List D}{a:Addr}{xs:List V}(q:SqT K H a xs)(r:Reps K H (exV RT Y old Z ZV x.pa x.al) ds xs) :
 uH K RT Y old Z ZV H (Itt K a) (items x ds) x.al where
 sub:=λv B j U=>by obtain⟨d,_,e⟩:=A0.mp B;subst e;exact zY j U
 nofr:=λv B=>by obtain⟨d,_,e⟩:=A0.mp B;subst e;exact pM
 ok:=λR I i H1 k=>by
  have M:SqT K H1 a xs:=k.seqT (λb z=>S.rt b (I b z).1) q;have r1:Reps K H1 (λa=>exV RT Y old Z ZV x.pa x.al a\/Nw K H a) ds xs:=r.outN.kp k (λb z=>S.rt b (I b z).1) λb z=>.inl (mH (I b z));have hl:(items x ds).length=xs.length:=by unfold items;rw[lM,r.length]
  refine⟨λhi=>⟨xs,xs[i]'(by omega),M,Af (by omega)⟩,λhi=>⟨xs,M,by omega⟩,λy H' L v B=>?_⟩;obtain⟨e,L⟩:=L;subst e;obtain⟨d,hd,e⟩:=mF B;subst e;obtain⟨y',G,W⟩:=r1.get hd;rw[L xs M] at G;cases G;exact⟨aI.refl _,id,RvN.sub W⟩
theorem uI{lo:Int}{m:Nat}{xs:List Vl}(G:xs=((A9 m).map λ(k:Nat)=>Vl.cl (.int (lo+(k:Int))))):uH K RT Y old Z ZV H (Itr lo m) xs [] where
 sub:=λv B j L=>by subst G;obtain⟨d,_,e⟩:=A0.mp B;subst e;exact L
 nofr:=λv B=>by subst G;obtain⟨d,_,e⟩:=A0.mp B;subst e;rfl
 ok:=λR M i H1 k=>by
  have U:xs.length=m:=by rw[G,lM,Ce]
  refine⟨λhi=>(show i<m by omega),λhi=>(show m<=i by omega),λy H' I v B=>?_⟩;obtain⟨e,I⟩:=I;subst e I;subst G;rw[Ar] at B;have hi:i<m:=by have:=(Au.mp (show((A9 m).map λ(k:Nat)=>Vl.cl (.int (lo+(k:Int))))[i]? = some v by rw[Ar];exact B)).1;simpa using this
  rw[GC hi] at B;cases B;exact⟨aI.refl _,id,rfl⟩
theorem aJh{z:Str}(G:xs=(z.cps.toList.map λn=>Vl.cl (.str ⟨#[n]⟩))):uH K RT Y old Z ZV H (Its z) xs [] where
 sub:=λv B j M=>by subst G;obtain⟨d,_,e⟩:=A0.mp B;subst e;exact M
 nofr:=λv B=>by subst G;obtain⟨d,_,e⟩:=A0.mp B;subst e;rfl
 ok:=λR U i H1 k=>by
  have W:xs.length=z.cps.size:=by rw[G,lM,A6]
  refine⟨λhi=>(show i<z.cps.size by omega),λhi=>(show z.cps.size<=i by omega),λy H' I v B=>?_⟩;obtain⟨e,c,L,I⟩:=I;subst e I;subst G;rw[Ar,AL,L] at B;cases B;exact⟨aI.refl _,id,rfl⟩
theorem aJi(S:Sx K RT Y old Z ZV H){ka kb:Bool}{as bs:List D}{a b:Addr}{xs B:List V}{pa:Bool}{al:List Nat}(qa:Sq ka K H a xs)(qb:Sq kb K H b B)(na:ka=true->¬ exV RT Y old Z ZV pa al a)(nb:kb=true->¬ exV RT Y old Z ZV pa al b)
 (ra:Reps K H (exV RT Y old Z ZV pa al) as xs) (rb:Reps K H (exV RT Y old Z ZV pa al) bs B):uH K RT Y old Z ZV H (Itz K ka kb a b) (items ⟨.non,false,pa,al⟩ (jD as bs)) al where
 sub:=λv M j hj=>by obtain⟨d,_,e⟩:=A0.mp M;subst e;exact zY j hj
 nofr:=λv M=>by obtain⟨d,_,e⟩:=A0.mp M;subst e;exact pM
 ok:=λR L i H1 k=>by
  have keep:∀{U:Bool} {c:Addr} {zs:List V},(U=true->¬ exV RT Y old Z ZV pa al c)->Sq U K H c zs->Sq U K H1 c zs:=by
   intro U c zs nn q;cases U with
   | true=>exact k.seqL (λz=>nn rfl (mH (L c z))) q|false=>exact k.seqT (λb z=>S.rt b (L b z).1) q
  have G:=keep na qa;have I:=keep nb qb;have q1:Reps K H1 (λa=>exV RT Y old Z ZV pa al a\/Nw K H a) as xs:=ra.outN.kp k (λb z=>S.rt b (L b z).1) λb z=>.inl (mH (L b z));have q2:Reps K H1 (λa=>exV RT Y old Z ZV pa al a\/Nw K H a) bs B:=rb.outN.kp k (λb z=>S.rt b (L b z).1) λb z=>.inl (mH (L b z));have hl:(items ⟨.non,false,pa,al⟩ (jD as bs)).length=min xs.length B.length:=by unfold items;rw[lM,nN,ra.length,rb.length]
  have ge:∀(h1:i<xs.length) (h2:i<B.length),True:=λ_ _=>trivial;refine⟨λhi=>?_,λhi=>⟨xs,B,G,I,by omega⟩,λy H' hy v M=>?_⟩;have h1:i<xs.length:=by omega
  have h2:i<B.length:=by omega
  exact⟨xs,B,xs[i],B[i],G,I,Af h1,Af h2⟩;obtain⟨p,x,y',rfl,hp,hk,rfl,hh⟩:=hy;obtain⟨hx,hy⟩:=hh xs B G I;obtain⟨d,hd,e⟩:=mF M;subst e;obtain⟨d1,W,q3⟩:=q1.get' hx;obtain⟨d2,q0,q4⟩:=q2.get' hy;rw[xG W q0] at hd;cases hd;have sm:aI H1 (upd H1 p (.tup [x,y'])):=aI.new hp;refine⟨sm,λtk=>tk.new hk,RvN.sub (v:=⟨.non,false,pa,al⟩) ?_⟩;exact⟨p,[x,y'],rfl,SqT.of aR,.cons (q3.grow sm) (.cons (q4.grow sm) .nil)⟩
end
section
variable {X:Cx} {P:Pg} {Γ:Ct} {n:Nat} {RT Y old:Addr->Prop} {Z:Sg} {tg:A2}
def wI(X:Cx)(P:Pg)(n:Nat)(RT Y old:Addr->Prop)(Z:Sg)(it:Hp.It):TI:=λZV H R=>Sx X.K RT Y old Z ZV H/\RE (walk P (call P n) Z it) λxs=>∀J H1,Tk X.K H1->aI H H1->uH X.K RT Y old Z ZV H1 J xs.1 xs.2->R J H1
theorem uJ(h:PI X tg iter t)(f:∀ZV H R,Tk X.K H->t' ZV H R->t ZV H λJ H'=>Tk X.K H'->R J H'):PI X tg iter t':=λpins s ZV H R I M=>thn (h pins s ZV H _ I (f ZV H R I.tk M)) λv s1 L=>thn L λU s2 ⟨it,fp,tn,J,H',e,B,T,st,G,q⟩=>⟨it,fp,tn,J,H',e,B,T,st,G,q B.tk⟩
theorem aMq(L:PE X e (WE X P n RT Y old Z c)):PI X tg e (wI X P n RT Y old Z (.seq c)):=by
 refine uJ (aJf L) λZV H RR t ⟨S,h⟩=>?_;have h:=RE.bind' (show RE (ev P (call P n) Z c >>= λx=>(match x.d with
  | .lst ds=>R.ok (items x ds,x.al)|.tup ds=>R.ok (items x ds,x.al)|.str a=>R.iff (decide (a.length<=lim)) (R.ok (a.cps.toList.map λn=>Vl.cl (.str ⟨#[n]⟩),[]))|_=>.bad)) _ from h)
 refine wE.one S h λx u H1 B U I r1=>?_;have rv:=r1.rv S;split at B;rename_i ds G;obtain⟨a,xs,e,q,M,r⟩:=rv.lst G;exact .inl ⟨a,e,.inl ⟨⟨xs,q⟩,λt'=>B _ _ t' r1.1 (aGr I q M r)⟩⟩;rename_i ds G;obtain⟨a,xs,e,q,r⟩:=rv.tup G;exact .inl ⟨a,e,.inr ⟨⟨xs,q⟩,λt'=>B _ _ t' r1.1 (aJg I q r)⟩⟩;rename_i z G;obtain⟨c,B⟩:=B.iff;exact .inr ⟨z,rv.str G,λt'=>B _ _ t' r1.1 (aJh rfl)⟩;exact B.elim
theorem gD(i j:Int):(bX i j).map Vl.cl=(A9 (j-i).toNat).map λ(k:Nat)=>Vl.cl (.int (i+(k:Int))):=by unfold bX;rw[AJ];rfl
theorem fQ(h:aH k=true):-(2 ^ 62)<=k/\k<2 ^ 62:=by unfold aH at h;simp only[bA,AN] at h;exact h
theorem aJj(M:Mc X P Γ n)(hf:f=("range" : Str))(hg:bT Γ f=true)(ha:PE X e (WE X P n RT Y old Z b))(L:aK e=true):PI X tg (.Call (.Name f p) [e] [] pos) (wI X P n RT Y old Z (.rng (.c (.int 0)) b)):=by
 subst hf;refine uJ (lW (M.gl hg) (M.md.blt _ (by decide +kernel)) (mD ha aAY L) (aA L)) λZV H RR t ⟨S,h⟩=>?_;have h:RE (ev P (call P n) Z b) λy=>RE (match (D.int 0),y.d with|.int i,.int j=>R.iff (aH i&&aH j) (R.ok ((bX i j).map Vl.cl,[]))|_,_=>.bad) _:=
  RE.bind' (show RE (ev P (call P n) Z b >>= λy=>(match (D.int 0),y.d with|.int i,.int j=>R.iff (aH i&&aH j) (R.ok ((bX i j).map Vl.cl,[]))|_,_=>.bad)) _ from h)
 refine⟨S,?_⟩;show RE (ev P (call P n) Z b >>= λx=>evs P (call P n) Z .nil >>= λxs=>R.ok (x::xs)) _;rw[RE.bind];refine h.mono λy B=>?_;split at B;rename_i i j U W;cases U;obtain⟨c,B⟩:=B.iff;rw[bA] at c;have G:=fQ c.2;intro us H1 t1 s1 r1;obtain⟨u,r',I,ru,hr⟩:=r1;rw[show r'=[] from hr] at I;subst I;refine⟨j,by rw[ru.int W],G.1,G.2,λt'=>B _ _ t' s1 (uI ?_)⟩;rw[gD];simp;exact B.elim
theorem aJk(M:Mc X P Γ n)(hf:f=("range" : Str))(hg:bT Γ f=true)(ha:PE X ea (WE X P n RT Y old Z a))(hb:PE X eb (WE X P n RT Y old Z b))(I:aK ea=true)(B:aK eb=true) :
 PI X tg (.Call (.Name f p) [ea,eb] [] pos) (wI X P n RT Y old Z (.rng a b)):=by subst hf;refine uJ (aBR (M.gl hg) (M.md.blt _ (by decide +kernel)) (mD ha (mD hb aAY B) I) (by rw[aA I,aA B];rfl) (aA B)) λZV H RR t ⟨S,h⟩=>?_;have h:=RE.bind' (show RE (ev P (call P n) Z a >>= λx=>ev P (call P n) Z b >>= λy=>(match x.d,y.d with|.int i,.int j=>R.iff (aH i&&aH j) (R.ok ((bX i j).map Vl.cl,[]))|_,_=>.bad)) _ from h);refine⟨S,?_⟩;show RE (ev P (call P n) Z a >>= λx=>evs P (call P n) Z (.cons b .nil) >>= λxs=>R.ok (x::xs)) _;rw[RE.bind];refine h.mono λx hx=>?_;rw[RE.bind];show RE (ev P (call P n) Z b >>= λx=>evs P (call P n) Z .nil >>= λxs=>R.ok (x::xs)) _;rw[RE.bind];refine(RE.bind' hx).mono λy L=>?_;split at L;rename_i i j e1 e2;obtain⟨c,L⟩:=L.iff;rw[bA] at c;have W:=fQ c.1;have c2:=fQ c.2;intro us H1 t1 s1 r1;obtain⟨u,r',eu,ru,u2,r2,G,U,hr⟩:=r1;rw[show r2=[] from hr] at G;subst G;subst eu;refine⟨i,j,by rw[ru.int e1,U.int e2],⟨W.1,W.2,c2.1,c2.2⟩,λt'=>L _ _ t' s1 (uI ?_)⟩;rw[gD];exact L.elim
theorem aEe{x:Vl}(G:Rv X.K RT Y old Z ZV H x u)(h:jN x.d=some ds):∃(k:Bool) (a:Addr) (xs:List V),u=.ref a/\Sq k X.K H a xs/\(k=true->¬ exV RT Y old Z ZV x.pa x.al a)/\Reps X.K H (exV RT Y old Z ZV x.pa x.al) ds xs:=by unfold jN at h;split at h;rename_i ds' B;cases h;obtain⟨a,xs,e,q,I,r⟩:=G.lst B;exact⟨true,a,xs,e,q,λ_=>I,r⟩;rename_i ds' B;cases h;obtain⟨a,xs,e,q,r⟩:=G.tup B;exact⟨false,a,xs,e,q,(λz=>absurd z bN),r⟩;cases h
theorem aMr(M:Mc X P Γ n)(hf:f=("zip" : Str))(hg:bT Γ f=true)(ha:PE X ea (WE X P n RT Y old Z a))(hb:PE X eb (WE X P n RT Y old Z b))(I:aK ea=true)(B:aK eb=true) :
 PI X (.Tuple elts tk tp) (.Call (.Name f p) [ea,eb] [] pos) (wI X P n RT Y old Z (.zip a b)):=by
 subst hf;refine uJ (aJe (M.gl hg) (M.md.blt _ (by decide +kernel)) (mD ha (mD hb aAY B) I) (by rw[aA I,aA B];rfl) (aA B)) λZV H RR t ⟨S,h⟩=>?_;have h:=RE.bind' (show RE (ev P (call P n) Z a >>= λx=>ev P (call P n) Z b >>= λy=>(match jN x.d,jN y.d with
  | some as,some bs=>R.ok (items ⟨.non,false,x.pa||y.pa,x.al++y.al⟩ (jD as bs),x.al++y.al)|_,_=>.bad)) _ from h)
 refine⟨S,?_⟩;show RE (ev P (call P n) Z a >>= λx=>evs P (call P n) Z (.cons b .nil) >>= λxs=>R.ok (x::xs)) _;rw[RE.bind];refine h.mono λx hx=>?_;rw[RE.bind];show RE (ev P (call P n) Z b >>= λx=>evs P (call P n) Z .nil >>= λxs=>R.ok (x::xs)) _;rw[RE.bind];refine(RE.bind' hx).mono λy hy=>?_;split at hy;rename_i as bs e1 e2;intro us H1 t1 s1 r1;obtain⟨u,r',eu,ru,u2,r2,G,q0,hr⟩:=r1;rw[show r2=[] from hr] at G;subst G;subst eu;obtain⟨ka,a1,xs,rfl,qa,na,ra⟩:=aEe ru e1;obtain⟨kb,b1,ys,rfl,qb,nb,rb⟩:=aEe q0 e2;have S1:=S.grow s1 t1;have w1:∀c,exV RT Y old Z ZV (x.pa||y.pa) (x.al++y.al) c->exV RT Y old Z ZV x.pa x.al c:=λc z=>z.mono (λW=>by rw[W];rfl) λj L=>AE _ L;have w2:∀c,exV RT Y old Z ZV (x.pa||y.pa) (x.al++y.al) c->exV RT Y old Z ZV y.pa y.al c:=λc z=>z.mono (λW=>by rw[W,C8]) λj L=>A5 _ L;exact⟨ka,kb,a1,b1,xs,ys,rfl,qa,qb,λt'=>hy _ _ t' s1 (aJi S1 qa qb (λU z=>na U (w1 _ z)) (λU z=>nb U (w2 _ z)) (ra.weak w1) (rb.weak w2))⟩;exact hy.elim
end
def gs:List Nat->TGs
 | []=>aLl|i::is=>aHA (rK i) (gs is)
def gT(K:Fg):T->TG
 | .n i=>rK i|.t is=>aLm K is.length (gs is)
section
variable {K:Fg} {RT Y old:Addr->Prop} {Z:Sg} {ZV:L2.St} {H H':Hp}
theorem set_some{α:Type}{l:List α}{i j:Nat}{x y:α}(e:(l.set i x)[j]? = some y):(i=j/\x=y/\i<l.length)\/(i≠j/\l[j]? = some y):=by by_cases B:i=j;subst B;have G:i<(l.set i x).length:=(Au.mp e).1;rw[Ax] at G;rw[Ay G] at e;cases e;exact .inl ⟨rfl,rfl,G⟩;rw[Ah B] at e;exact .inr ⟨B,e⟩
theorem Sx.setSh(S:Sx K RT Y old Z ZV H)(h:Rep K H (λa=>RT a\/exB Y old pa a) d u):Sx K RT Y old (Z.set i (.sh pa d)) (ZV.set i (some u)) H where
 sh:=λj pa' d' e=>by
  rcases set_some e with⟨rfl,e,hl⟩|⟨B,e⟩
  cases e;exact⟨u,Ay (by rw[<-S.len];exact hl),h⟩;obtain⟨v,M,U⟩:=S.sh j pa' d' e;exact⟨v,by rw[Ah B];exact M,U⟩
 own:=λj pa' ds e=>by
  rcases set_some e with⟨rfl,e,hl⟩|⟨B,e⟩
  cases e;obtain⟨a,xs,M,U⟩:=S.own j pa' ds e;exact⟨a,xs,by rw[Ah B];exact M,U⟩
 trk:=S.trk
 yo:=S.yo
 tk:=S.tk
 rt:=S.rt
 inj:=λj j' pa' G ds ds' a I L W e4=>by
  rcases set_some I with⟨_,e,_⟩|⟨n1,I⟩
  cases e;rcases set_some L with⟨_,e,_⟩|⟨n2,L⟩
  cases e;rw[Ah n1] at W;rw[Ah n2] at e4;exact S.inj j j' pa' G ds ds' a I L W e4
 len:=by rw[Ax,Ax];exact S.len
 lx:=S.lx.imp id (λj ds e=>by
  rcases set_some e with⟨_,z,_⟩|⟨B,e⟩
  cases z;exact⟨e,Ah B⟩) (λ_ _ _ _ _ _ e=>e) (λ_ _ e z _=>⟨e,z⟩) (λ_ _ r=>r)
 dx:=S.dx.imp id (λj ds e=>by
  rcases set_some e with⟨_,z,_⟩|⟨B,e⟩
  cases z;exact⟨e,Ah B⟩) (λ_ _ _ _ _ _ e=>e) (λ_ _ e _ z _=>⟨e,z⟩) λ_ _ r=>r
theorem Rep.out{ex:Addr->Prop}(h:Rep K H ex d v)(n:H a=none)(k:K.lookup a=none):Rep K H (λb=>b=a\/ex b) d v:=
 Rep.imp (λ_ _ q=>q) (λb xs B q=>⟨λz=>z.elim (λz=>by
  subst z;rcases q with(q|⟨o,q⟩)|⟨o,its,m,q,_⟩
  rw[n] at q;cases q;rw[n] at q;cases q;rw[k] at q;cases q) B,q⟩) (λ⟨c,G,I⟩=>⟨c,G,I.resolve_left λz=>G (by rw[z];exact k)⟩) (λ_ _ _ q=>q) (λb ks B q=>⟨λz=>z.elim (λz=>by rw[z,n] at q;cases q) B,q⟩) d v h
theorem Reps.out{ex:Addr->Prop}(h:Reps K H ex d v)(n:H a=none)(k:K.lookup a=none):Reps K H (λb=>b=a\/ex b) d v:=
 Reps.imp (λ_ _ q=>q) (λb xs B q=>⟨λz=>z.elim (λz=>by
  subst z;rcases q with(q|⟨o,q⟩)|⟨o,its,m,q,_⟩
  rw[n] at q;cases q;rw[n] at q;cases q;rw[k] at q;cases q) B,q⟩) (λ⟨c,G,I⟩=>⟨c,G,I.resolve_left λz=>G (by rw[z];exact k)⟩) (λ_ _ _ q=>q) (λb ks B q=>⟨λz=>z.elim (λz=>by rw[z,n] at q;cases q) B,q⟩) d v h
theorem Sx.storeOwn(S:Sx K RT Y old Z ZV H)(s:aI H H')(t:Tk K H')(hn:H a=none)(G:H' a=some (.lst xs))(r:Reps K H' (λb=>(RT b\/b=a)\/exB Y old pa b) ds xs) :
 Sx K (λb=>RT b\/b=a) Y old (Z.set i (.own pa ds)) (ZV.set i (some (.ref a))) H' where
 sh:=λj pa' d' e=>by
  rcases set_some e with⟨rfl,e,W⟩|⟨B,e⟩
  cases e;obtain⟨v,M,U⟩:=S.sh j pa' d' e;refine⟨v,by rw[Ah B];exact M,((U.out hn (t a (by rw[G];simp))).grow s).weak λb z=>?_⟩;rcases z with(z|z)|z;exact .inr (.inl z);exact .inl z;exact .inr (.inr z)
 own:=λj pa' ds' e=>by
  rcases set_some e with⟨rfl,e,W⟩|⟨B,e⟩
  cases e;exact⟨a,xs,Ay (by rw[<-S.len];exact W),G,.inr rfl,λz=>S.trk a (.inr (.inr z)) hn (t a (by rw[G];simp)),r⟩;obtain⟨a',q1,M,U,h3,h4,h5⟩:=S.own j pa' ds' e;refine⟨a',q1,by rw[Ah B];exact M,s _ _ U,.inl h3,h4,((h5.out hn (t a (by rw[G];simp))).grow s).weak λb z=>?_⟩;rcases z with(z|z)|z;exact .inr (.inl z);exact .inl z;exact .inr (.inr z)
 trk:=λb z q=>by rcases z with(z|z)|z;exact S.trk b (.inl z) (s.free q);rw[z,G] at q;cases q;exact S.trk b (.inr z) (s.free q)
 yo:=S.yo
 tk:=t
 rt:=λb z=>by rcases z with z|z;exact(S.rt b z).grow s;rw[z];exact .lst G
 inj:=λj j' pa' q0 q2 q3 c e1 I e3 L=>by
  have fr:∀{j:Nat} {pa:Bool} {ds:List D},Z[j]? = some (.own pa ds)->ZV[j]? = some (some (.ref a))->False:=λ{j pa ds} e q=>by obtain⟨a',q1,M,U,_⟩:=S.own j pa ds e;rw[q] at M;cases M;rw[hn] at U;cases U
  rcases set_some e1 with⟨rfl,e,W⟩|⟨n1,e1⟩
  rcases set_some I with⟨rfl,_,_⟩|⟨n2,I⟩
  rfl;rw[Ay (by rw[<-S.len];exact W)] at e3;cases e3;rw[Ah n2] at L;exact(fr I L).elim;rw[Ah n1] at e3;rcases set_some I with⟨rfl,e,W⟩|⟨n2,I⟩
  rw[Ay (by rw[<-S.len];exact W)] at L;cases L;exact(fr e1 e3).elim;rw[Ah n2] at L;exact S.inj j j' pa' q0 q2 q3 c e1 I e3 L
 len:=by rw[Ax,Ax];exact S.len
 lx:=S.lx.imp id (λj ds e=>by
  rcases set_some e with⟨_,z,_⟩|⟨B,e⟩
  cases z;exact⟨e,Ah B⟩) (λ_ _ _ _ _ _ e=>e) (λb ys e z _=>⟨s _ _ e,.inl z⟩) (λds ys r=>((r.out hn (t a (by rw[G];simp))).grow s).weak λb z=>by
  rcases z with(z|z)|z;exact .inr (.inl z);exact .inl z;exact .inr (.inr z))
 dx:=S.dx.imp id (λj ds e=>by
  rcases set_some e with⟨_,z,_⟩|⟨B,e⟩
  cases z;exact⟨e,Ah B⟩) (λ_ _ _ _ _ _ e=>e) (λb o e _ z _=>⟨s _ _ e,.inl z⟩) λ_ _ r=>aI.seqT s r
theorem fR{v:Vl}(h:v.fr=false):v.slot=.sh v.pa v.d:=by unfold Vl.slot;rw[h]
theorem aBa{v:Vl}(h:v.fr=true)(hd:v.d=.lst ds):v.slot=.own v.pa ds:=by unfold Vl.slot;rw[h,hd]
theorem Sx.store(S:Sx K RT Y old Z ZV H){v:Vl}(I:Ro K RT Y old Z ZV H H' v u)(t:Tk K H')(i:Nat) :
 ∃B,Sx K B Y old ((freeze Z v.al).set i v.slot) (ZV.set i (some u)) H'/\∀b,B b->RT b\/H b=none:=by by_cases G:v.fr=true;obtain⟨s,h⟩:=I;rw[if_pos G] at h;obtain⟨a,xs,ds,M,U,L,W,r⟩:=h;subst M;rw[aBa G U];refine⟨_,(S.frz v.al).storeOwn s t L.1 W (r.weak λb z=>?_),λb z=>z.elim (λz=>.inl z.1) λz=>.inr (by rw[z];exact L.1)⟩;rcases z with(z|z)|z;exact .inr (.inl z);exact .inl z;exact .inr (.inr z);rw[fR (by simpa using G)];exact⟨_,((S.grow I.1 t).frz v.al).setSh (I.rv S),λb z=>.inl z.1⟩
theorem aHS:∀{is:List Nat} {us:List V} {ZV:L2.St} {H:Hp} {Q:L2.St->Hp->Prop},is.length=us.length->Q ((is.zip us).foldl (λs p=>s.set p.1 (some p.2)) ZV) H->gs is us ZV H Q
 | [],[],_,_,_,_,h=>⟨rfl,h⟩
 | [],_::_,_,_,_,e,_=>by simp at e|_::_,[],_,_,_,e,_=>by simp at e|i::is,u::us,ZV,H,Q,e,h=>⟨u,us,rfl,aHS (is:=is) (us:=us) (by simpa using e) h⟩
theorem xH{v:Vl}:(v.sub d).slot=.sh (!noL d&&v.pa) d:=by
 rw[fR pM];unfold Vl.sub Vl.cl;split;rename_i h;rw[h];rfl;rename_i h;have:noL d=false:=by simpa using h
 rw[this];rfl
theorem Sx.setAll{v:Vl}:∀{is:List Nat} {ds:List D} {us:List V} {Z:Sg} {ZV:L2.St},Sx K RT Y old Z ZV H->Reps K H (λa=>RT a\/exB Y old v.pa a) ds us ->
 Sx K RT Y old ((is.zip ds).foldl (λZ p=>Z.set p.1 (v.sub p.2).slot) Z) ((is.zip us).foldl (λs p=>s.set p.1 (some p.2)) ZV) H
 | [],_,_,_,_,S,_=>S|_::_,[],us,_,_,S,r=>by rw[show us=[] from r];exact S|i::is,d::ds,us,Z,ZV,S,r=>by
  obtain⟨x,L,e,B,G⟩:=r;subst e;refine Sx.setAll (v:=v) (is:=is) (ds:=ds) (us:=L) ?_ G;show Sx K RT Y old (Z.set i (v.sub d).slot) (ZV.set i (some x)) H;rw[xH];refine S.setSh ?_;cases I:noL d with
  | true=>exact Rep.free d x I B|false=>exact B
theorem mI{α:Type}{B:Type}(f:B->α):∀{is:List Nat} {bs:List B} {l:List α} {j:Nat},j∉is->((is.zip bs).foldl (λs p=>s.set p.1 (f p.2)) l)[j]? = l[j]?
 | [],_,_,_,_=>rfl|_::_,[],_,_,_=>rfl|i::is,b::bs,l,j,h=>by
  have h':i≠j/\j∉is:=by refine⟨λe=>h (by simp[e]),λz=>h (Ag _ z)⟩
  rw[Ba,Bm,mI f (is:=is) (bs:=bs) h'.2,Ah h'.1]
theorem xI{α:Type}{B:Type}(f:B->α):∀{is:List Nat} {bs:List B} {l:List α},((is.zip bs).foldl (λs p=>s.set p.1 (f p.2)) l).length=l.length
 | [],_,_=>rfl|_::_,[],_=>rfl|i::is,b::bs,l=>by rw[Ba,Bm,xI f (is:=is) (bs:=bs),Ax]
theorem fold_mem{α:Type}{B:Type}(f:B->α):∀{is:List Nat} {bs:List B} {l:List α} {j:Nat} {x:α},((is.zip bs).foldl (λs p=>s.set p.1 (f p.2)) l)[j]? = some x->l[j]? = some x\/∃b,x=f b
 | [],_,_,_,_,h=>.inl h|_::_,[],_,_,_,h=>.inl h|i::is,b::bs,l,j,x,h=>by
  rw[Ba,Bm] at h;rcases fold_mem f (is:=is) (bs:=bs) h with q|q;rcases set_some q with⟨_,e,_⟩|⟨_,e⟩
  exact .inr ⟨b,e.symm⟩;exact .inl e;exact .inr q
theorem pN{v:Vl}{is:List Nat}(e:aT Z v (.t is)=.ok Z2):∃ds,v.d=.tup ds/\ds.length=is.length/\Z2=(is.zip ds).foldl (λZ p=>Z.set p.1 (v.sub p.2).slot) Z:=by unfold aT at e;simp only at e;split at e;rename_i ds hd;split at e;rename_i B;cases e;exact⟨ds,hd,B,rfl⟩;cases e;cases e
theorem pO{v:Vl}(e:aT Z v (.n i)=.ok Z2):Z2=Z.set i v.slot:=by cases(show R.ok (Z.set i v.slot)=R.ok Z2 from e);rfl
theorem aEf{B:Sg}(e:aT Z v t=.ok B)(h:j∉tIx t):B[j]? = Z[j]? := by
 cases t with
 | n i=>rw[pO e];exact Ah λz=>h (by simp[tIx,z])|t is=>obtain⟨ds,_,_,e⟩:=pN e;rw[e];exact mI (λd=>(v.sub d).slot) h
theorem xJ{B:Sg}(e:aT Z v t=.ok B):B.length=Z.length:=by
 cases t with
 | n i=>rw[pO e,Ax]|t is=>obtain⟨ds,_,_,e⟩:=pN e;rw[e];exact xI (λd=>(v.sub d).slot)
theorem aEg{v:Vl}{t:T}{B:Sg}{j:Nat}{pa:Bool}{ds:List D}(G:v.fr=false)(e:aT Z v t=.ok B)(h:B[j]? = some (.own pa ds)):Z[j]? = some (.own pa ds):=by
 cases t with
 | n i=>
  rw[pO e,fR G] at h;rcases set_some h with⟨_,e,_⟩|⟨_,e⟩
  cases e;exact e
 | t is=>
  obtain⟨ds',_,_,e⟩:=pN e;rw[e] at h;rcases fold_mem (λd=>(v.sub d).slot) h with q|⟨b,q⟩
  exact q;rw[xH] at q;cases q
theorem xK(S:Sx K RT Y old Z ZV H){v:Vl}{Q:L2.St->Hp->Prop}(G:v.fr=false)(h:Rep K H (λa=>RT a\/exB Y old v.pa a) v.d u)(e:aT Z v t=.ok Z2)
 (q:∀B,Sx K RT Y old Z2 B H->(∀j,j∉tIx t->B[j]? = ZV[j]?)->Q B H):gT K t u ZV H Q:=by
 cases t with
 | n i=>rw[pO e,fR G] at q;exact q _ (S.setSh h) λj I=>Ah λz=>I (by simp[tIx,z])|t is=>obtain⟨ds,hd,M,e⟩:=pN e;rw[hd] at h;obtain⟨a,xs,rfl,L,r⟩:=h;have U:=r.length;refine⟨a,xs,rfl,L,by omega,aHS (by omega) (q _ ?_ λj I=>?_)⟩;rw[e];exact S.setAll r;exact mI (λd=>some d) I
end
section
variable {X:Cx} {P:Pg} {Γ:Ct} {n:Nat} {RT Y old:Addr->Prop} {Z:Sg} {tg:A2} {pos:EJ}
theorem xL(M:Mc X P Γ n):∀{is:List Nat} {es:List A2},is.length=es.length->((is.zip es).all λp=>match p.2 with|.Name x _=>aZ Γ p.1 x|_=>false)=true ->
 PGs X es (gs is)/\(Db es X.env).length=is.length/\(Db es X.env).findIdx? (·.1)=none
 | [],[],_,_=>⟨aFE,rfl,rfl⟩
 | [],_::_,e,_=>by simp at e|_::_,[],e,_=>by simp at e|i::is,e::es,hl,h=>by
  rw[Ba,DF,bA] at h;obtain⟨G,I,L⟩:=xL M (is:=is) (es:=es) (by simpa using hl) h.2;cases e with
  | Name x p=>have hs:aZ Γ i x=true:=h.1;unfold aZ at hs;simp only[bA,beq_iff_eq] at hs;have B:Db (.Name x p::es) X.env=(false,F9 (.Name x p) X.env)::Db es X.env:=rfl;refine⟨aDb (aAC M.nd (by rw[M.N];exact hs.1.1) (M.loc hs.1.2) (M.st x hs.1.2)) G (by rw[B];rfl),?_,?_⟩;rw[B,lC,lC,I];rw[B,List.findIdx?_cons];simp[L]|_=>cases h.1
theorem zZ(M:Mc X P Γ n)(h:hU Γ t tg=true):PG X tg (gT X.K t):=by
 cases t with
 | n i=>
  cases tg with
  | Name x p=>have hs:aZ Γ i x=true:=h;unfold aZ at hs;simp only[bA,beq_iff_eq] at hs;exact aAC M.nd (by rw[M.N];exact hs.1.1) (M.loc hs.1.2) (M.st x hs.1.2)|_=>cases h
 | t is=>
  cases tg with
  | Tuple es k p=>have h:(is.length==es.length&&(is.zip es).all λp=>match p.2 with|.Name x _=>aZ Γ p.1 x|_=>false)=true:=h;rw[bA,beq_iff_eq] at h;obtain⟨B,G,I⟩:=xL M h.1 h.2;exact aIr M.calm B G I|_=>cases h
def ch0(k:Nat)(caps:List Nat)(Z:Sg):Sg:=Ae k .dead++caps.map λi=>(Z[i]?).getD .dead
theorem ch0_get{caps:List Nat}{Z:Sg}(h:(ch0 k caps Z)[j]? = some s):s=.dead\/∃G i,j=k+G/\caps[G]? = some i/\Z[i]? = some s:=by
 unfold ch0 at h;by_cases B:j<k;rw[A4 (by simpa using B),Cc,if_pos B] at h;cases h;exact .inl rfl;rw[Az (by simpa using B),Be,Ar] at h;cases e:caps[j-k]? with
 | none=>rw[e] at h;cases h|some i=>
  rw[e] at h;have h':(Z[i]?).getD .dead=s:=An h;cases q:Z[i]? with
  | none=>rw[q] at h';exact .inl h'.symm|some z=>rw[q] at h';exact .inr ⟨j-k,i,by omega,e,by rw[q];exact congrArg some h'⟩
theorem xM(B:j<k)(h:(ch0 k caps Z)[j]? = some s):s=.dead:=by unfold ch0 at h;rw[A4 (by simpa using B),Cc,if_pos B] at h;cases h;rfl
theorem oC{caps:List Nat}{ZV:L2.St}(e:caps[j]? = some i)(h:ZV[i]? = some (some v)):(gB k caps ZV)[k+j]? = some (some v):=by unfold gB;rw[Az (by simp),Be,Ar,AW,e];show some ((ZV[i]?).getD none)=_;rw[h];rfl
theorem oD{caps:List Nat}{ZV:L2.St}(e:caps[j]? = some i)(h:(gB k caps ZV)[k+j]? = some (some v)):ZV[i]? = some (some v):=by
 unfold gB at h;rw[Az (by simp),Be,Ar,AW,e] at h;have h':(ZV[i]?).getD none=some v:=An h;cases q:ZV[i]? with
 | none=>rw[q] at h';cases h'|some z=>rw[q] at h';exact congrArg some h'
theorem iS{α:Type}:∀{l:List α},l.Nodup->∀{i j:Nat} {x:α},l[i]? = some x->l[j]? = some x->i=j
 | [],_,_,_,_,h,_=>by simp at h|a::l,hn,0,0,_,_,_=>rfl|a::l,hn,0,j+1,x,h1,h2=>by
  have e:a=x:=by simpa using h1
  have:x∈l:=mG (by simpa using h2);subst e;exact absurd this (AZ.mp hn).1
 | a::l,hn,i+1,0,x,h1,h2=>by
  have e:a=x:=by simpa using h2
  have:x∈l:=mG (by simpa using h1);subst e;exact absurd this (AZ.mp hn).1
 | a::l,hn,i+1,j+1,x,h1,h2=>congrArg (·+1) (iS (AZ.mp hn).2 (i:=i) (j:=j) (x:=x) (by simpa using h1) (by simpa using h2))
theorem Sx.child{K:Fg}{ZV:L2.St}{H:Hp}(S:Sx K RT Y old Z ZV H){k:Nat}{caps:List Nat}(nd:caps.Nodup):Sx K RT Y old (ch0 k caps Z) (gB k caps ZV) H where
 sh:=λj pa d e=>by
  rcases ch0_get e with z|⟨j',i,rfl,L,hs⟩
  cases z;obtain⟨v,I,h2⟩:=S.sh i pa d hs;exact⟨v,oC L I,h2⟩
 own:=λj pa ds e=>by
  rcases ch0_get e with z|⟨j',i,rfl,L,hs⟩
  cases z;obtain⟨a,xs,I,h2⟩:=S.own i pa ds hs;exact⟨a,xs,oC L I,h2⟩
 trk:=S.trk
 yo:=S.yo
 tk:=S.tk
 rt:=S.rt
 inj:=λj1 j2 pa pa' ds ds' a M U e3 e4=>by
  rcases ch0_get M with z|⟨W,i1,rfl,B,q1⟩
  cases z;rcases ch0_get U with z|⟨q0,i2,rfl,G,q2⟩
  cases z;have:=S.inj i1 i2 pa pa' ds ds' a q1 q2 (oD B e3) (oD G e4);subst this;rw[iS nd B G]
 len:=by unfold ch0 gB;rw[lA,lA,lM,lM,Be,Be]
 lx:=S.lx.imp (λj=>(caps[j-k]?).getD 0) (λj ds e=>by
  rcases ch0_get e with z|⟨j',i,rfl,L,hs⟩
  cases z;rw[AW,L];refine⟨hs,?_⟩;obtain⟨a,xs,I,_⟩:=S.lx.at' i ds hs;rw[oC L I];exact I.symm) (λj1 j2 ds ds' M U q=>by
  rcases ch0_get M with z|⟨W,i1,rfl,B,_⟩
  cases z;rcases ch0_get U with z|⟨q0,i2,rfl,G,_⟩
  cases z;rw[AW,AW,B,G] at q;have q:i1=i2:=q;subst q;rw[iS nd B G]) (λ_ _ e z _=>⟨e,z⟩) (λ_ _ r=>r)
 dx:=S.dx.imp (λj=>(caps[j-k]?).getD 0) (λj ds e=>by
  rcases ch0_get e with z|⟨j',i,rfl,L,hs⟩
  cases z;rw[AW,L];refine⟨hs,?_⟩;obtain⟨a,I,_⟩:=S.dx.at' i ds hs;rw[oC L I];exact I.symm) (λj1 j2 ds ds' M U q=>by
  rcases ch0_get M with z|⟨W,i1,rfl,B,_⟩
  cases z;rcases ch0_get U with z|⟨q0,i2,rfl,G,_⟩
  cases z;rw[AW,AW,B,G] at q;have q:i1=i2:=q;subst q;rw[iS nd B G]) (λ_ _ e _ z _=>⟨e,z⟩) λ_ _ r=>r
theorem Sx.forget{K:Fg}{Z':Sg}{ZV:L2.St}{H:Hp}(S:Sx K RT Y old Z ZV H)(W:Z'.length=Z.length)(h:∀(j:Nat) (s:Sl),Z'[j]? = some s->s=.dead\/Z[j]? = some s):Sx K RT Y old Z' ZV H where
 sh:=λj pa d e=>by rcases h j _ e with z|z;cases z;exact S.sh j pa d z
 own:=λj pa d e=>by rcases h j _ e with z|z;cases z;exact S.own j pa d z
 trk:=S.trk
 yo:=S.yo
 tk:=S.tk
 rt:=S.rt
 inj:=λB G pa pa' ds ds' a I L M U=>by rcases h B _ I with z|z1;cases z;rcases h G _ L with z|z2;cases z;exact S.inj B G pa pa' ds ds' a z1 z2 M U
 len:=by rw[W];exact S.len
 lx:=S.lx.imp id (λj ds e=>(h j _ e).elim (λz=>by cases z) λz=>⟨z,rfl⟩) (λ_ _ _ _ _ _ e=>e) (λ_ _ e z _=>⟨e,z⟩) (λ_ _ r=>r)
 dx:=S.dx.imp id (λj ds e=>(h j _ e).elim (λz=>by cases z) λz=>⟨z,rfl⟩) (λ_ _ _ _ _ _ e=>e) (λ_ _ e _ z _=>⟨e,z⟩) λ_ _ r=>r
def wTs(X:Cx)(P:Pg)(n:Nat)(RT Y old:Addr->Prop)(Z:Sg)(cs:Es):TT:=λZV H Q=>Sx X.K RT Y old Z ZV H/\RE (tsts P (call P n) Z cs) λk=>∀H',Tk X.K H'->aI H H'->Q k H'
theorem aJl:PTs X [] (wTs X P n RT Y old Z .nil):=λpins s ZV H Q I ⟨S,h⟩=>aAX pins s ZV H Q I ((show ∀H',Tk X.K H'->aI H H'->Q true H' from h) H I.tk (aI.refl H))
theorem aJm(h:PT X e (WT X P n RT Y old Z c)):PTs X [e] (wTs X P n RT Y old Z (.cons c .nil)):=λpins s ZV H Q I ⟨S,B⟩=>aGo h pins s ZV H Q I ⟨S,by
 have B:=RE.bind' (show RE (tst P (call P n) Z c >>= λx=>if x=true then tsts P (call P n) Z .nil else R.ok false) _ from B);refine B.mono λk G=>?_;cases k with
 | true=>exact G|false=>exact G⟩
theorem Rvs.append{K:Fg}{ZV:L2.St}{H:Hp}:∀{vs ws:List Vl} {us B:List V},Rvs K RT Y old Z ZV H vs us->Rvs K RT Y old Z ZV H ws B->Rvs K RT Y old Z ZV H (vs++ws) (us++B)
 | [],_,_,_,h,q=>by rw[show _=[] from h];exact q|v::vs,_,_,_,h,q=>by obtain⟨u,r,e,G,I⟩:=h;subst e;exact⟨u,_,rfl,G,Rvs.append I q⟩
def lv(k:Nat)(caps al:List Nat)(v:Vl):Vl:=⟨v.d,false,v.pa,al++v.al.filterMap λj=>caps[j-k]?⟩
theorem xN{f:Vl->R (Option Vl)}(h:dD f (x::xs)=.ok rs):∃y B,f x=.ok y/\dD f xs=.ok B/\rs=(match y with|some y=>y::B|none=>B):=by
 have h:(f x >>= λy=>dD f xs >>= λB=>(match y with|some y=>R.ok (y::B)|none=>R.ok B))=R.ok rs:=h;cases G:f x with
 | ok y=>
  rw[G] at h;have h:(dD f xs >>= λB=>(match y with|some y=>R.ok (y::B)|none=>R.ok B))=R.ok rs:=h;cases I:dD f xs with
  | ok B=>
   rw[I] at h;refine⟨y,B,rfl,rfl,?_⟩;cases y with
   | none=>cases(show R.ok B=R.ok rs from h);rfl|some y=>cases(show R.ok (y::B)=R.ok rs from h);rfl
  | exc z=>rw[I] at h;cases h|bad=>rw[I] at h;cases h
 | exc z=>rw[G] at h;cases h|bad=>rw[G] at h;cases h
theorem R.bind_ok{α B:Type}{x:R α}{f:α->R B}{b:B}(h:(x >>= f)=.ok b):∃a,x=.ok a/\f a=.ok b:=by
 cases x with
 | ok a=>exact⟨a,rfl,h⟩|exc z=>cases h|bad=>cases h
theorem aEh{k:Nat}{caps:List Nat}{t:T}{it:Hp.It}{cond:Es}{elt:E}(z3:caps.Nodup)(hk:∀i∈tIx t,i<k){ZV:L2.St}{H:Hp}{Q:VK}(hw:WE X P n RT Y old Z (.comp k caps t it cond elt) ZV H Q) :
 aDU k caps (wI X P n RT Y old Z it) (gT X.K t) (λZV H Q=>∃RT Y old Z1,wTs X P n RT Y old Z1 cond ZV H Q) (λZV H Q=>∃RT Y old Z1,WE X P n RT Y old Z1 elt ZV H Q) ZV H λv H'=>Tk X.K H'->Q v H':=by
 obtain⟨S,h⟩:=hw
 let f:List Nat->Vl->R (Option Vl):=λal x=>aT (ch0 k caps (freeze Z al)) x t >>= λZ1=>tsts P (call P n) Z1 cond >>= λb=>if b=true then (ev P (call P n) Z1 elt >>= λy=>R.ok (some y)) else R.ok none
 have h:=RE.bind' (show RE (walk P (call P n) Z it >>= λxs=>dD (f xs.2) xs.1 >>= λvs=>R.iff (decide (vs.length<=lim)) (R.ok (kC k caps xs.2 vs))) (Wn X RT Y old Z ZV H Q) from h);refine⟨S,h.mono λxs hx J H1 t1 s1 ok=>?_⟩;obtain⟨vs,evs,hv⟩:=(RE.bind' hx).eq;obtain⟨hl,hq⟩:=hv.iff;have hl:=of_decide_eq_true hl;have hq:Wn X RT Y old Z ZV H Q (kC k caps xs.2 vs):=hq;have S1:=S.grow s1 t1;have Sf:=S1.frz xs.2;refine⟨λi m ys q6 Hc=>m=xs.1.length-i/\i<=xs.1.length/\aI H1 Hc/\Tk X.K Hc/\Sx X.K (rtF RT Z ZV xs.2) Y old (ch0 k caps (freeze Z xs.2)) q6 Hc/\(∀j,k<=j->q6[j]? = (gB k caps ZV)[j]?) /\
  ∃ws rs,vs=ws++rs/\dD (f xs.2) (xs.1.drop i)=.ok rs/\Rvs X.K RT Y old Z ZV Hc (ws.map (lv k caps xs.2)) ys,⟨_,rfl,AA _,aI.refl _,t1,Sf.child z3,λ_ _=>rfl,[],vs,rfl,evs,rfl⟩,?_⟩
 rintro i m ys q6 Hc ⟨hm,hi,sc,tc,Sc,w6,ws,rs,B,q0,q2⟩;have q9:=ok.ok (λ_=>False) (λ_ z=>z.elim) i Hc (Kp.same sc);have q8:=q2.length;rw[lM] at q8;have z7:ws.length<=vs.length:=by rw[B,lA];omega
 by_cases I:i<xs.1.length;refine .inr ⟨q9.1 I,by rw[<-q8,Bf];have:lim=1000000:=rfl;omega,λx H' hy=>?_⟩;have z4:xs.1[i]? = some xs.1[i]:=Af I;obtain⟨sm,z6,rv⟩:=q9.2.2 x H' hy xs.1[i] z4;have rv:Rep X.K H' (exV RT Y old Z ZV xs.1[i].pa xs.1[i].al) xs.1[i].d x:=Rep.weak rv λa z=>.inl z;rw[D6 I] at q0;obtain⟨yo,w3,U,q4,G⟩:=xN q0;obtain⟨Z1,q1,U⟩:=R.bind_ok U;obtain⟨b,eb,U⟩:=R.bind_ok U;have q5:xs.1[i]∈xs.1:=AO I;have w7:=ok.nofr _ q5;have rep:Rep X.K H' (λa=>rtF RT Z ZV xs.2 a\/exB Y old xs.1[i].pa a) xs.1[i].d x:=Rep.weak rv λa z=>by rcases z with z|z;exact .inl ⟨z.1,λq=>z.2 (q.mono (ok.sub _ q5))⟩;exact .inr z
 refine xK (Sc.grow sm (z6 tc)) w7 rep q1 λW S2 q7=>⟨_,_,_,Z1,S2,?_⟩
 rw[eb];intro H3 t3 s3;have L:∀j,k<=j->W[j]? = (gB k caps ZV)[j]? := λj M=>by rw[q7 j λz=>absurd (hk j z) (DN.mpr M),w6 j M]
 have q3:∀{H5:Hp},Sx X.K (rtF RT Z ZV xs.2) Y old Z1 W H5->Sx X.K (rtF RT Z ZV xs.2) Y old (ch0 k caps (freeze Z xs.2)) W H5:=λ{H5} S5=>S5.forget (xJ q1).symm λj s hs=>by by_cases M:j∈tIx t;exact .inl (xM (hk j M) hs);exact .inr (by rw[aEf q1 M];exact hs)
 cases b with
 | false=>rw[if_neg bN] at U ⊢;cases(show R.ok none=R.ok yo from U);have G:rs=w3:=G;subst G;exact⟨_,by omega,rfl,I,sc.trans (sm.trans s3),t3,q3 (S2.grow s3 t3),L,ws,rs,B,q4,q2.grow (sm.trans s3)⟩|true=>
  rw[if_pos rfl] at U ⊢;obtain⟨y,ey,U⟩:=R.bind_ok U;cases(show R.ok (some y)=R.ok yo from U);have G:rs=y::w3:=G;subst G;refine⟨_,_,_,Z1,S2.grow s3 t3,?_⟩;rw[ey];intro u H4 t4 w8;have s4:=w8.1;have z5:Rep X.K H4 (exV (rtF RT Z ZV xs.2) Y old Z1 W y.pa y.al) y.d u:=w8.rv (S2.grow s3 t3);refine⟨_,by omega,rfl,I,sc.trans (sm.trans (s3.trans s4)),t4,q3 ((S2.grow s3 t3).grow s4 t4),L,ws++[y],w3,by rw[B];simp,q4,?_⟩;rw[Bd];refine(q2.grow (sm.trans (s3.trans s4))).append ⟨u,[],rfl,?_,rfl⟩;show Rep X.K H4 (exV RT Y old Z ZV y.pa (xs.2++y.al.filterMap λj=>caps[j-k]?)) y.d u;refine z5.weak λc z=>?_;rcases z with⟨z1,z2⟩|z;refine .inl ⟨⟨z1,λq=>z2 (q.mono λj M=>AE _ M)⟩,λq=>z2 ?_⟩;obtain⟨j,M,⟨pa,ds,ho⟩,hV⟩:=q;have ho:=aEg w7 q1 ho;rcases ch0_get ho with z|⟨j',i',rfl,hc,hs⟩
  cases z;rw[L _ (Dz _ _)] at hV;refine⟨i',A5 _ (B3.mpr ⟨k+j',M,by rw[AW];exact hc⟩),⟨pa,ds,(eR hs).1⟩,oD hc hV⟩;exact .inr z
 have w9:i=xs.1.length:=by omega
 subst w9;rw[D4] at q0;cases(show R.ok []=R.ok rs from q0);rw[AH] at B;subst B;refine .inl ⟨q9.2.1 (Ak _),by rw[<-q8];exact dZ hl,λp hp t'=>hq _ _ t' ?_⟩;have w4:=S.grow (s1.trans sc) tc;have w5:(vs.map (lv k caps xs.2)).map (·.d)=vs.map (·.d):=by rw[AJ];rfl
 have rr:Reps X.K Hc (exV RT Y old Z ZV (aU vs) (xs.2++(bR vs).filterMap λj=>caps[j-k]?)) (vs.map (·.d)) ys:=by rw[<-w5];refine q2.reps λv hv=>?_;obtain⟨w,hw,e⟩:=A0.mp hv;subst e;refine⟨λz=>fN hw z,λj M=>?_⟩;rcases AY.mp M with z|z;exact AE _ z;obtain⟨j',z0,e⟩:=B3.mp z;exact A5 _ (B3.mpr ⟨j',nK hw j' z0,e⟩)
 unfold kC;split;rename_i hn;exact(Ro.fresh hp t' rfl rfl w4 (Reps.free _ _ hn rr)).from (s1.trans sc)
 exact(Ro.fresh hp t' rfl rfl w4 rr).from (s1.trans sc)
theorem aJn(M:Mc X P Γ n){k:Nat}{caps:List Nat}{t:T}{it:Hp.It}{cond:Es}{elt:E}{e B:A2}{L:List A2}{scope:Dp}{N':List Str}(CS:cG X scope k caps N')(W:caps.Nodup)(hk:∀i∈tIx t,i<k)
 (hi:PI X tg B (wI X P n RT Y old Z it))
 (U:∀C s₀ H₀ ex,PG (cU X scope N' C s₀ H₀ ex) tg (gT X.K t)/\(∀RT Y old Z1,PTs (cU X scope N' C s₀ H₀ ex) L (wTs X P n RT Y old Z1 cond))/\∀RT Y old Z1,PE (cU X scope N' C s₀ H₀ ex) e (WE X P n RT Y old Z1 elt))
 (hs:∀x,Cb B X.env x=pure x):PE X (.ListComp e [⟨tg,B,L,0⟩] scope pos) (WE X P n RT Y old Z (.comp k caps t it cond elt)):=by refine(uE (g:=gT X.K t) (tt:=λZV H Q=>∃RT Y old Z1,wTs X P n RT Y old Z1 cond ZV H Q) (te:=λZV H Q=>∃RT Y old Z1,WE X P n RT Y old Z1 elt ZV H Q) CS M.calm hi (λC s₀ H₀ ex=>?_) hs).imp λZV H Q t0 G=>aEh W hk G;obtain⟨h1,h2,h3⟩:=U C s₀ H₀ ex;exact⟨h1,λpins s ZV H Q I ⟨RT,Y,old,Z1,G⟩=>h2 RT Y old Z1 pins s ZV H Q I G,λpins s ZV H Q I ⟨RT,Y,old,Z1,G⟩=>h3 RT Y old Z1 pins s ZV H Q I G⟩
theorem aMs(M:Mc X P Γ n){i:Nat}{k:E}{x:Str}{p:EJ}{ix:A2}(hx:bG Γ i x=true)(hk:PE X ix (WE X P n RT Y old Z k))(hp:aK ix=true):PE X (.Subscript (.Name x p) ix pos) (WE X P n RT Y old Z (.lix i k)):=by
 have W:PE X (.Name x p) (aCV i):=by unfold bG at hx;simp only[bA] at hx;obtain⟨⟨B,G⟩,I⟩:=hx;exact oN (by rw[M.N];exact eq_of_beq B) (M.vis G) (aM I) (fO I)
 refine(aDp zE W hk (jR hp)).imp λZV H Q t ⟨S,h⟩=>?_;obtain⟨y,ey,h⟩:=(RE.bind' (show RE (ev P (call P n) Z k >>= λy=>(match Z[i]? with|some (.lent ds)=>bH ⟨.lst ds,false,true,[]⟩ y|_=>.bad)) _ from h)).eq;cases e:Z[i]? with
 | none=>rw[e] at h;exact h.elim|some sl=>
  rw[e] at h;cases sl with
  | lent ds=>
   have h:RE (bH ⟨.lst ds,false,true,[]⟩ y) _:=h;obtain⟨a,xs,B,G,I,h4,h5⟩:=S.lx.at' i ds e;refine⟨.ref a,B,S,?_⟩;rw[ey];intro uy H1 t1 r1;unfold bH at h;cases hd:y.d with
   | int j=>
    rw[hd] at h;have h:RE (match Hp.ixN ds.length j with|some j=>(match ds[j]? with|some d=>R.ok (Vl.sub ⟨.lst ds,false,true,[]⟩ d)|none=>.bad)|none=>.bad) _:=h;cases L:Hp.ixN ds.length j with
    | none=>rw[L] at h;exact h.elim|some m=>
     rw[L] at h;cases U:ds[m]? with
     | none=>simp only[U] at h;exact h.elim|some d=>simp only[U] at h;obtain⟨v,hv,rv⟩:=(h5.grow r1.1).get U;have rv:Rep X.K H1 (exV RT Y old Z ZV true []) d v:=rv.weak λb z=>z.imp (·.1) id;refine .inl ⟨a,xs,j,v,rfl,(r1.rv S).int hd,SqL.of (r1.1 _ _ G),?_,λt'=>h v H1 t' ((Rv.ofSub (x:=⟨.lst ds,false,true,[]⟩) rv).from r1.1)⟩;unfold atI;rw[<-h5.length,<-mB,L];exact hv
   | _=>rw[hd] at h;exact h.elim
  | _=>exact h.elim
end
end Hp
namespace L2
open PySem PySem.Spec PyProof.Rows PySem.W
open Hp (tupHs lexI putKs)
set_option maxRecDepth 100000
set_option maxHeartbeats 4000000
theorem sK:Jc KU "dict.update.loop" = some BX.«dict.update.loop»:=HX (by kernel_rfl)
theorem iT:plainId "dict.update.loop" = true:=by decide +kernel
theorem uK:typeLookup (.type "list") "keys" = pure none:=by rw[FS,Ed];kernel_rfl
section
variable {prog:A3} {w:AG} {A:Bh} {E:Value->Ad->Prop} {s:Ad}
theorem aGs{Q:Option Value->Ad->Prop}(L:s.heap.get? a=some { cls:=.type "list",dict:=none,data:=.seq xs k,slots:=sl })(U:A.handled=none)
 (h:∀h' tk,(∀b M,s.heap.get? b=some M->h'.get? b=some M)->Q none { s with heap:=h',toks:=tk }):wpAny (A1 prog w) A (getAttr? (.ref a) "keys") Q E s:=by
 obtain⟨W,g,d,tk,os⟩:=s;have I:∀G,(⟨W,g,d,G,os⟩:Ad).TypeIs (.ref a) "list" := λ_=>⟨_,L,rfl⟩
 have f1:=sub_AttributeError;have f3:=DH.lookup;have f4:=DH.bind (.ref a);have f5:=am_list_getattr_none;unfold getAttr? getAttrBy? getAttrBy
 repeat (any_goals (first|assumption|exact I _|((with_reducible show wpAny _ _ (call (Value.builtin "list.__getattribute__") _ _) _ _ _);refine Ei DH (I _) am_entry_list_getattribute (F.args_list_getattribute_2 _ _) (meets_getattribute_miss_list a xs k sl "keys" _ uK (by decide +kernel) (by decide +kernel)) ⟨L,U,λh' G e B=>?_⟩)|wp_step))
 obtain⟨t',u',he⟩:=B.there;show wpAny _ _ (Hk _ _ _ _ _ _ _) _ _ _;unfold Hk
 repeat (any_goals (first|assumption|wp_step))
 exact h _ _ B.keeps
end
theorem pP{α G:Type}{R:α->G->Prop}:∀{xs:List α} {B:List G},DT R xs B->∀{i:Nat} {x:α},xs[i]? = some x->∃y,B[i]? = some y/\R x y
 | _,_,.nil,_,_,h=>by simp at h|_,_,.cons r _,0,_,h=>by simp at h;subst h;exact⟨_,rfl,r⟩|_,_,.cons _ t,i+1,x,h=>by obtain⟨y,I,L⟩:=pP t (i:=i) (x:=x) (by simpa using h);exact⟨y,by simpa using I,L⟩
theorem pQ{α G:Type}{R:α->G->Prop}:∀{xs:List α} {B:List G},DT R xs B->xs.length=B.length
 | _,_,.nil=>rfl|_,_,.cons _ t=>by rw[lC,lC,pQ t]
def aEi(prog:A3)(w:AG)(h:Heap)(v:Value)(x:KA):Prop:=∃c o n,v=.ref c/\h.get? c=some o/\o.cls=.type "tuple" /\ o.data=.seq #[.ref x.2,.bool true] n/\IsK prog w h x
section
variable {prog:A3} {w:AG} {A:Bh} {R:GX->Ad->Prop} {h₀:Heap} {d it l:Addr} {items:Array Value} {us:List KA}
theorem aEj(hu:A.units+20<C5)(hh:A.handled=none)(hS:(d==CB)=false)(hd:h₀.get? d=none)(q4:h₀.get? it=none)(U:d≠it)(L:h₀.IsList l items)(Pr:DT (aEi prog w h₀) items.toList us)(hz:items.size<=sizeLine) :
 ∀(m i:Nat) (s:Ad) (xs:List KA),items.size-i=m->i<=items.size->(∀b o,h₀.get? b=some o->s.heap.get? b=some o)->s.heap.IsListIter it l i->fM d xs s.heap->xs=(us.take i).foldl putS []->(∀x∈xs,IsK prog w h₀ x)->xs.length<=i ->
  (∀(h':Heap) (tk:Nat),(∀b o,h₀.get? b=some o->h'.get? b=some o)->fM d (us.foldl putS []) h'->R (.ok (.ret .none)) { s with heap:=h',toks:=tk }) ->
  Eo (A1 prog w) A (.builtin "dict.update.loop" ⟨[.ref d,.ref it,.int i 0,.none],[]⟩) R s:=by
 intro m
 induction m with
 | zero=>
  intro i s xs hk hi kp hI hD hx hg hl hR;have e:i=items.size:=by omega
  refine BF sK ?_;rw[Bv iT _];show wpAny _ A.in1 (D8 (.ref it) >>= _) _ _ s;have hL:s.heap.IsList l items:=let ⟨o,B,W⟩:=L;⟨o,kp _ _ B,W⟩;refine Aa (FW (by simpa using hh) hI hL (by rw[e];simp) λh' hE=>?_);show wpAny _ A.in1 (Fv d [] >>= _) _ _ _;refine Aa (Ac ?_);show wpAny _ A.in1 (ret Bj) _ _ _;rw[DY (by rw[<-pQ Pr,e];simp)] at hx;subst hx;refine Ac (hR h' s.toks (λb o q=>?_) ?_);exact hE b o (λz=>by rw[z,q4] at q;cases q) (kp b o q);exact kJ s.heap h' hD λo q=>hE d o U q
 | succ m ih=>
  intro i s xs hk hi kp hI hD hx hg hl hR;have M:i<items.size:=by omega
  refine BF sK ?_;rw[Bv iT _];show wpAny _ A.in1 (D8 (.ref it) >>= _) _ _ s;have hL:s.heap.IsList l items:=let ⟨o,B,W⟩:=L;⟨o,kp _ _ B,W⟩;refine Aa (FA hI hL (AD M) λB q9 q5=>?_);obtain⟨x,w7,c,o,n,hv,q3,w5,w6,I⟩:=pP Pr (i:=i) (x:=items[i]) (by rw[AL];exact AD M);rw[hv];have G:∀b o,h₀.get? b=some o->B.get? b=some o:=λb o q=>by rw[q5.2 b λz=>by rw[z,q4] at q;cases q];exact kp b o q
  show wpAny _ A.in1 (Ff [AB c] _ >>= _) _ _ _;refine Aa (AR ?_);refine Aa (wpAny_tryCatch ?_);have w4:({ s with heap:=B }:Ad).TypeIs (.ref c) "tuple" := ⟨o,G _ _ q3,w5⟩
  unfold JX;refine Aa (BY w4 ?_);rw[if_pos (by decide)];refine Aa (BB (s:={ s with heap:=B }) (G _ _ q3) w6 (Ac ?_));show wpAny _ A.in1 (Ff [AB x.2,CZ true] (dictSet d (.ref x.2) (.bool true))) _ _ _;refine AR ?_;have q7:fM d xs B:=kJ s.heap B hD λo q=>by rw[q5.2 d U];exact q
  have q0:IsK prog w B x:=I.keep λo e=>G _ o e;unfold dictSet;refine AR (Aa (Hg (s:={ s with heap:=B }) (ks:=x.1) (by show A.units+1<C5;omega) q0 ?_));refine wU (k:=x.1) (a:=x.2) (s:={ s with heap:=B,toks:=_ }) (by show A.units+1<C5;omega) q0 q7 (λy hy=>(hg y hy).keep λo e=>G _ o e) (by omega) λW q8 q6=>?_;have w8:∀b o,h₀.get? b=some o->W.get? b=some o:=λb o q=>by rw[q6.2 b λz=>by rw[z,hd] at q;cases q];exact G b o q
  have w3:W.IsListIter it l (i+1):=let ⟨o,q1,q2⟩:=q9;⟨o,(q6.2 it λz=>U z.symm).trans q1,q2⟩;have lp:=kK (xs:=xs) (x:=x);refine Ac ⟨CH iT _,ih (i+1) _ (putS xs x) (by omega) M w8 w3 q8 ?_ (λy hy=>?_) (by omega) λh' tk q1 q2=>hR h' tk q1 q2⟩;rw[hx,Go,w7];show _=(List.take i us++[x]).foldl putS [];rw[CA];rfl;rcases putS_mem hy with z|z;exact hg y z;rw[z];exact I
end
section
variable {prog:A3} {w:AG} {A:Bh} {E:Value->Ad->Prop} {s:Ad} {d o:Addr} {xs ys:List KA}
theorem mJ:∀(ys xs:List KA),(ys.foldl putS xs).length<=xs.length+ys.length
 | [],xs=>Ak _|y::ys,xs=>by have B:=mJ ys (putS xs y);have G:=kK (xs:=xs) (x:=y);rw[Bm,lC];omega
theorem sL:∀(ys xs:List KA),((xs++ys).map (·.1)).Nodup->ys.foldl putS xs=xs++ys
 | [],xs,_=>(AH _).symm|y::ys,xs,h=>by
  have B:y.1∉xs.map (·.1):=λz=>by rw[Bd,Fl] at h;exact h.2.2 _ z _ Ai rfl
  rw[Bm,show putS xs y=xs++[y] by unfold putS;rw[if_neg B],sL ys _ (by rw[Cd];exact h),Cd];rfl
theorem aJo{x:KA}(B:IsK prog w s.heap x){Q:Bool->Ad->Prop}(h:Q false s):wpAny (A1 prog w) A (Gz (.ref x.2)) Q E s:=by unfold Gz;refine Aa (DJ B.typeIs PySem.F.slot_tuple_eq.lookup (Ac ?_));exact h
theorem aJp{es:Array Cs}{U:Obj}(ho:s.heap.get? o=some U)(hd:U.data=.dict es ep)(M:es.toList=ys.map jQ)(hK:∀x∈ys,IsK prog w s.heap x)(hN:(ys.map λx=>tupHs x.1).Nodup){Q:Array Cs->Ad->Prop}(h:Q es s) :
 wpAny (A1 prog w) A (E6 nm o) Q E s:=by
 unfold E6;refine Aa (Cg ho hd ?_);rw[<-ET];refine Aa (D1 _ (λrest _ L=>L=s/\∃G:List KA,rest=G.map jQ/\∀z∈G,z∈ys) _ ?_ ?_ _ _ ⟨rfl,ys,M,λ_ z=>z⟩);rintro v rest r L ⟨rfl,G,hz,B⟩;cases G with
 | nil=>cases hz|cons z G=>
  cases hz;refine Aa (aJo (hK z (B z Ai)) ?_);rw[if_pos (by decide)];have q0:(es.filter λe=>e.hash==(jQ z).hash).size<=1:=by
   rw[<-A6,GA,M,Iz,lM];have I:((ys.filter ((λe:Cs=>e.hash==(jQ z).hash)∘jQ)).map λx=>tupHs x.1).Nodup:=hN.sublist (List.filter_sublist.map _)
   match hq:ys.filter ((λe:Cs=>e.hash==(jQ z).hash)∘jQ) with
   | []=>exact AA _|[_]=>exact Ak _|a::b::r=>
    exfalso;have ha:a∈ys.filter ((λe:Cs=>e.hash==(jQ z).hash)∘jQ):=by rw[hq];exact Ai
    have hb:b∈ys.filter ((λe:Cs=>e.hash==(jQ z).hash)∘jQ):=by rw[hq];exact Ag _ Ai
    have W:tupHs a.1=tupHs z.1:=of_decide_eq_true (by simpa[jQ] using (Df.mp ha).2);have eb:tupHs b.1=tupHs z.1:=of_decide_eq_true (by simpa[jQ] using (Df.mp hb).2);rw[hq,mC,mC,AZ] at I;exact I.1 (by rw[W,eb];exact Ai)
  rw[if_neg (by omega)];exact Ac ⟨rfl,G,rfl,λy hy=>B y (Ag _ hy)⟩
 rintro b L ⟨rfl,_⟩;exact Ac h
theorem aGt(hu:A.units<C5)(q5:d≠o)(hd:fM d xs s.heap)(ho:fM o ys s.heap)(hX:∀x∈xs,IsK prog w s.heap x)(hY:∀x∈ys,IsK prog w s.heap x)(hN:(ys.map λx=>tupHs x.1).Nodup)(hl:xs.length+ys.length<sizeLine){Q:Unit->Ad->Prop}
 (hQ:∀h',fM d (ys.foldl putS xs) h'->B5 d s.heap h'->Q () { s with heap:=h' }):wpAny (A1 prog w) A (FP nm d o) Q E s:=by
 obtain⟨d1,d2,od,w6,w5,L,q4,q0,q6,z6⟩:=id hd;obtain⟨o1,o2,oo,B,z4,M,z5,G,I,w3⟩:=id ho;have q9:B.size=ys.length:=by rw[<-A6,I,lM]
 unfold FP;rw[if_neg (by simpa using q5)];unfold Ef;rw[if_neg (by rw[o1];exact bN)];refine Aa (Ac (Aa (Cg M G ?_)));dsimp only;split
 case' isTrue=>
  refine Aa (Cg L q0 ?_);split
  case' isTrue=>
   rename_i q7;have z2:xs=[]:=by
    have h0:w6=#[]:=HK.mp q7;rw[h0] at q6;cases xs with
    | nil=>rfl|cons _ _=>cases q6
   subst z2;have hf:=sL ys [] w3;rw[hf] at hQ;refine Aa (aJp M G I hY hN ?_);split;exact Aa (wpAny_updateDictKeysTo L q0 (Ac (hQ _ ⟨d1,by rw[Dg];omega,_,_,w5+1,B9 _ L (E9 (Dt q0 _)),q4.mapDictKeys _,Dt q0 _,I,w3⟩ (AQ ..))) (by omega));rename_i z1;have h0:B=#[]:=HK.mp (by simpa using z1);have z3:ys=[]:=by
    rw[h0] at I;cases ys with
    | nil=>rfl|cons _ _=>cases I
   subst z3;exact Ac (hQ _ hd (Fi _ _))
 all_goals
  refine Aa (E3 M G ?_);refine Aa (Cg M G ?_);refine Aa ?_;rw[G0];simp only[Kd,EE,Nat.add_sub_cancel,Kl];refine D1 _
   (λrest _ s'=>∃h' i,s'={ s with heap:=h' }/\rest=Iv i (B.size-i)/\i<=B.size/\fM d ((ys.take i).foldl putS xs) h'/\h'.get? o=some oo/\B5 d s.heap h')
   _ ?_ ?_ _ _ ⟨s.heap,0,rfl,by simp,AA _,hd,M,Fi _ _⟩
  rintro x rest b s' ⟨h',i,rfl,hr,hi,W,U,q1⟩;have z0:i<B.size:=by rcases AS i B.size with h|h;exact h;rw[Nat.sub_eq_zero_of_le h] at hr;simp at hr
  obtain⟨rfl,q3⟩:x=i/\rest=Iv (i+1) (B.size-(i+1)):=by
   rw[show B.size-i=(B.size-(i+1))+1 by omega,F6] at hr;injection hr with h1 h2
   exact⟨h1,h2⟩
  refine Aa (Cg U G ?_);have hy:x<ys.length:=by omega
  have q8:B[x]? = some (jQ ys[x]):=by rw[<-AL,I,Ar,Af hy];rfl
  rw[q8];have kd:∀z,(z∈xs\/z∈ys)->IsK prog w h' z:=λz hz=>by have q:IsK prog w s.heap z:=hz.elim (hX z) (hY z);refine q.keep λob e=>?_;rw[q1.2 z.2 λw=>?_];exact e;rw[w,L] at e;cases e;obtain⟨o',_,_,g1,g2,_⟩:=q;rw[w,L] at g1;cases g1;rw[q4.1] at g2;exact absurd g2 (by decide)
  have mem:∀(zs ws:List KA) z,z∈zs.foldl putS ws->z∈ws\/z∈zs:=λzs=>by
   induction zs with
   | nil=>exact λws z hz=>.inl hz|cons y zs ih=>intro ws z hz;rcases ih _ z hz with q|q;rcases putS_mem q with q|q;exact .inl q;exact .inr (by rw[q];exact Ai);exact .inr (Ag _ q)
  have w8:=mJ (ys.take x) xs;rw[Bl] at w8;show wpAny _ _ (Ff [AB ys[x].2,CZ true] (GQ d (.ref ys[x].2) (tupHs ys[x].1) (.bool true)) >>= _) _ _ _;refine Aa (AR (wU (k:=ys[x].1) (a:=ys[x].2) (s:={ s with heap:=h' }) hu (kd _ (.inr (AO hy))) W (λz hz=>kd z ((mem _ _ z hz).imp id Bw)) (by omega) λh2 w7 w4=>?_));have q2:h2.get? o=some oo:=(w4.2 o (DI q5)).trans U;refine Aa (E3 q2 G ?_);rw[if_neg (by simp)];refine Ac ⟨h2,x+1,rfl,q3,z0,?_,q2,q1.trans w4⟩;rw[Go,Af hy,CA];exact w7;rintro b s' ⟨h',i,rfl,hr,hi,W,U,q1⟩;have w9:i=B.size:=by rcases AS i B.size with h|h;rw[show B.size-i=(B.size-(i+1))+1 by omega,F6] at hr;exact nomatch hr;exact FR hi h
  refine Ac (hQ h' ?_ q1);rw[w9,q9,AF] at W;exact W
end
set_option maxRecDepth 100000
set_option maxHeartbeats 4000000
section
variable {X:Cx} {pins:List (Addr×Obj)} {Z:St} {H:Hp} {s:Ad}
theorem aCt{is:List Int}:∀{us:List Value},aS (is.map V.int) us->Gx (Da X.prog X.w) is us:=by
 induction is with
 | nil=>intro us h;rw[mN] at h;cases h;exact .nil|cons i is B=>
  intro us h;rw[mC] at h;cases h with
  | cons r t=>obtain⟨tk,e⟩:∃t,_=EH i t:=r;subst e;exact .cons (intKind_is _ _ i tk) (B t)
theorem eZ(I:Inv X pins Z H s){x:KA}(h:SqT X.K H x.2 (x.1.map V.int)):IsK X.prog X.w s.heap x:=by obtain⟨its,rv,⟨o,G,B,n,hd⟩,_⟩:=I.tuple h;exact⟨o,its.toArray,n,G,B,hd,by simpa using aCt rv⟩
theorem iE(I:Inv X pins Z H s)(e:H a=some (cT a xs)):fM a xs s.heap:=(show dL X.prog X.w H s.heap a (cT a xs) from I.hok a _ e).1
theorem fM.ty(h:fM a xs s.heap):s.TypeIs (.ref a) "dict" := let ⟨_,_,o,_,_,h1,h2,_⟩:=h;⟨o,h1,h2.1⟩
theorem aMt(I:Inv X pins Z H s):CB<s.heap.objs.size:=by have h:Bu<s.heap.objs.size:=(I.ok.mod.glob.keeps I.bk).lt;exact EB (by decide) h
def aMu:TE:=λ_ H Q=>∀p,H p=none->Q (.ref p) (upd H p (cT p []))
theorem aGu:PE X (.Dict [] [] pos) aMu:=λpins s Z H Q I h=>
 wpAny_Dict_empty ⟨.ref s.heap.objs.size,_,I.laid (a:=s.heap.objs.size) (o:=cT s.heap.objs.size []) (t':=s.toks) (λ_ _ q=>Ab _ q) (Ak _)
  ⟨⟨beq_eq_false_iff_ne.mpr (DI (Aw (aMt I))),AA _,_,#[],0,Al _ rfl,⟨rfl,rfl,rfl⟩,rfl,rfl,Gr⟩,⟨_,Al _ rfl⟩,kJ⟩,rfl,h _ (I.hok.fresh (Ak _))⟩
theorem Inv.dictS(I:Inv X pins Z H s){a:Addr}{xs B:List KA}{h':Heap}{tk:Nat}(e:H a=some (cT a xs))(hs:B5 a s.heap h')(G:fM a B h')(M:s.toks<=tk):Inv X pins Z (upd H a (cT a B)) { s with heap:=h',toks:=tk }:=by have⟨_,_,o,_,_,j1,_⟩:=G;exact I.write (x:=a) (e:=a) (o:=cT a B) (by rw[e];exact FN) (.inl rfl) (λc q L z=>(hs.2 c L).trans z) ⟨o,j1⟩ ⟨G,⟨o,j1⟩,kJ⟩
def aMv(K:Aq):V->V->V->Hp->(Hp->Prop)->Prop:=λo i v H Q=>∃(a b:Addr) (xs:List KA) (k:List Int),o=.ref a/\i=.ref b/\v=.bl true/\H a=some (cT a xs)/\(∀x∈xs,SqT K H x.2 (x.1.map V.int))/\SqT K H b (k.map V.int)/\xs.length<sizeLine/\Q (upd H a (cT a (putS xs (k,b))))
theorem aJq(hu:X.A.units+100<C5):aIq X (aMv X.K):=by intro pins s Z H o i v ov iv u Q I ro ri rv h;obtain⟨a,b,xs,k,rfl,rfl,rfl,e,L,W,M,h⟩:=h;cases ro;cases ri;cases rv;have B:=iE I e;refine wpAny_setItem_heap (knd:=Dw (Da X.prog X.w)) (hsz:=by rw[lM];omega) (show X.A.in1.units<C5 by show X.A.units+1<C5;omega) (eZ I (x:=(k,b)) W) (ofH B λx U=>eZ I (L x U)) (λh' G hs=>?_);rw[wR] at G;exact⟨_,I.dictS e hs (aHO B.1 (AI kK M) G) (by show s.toks<=s.toks+_;omega),h⟩
def aEk(K:Aq)(H:Hp)(v:V)(x:KA):Prop:=∃c,v=.ref c/\SqT K H c [.ref x.2,.bl true]/\SqT K H x.2 (x.1.map V.int)
theorem xO(I:Inv X pins Z H s):∀{xs:List V} {us:List KA} {vs:List Value},DT (aEk X.K H) xs us->aS xs vs->DT (aEi X.prog X.w s.heap) vs us
 | _,_,_,.nil,r=>by cases r;exact .nil|_,_,_,.cons h t,r=>by
  cases r with
  | cons r1 U=>
   obtain⟨c,rfl,q,M⟩:=h;cases r1;obtain⟨its,rv,⟨o,L,G,n,hd⟩,_⟩:=I.tuple q;cases rv with
   | cons W B=>
    cases B with
    | cons B v3=>cases v3;cases W;cases B;exact .cons ⟨c,o,n,rfl,L,G,hd,eZ I M⟩ (xO I t U)
theorem aAa(hu:X.A.units+100<C5)(hh:X.A.handled=none):eP X (.type "dict") (λvs H Q=>∃l xs us,vs=[.ref l]/\H l=some (.lst xs)/\DT (aEk X.K H) xs us /\
 ∀p,H p=none->Q (.ref p) (upd H p (cT p (us.foldl putS [])))):=by
 intro pins s Z H vs us Q I r h;obtain⟨l,xs,ks,rfl,hl,hp,q⟩:=h;obtain⟨u,rfl,ru⟩:=nD r;cases ru;obtain⟨z,its,n,rv,q3,e⟩:=I.lstM hl;have Pr:=xO I hp rv;have L:=aMt I;refine callType_codes (Q₁:=λobj B=>obj=.ref s.heap.objs.size/\B={ s with heap:=s.heap.push { cls:=.type "dict",data:=.dict #[] } }) F.kt_called_dict (F.kt_typeCall_dict_1 _) F.entry_dict_init (kt_code_dict_new _ ⟨rfl,rfl⟩) ?_;rintro obj B ⟨rfl,rfl⟩;have M:(s.heap.push { cls:=.type "dict",data:=.dict #[] }).get? s.heap.objs.size=some { cls:=.type "dict",data:=.dict #[] }:=Al _ rfl;have U:({ s with heap:=s.heap.push { cls:=.type "dict",data:=.dict #[] } }:Ad).TypeIs (.ref s.heap.objs.size) "dict" := ⟨_,M,rfl⟩
 refine⟨U,F.args_dict_init_2 _ _,?_⟩;unfold BX.«dict.__init__»;refine Aa ?_;unfold Fw;refine Aa (Ee U ?_);show wpAny _ _ (pure (s.heap.objs.size,[AB l])) _ _ _;refine Ac ?_;show wpAny _ _ (CV "dict.__init__" s.heap.objs.size (.ref l) [] .none) _ _ _;unfold CV;have e1:(s.heap.push { cls:=.type "dict",data:=.dict #[] }).get? l=some { cls:=.type "list",data:=.seq its.toArray n }:=Ab _ e;have q7:({ s with heap:=s.heap.push { cls:=.type "dict",data:=.dict #[] } }:Ad).TypeIs (.ref l) "list" := ⟨_,e1,rfl⟩
 refine Aa (BY q7 ?_);rw[if_pos (by decide)];refine Aa (aGs (s:={ s with heap:=s.heap.push { cls:=.type "dict",data:=.dict #[] } }) e1 (by simpa using hh) λG q8 k1=>?_);rw[if_pos (by rfl)];refine Aa (Ds ?_);have q5:∀b o,s.heap.get? b=some o->G.get? b=some o:=λb o q=>k1 b o (Ab _ q);have q6:G.IsList l its.toArray:=⟨_,k1 _ _ e1,rfl,n,rfl⟩
 refine Aa (Dl (s:={ s with heap:=G,toks:=q8 }) q6 ?_);have W:G.get? s.heap.objs.size=some { cls:=.type "dict",data:=.dict #[] }:=k1 _ _ M;have q4:s.heap.objs.size<G.objs.size:=Am W;refine Ac ⟨CH iT _,aEj (h₀:=s.heap) (us:=ks) (show X.A.in1.units+20<C5 by show X.A.units+1+20<C5;omega) (by simpa using hh) (beq_eq_false_iff_ne.mpr (BE L)) (Gf (Ak _)) ?_ (Aw q4) ⟨_,e,rfl,n,rfl⟩ (by simpa using Pr) (by rw[Aj,<-q3];exact z) (its.toArray.size-0) 0 _ [] rfl (AA _) (λb o q=>Ab _ (q5 b o q)) ⟨_,Al _ rfl,rfl,rfl⟩ ?_ rfl (λx hx=>by cases hx) (AA _) λh' tk q1 q2=>?_⟩;cases q0:s.heap.get? G.objs.size with
 | none=>rfl|some o=>exact absurd (Am (q5 _ _ q0)) (AC _)
 exact⟨beq_eq_false_iff_ne.mpr (BE L),AA _,_,#[],0,Ab _ W,⟨rfl,rfl,rfl⟩,rfl,rfl,Gr⟩;exact⟨rfl,.ref s.heap.objs.size,_,I.laid (a:=s.heap.objs.size) (o:=cT s.heap.objs.size (ks.foldl putS [])) (t':=tk) q1 (Ak _) ⟨q2,let ⟨_,_,o,_,_,g,_⟩:=q2;⟨o,g⟩,kJ⟩,rfl,q _ (I.hok.fresh (Ak _))⟩
def aHT(K:Aq)(a:Addr)(xs:List KA)(vs:List V)(H:Hp)(Q:VK):Prop:=∃(c:Addr) (ys:List KA),vs=[.ref c]/\a≠c/\H a=some (cT a xs)/\H c=some (cT c ys)/\(∀x∈xs,SqT K H x.2 (x.1.map V.int))/\(∀x∈ys,SqT K H x.2 (x.1.map V.int))/\(ys.map λx=>tupHs x.1).Nodup/\xs.length+ys.length<sizeLine/\Q .non (upd H a (cT a (ys.foldl putS xs)))
theorem aCu(hu:X.A.units+100<C5)(I:Inv X pins Z H s)(r:aS vs us)(h:aHT X.K a xs vs H Q) :
 wpAny (A1 X.prog X.w) X.A (call (.builtin "dict.update") (.ref a::us)) (EP X pins Z Q) X.xe s:=by
 obtain⟨c,ys,rfl,ne,e,M,k1,k2,W,hl,q⟩:=h;cases r with
 | cons r1 r2=>cases r2;cases r1;have G:=iE I e;have B:=iE I M;refine AV Fx G.ty PySem.F.entry_dict_update ?_ (PySem.F.args_dict_update_2 _ _);unfold BX.«dict.update»;refine Aa ?_;unfold Fw;refine Aa (Ee G.ty ?_);show wpAny _ _ (pure (a,[AB c])) _ _ s;refine Ac ?_;show wpAny _ _ (CV "dict.update" a (.ref c) [] .none) _ _ s;unfold CV;refine Aa (BY B.ty ?_);rw[if_neg (by decide)];refine Aa ?_;unfold K9;refine Aa ?_;unfold Jt;refine Aa (CU B.ty isSubtype_dict_dict ?_);simp only[CI,bF,if_false];refine Aa (DJ B.ty Eb.lookup (Ac ?_));simp only[beq_self_eq_true,if_true];refine Aa (Ac ?_);refine aGt (show X.A.in1.units<C5 by show X.A.units+1<C5;omega) ne G B (λx L=>eZ I (k1 x L)) (λx L=>eZ I (k2 x L)) W hl λh' U hs=>?_;show wpAny _ _ (Fv a [] >>= _) _ _ _;exact Aa (Ac (Ac ⟨.none,rfl,.non,_,I.dictS (tk:=s.toks) e hs U (Ak _),rfl,q⟩))
variable {o e:A2} {es:List A2} {to:TE} {t:TA} {apos cpos:EJ}
theorem aGv(hu:X.A.units+100<C5)(ho:PE X o to)(ha:PA X (e::es) t)
 (G:GL o "update" X.env (Dn o X.env)=Dn o X.env)
 (M:((D7 cpos (AT (e::es) X.env)).all (λx=>!x.1)&&(backToKw cpos (Kj [] X.env)).all (λx=>x.1.isSome)
  && decide ((e::es).length+([]:List IJ).length+(if ([]:List IJ).isEmpty then 0 else 1)<30))=true)
 (L:(apos.endLine==cpos.line)=true) (hs:AT (e::es) X.env=(false,Dn e X.env)::AT es X.env) (B:(D7 cpos (AT es X.env)).any (·.1)=false) :
 PE X (.Call (.Attribute o "update" apos) (e::es) [] cpos) (λZ H Q=>to Z H λx H1=>∃a xs,x=.ref a/\H1 a=some (cT a xs)/\t Z H1 λvs U=>aHT X.K a xs vs U Q):=by intro pins s Z H Q I h;refine FH G M L rfl (thn (ho pins s Z H _ I h) λv s1 ⟨x,H1,W,r1,a,xs,e1,e2,q1⟩=>?_);subst e1;obtain rfl:v=AB a:=r1;have g3:=iE W e2;refine⟨"dict", "dict.update",PySem.F.plainAttrs_dict,Fx,PySem.F.type_dict_update,g3.ty,λb q=>?_,?_⟩;cases q;obtain⟨_,_,ob,_,_,h1,h2,_⟩:=g3;exact⟨ob,h1,h2.2.1⟩;have hA:=ha cpos pins s1 Z H1 _ W q1;rw[hs] at hA ⊢;refine DW (by show(false||(D7 cpos (AT es X.env)).any (·.1))=false;rw[B] <;> rfl) (Gj ?_);exact thn hA λus s2 ⟨vs,U,I2,r2,q2⟩=>aCu hu I2 r2 q2
end
end L2
namespace Hp
open PySem PySem.Spec PyProof.Rows L2
theorem aJr(h:(a&&b)=true):a=true/\b=true:=by simpa using h
section
variable {K:Fg} {H:Hp} {ex:Addr->Prop}
theorem sM:∀{ds:List D} {is:List Int} {xs:List V},dC ds=some is->Reps K H ex ds xs->xs=is.map V.int
 | [],is,xs,e,r=>by cases e;exact r|d::ds,is,xs,e,r=>by
  obtain⟨x,I,rfl,B,G⟩:=r;cases d with
  | int i=>
   unfold dC at e;cases q:dC ds with
   | none=>rw[q] at e;cases e|some ns=>rw[q] at e;cases e;rw[sM q G,show x=.int i from B];rfl
  | _=>cases e
theorem mK{is:List Int}(e:nF d=some is)(r:Rep K H ex d u):∃b,u=.ref b/\SqT K H b (is.map V.int):=by
 cases d with
 | tup ds=>obtain⟨b,xs,G,B,I⟩:=r;rw[sM e I] at B;exact⟨b,G,B⟩|_=>cases e
theorem aAb(h:gO (d::ds)=some ks):∃k js,nF d=some k/\gO ds=some js/\ks=k::js:=by unfold gO at h;split at h;rename_i k js B G;cases h;exact⟨k,js,B,G,rfl⟩;cases h
theorem pR:∀{ds:List D} {ks:List (List Int)} {xs:List V},gO ds=some ks->Reps K H ex ds xs->∃us:List KA,us.map (·.1)=ks/\xs=us.map (λx=>V.ref x.2)/\∀x∈us,SqT K H x.2 (x.1.map V.int)
 | [],ks,xs,e,r=>by cases e;exact⟨[],rfl,r,λx B=>by cases B⟩|d::ds,ks,xs,e,r=>by obtain⟨x,r',rfl,L,M⟩:=r;obtain⟨k,js,G,I,rfl⟩:=aAb e;obtain⟨b,rfl,U⟩:=mK G L;obtain⟨us,W,u2,u3⟩:=pR I M;refine⟨(k,b)::us,by rw[mC,W],by rw[u2];rfl,λx B=>?_⟩;rcases As.mp B with rfl|B;exact U;exact u3 x B
theorem mL:∀{us:List KA},(∀x∈us,SqT K H x.2 (x.1.map V.int))->Reps K H ex ((us.map (·.1)).map rG) (us.map λx=>V.ref x.2)
 | [],_=>rfl|x::us,h=>⟨.ref x.2,_,rfl,⟨x.2,x.1.map V.int,rfl,h x Ai,(by
     have:∀is:List Int,Reps K H ex (is.map D.int) (is.map V.int):=λis=>by
      induction is with
      | nil=>rfl|cons i is G=>exact⟨.int i,_,rfl,rfl,G⟩
     exact this x.1)⟩,mL λy B=>h y (Ag _ B)⟩
end
theorem insU_mem:∀{ks:List (List Int)},x∈wJ k ks↔x=k\/x∈ks
 | []=>by simp[wJ]|y::ys=>by unfold wJ;split;simp;split;rename_i e;subst e;simp;rw[As,insU_mem (ks:=ys),As];constructor;rintro (z|z|z);exact .inr (.inl z);exact .inl z;exact .inr (.inr z);rintro (z|z|z);exact .inr (.inl z);exact .inl z;exact .inr (.inr z)
theorem sN:∀{ks:List (List Int)},ks.Pairwise (lexI · ·=true)->(wJ k ks).Pairwise (lexI · ·=true)
 | [],_=>Cf _ _|y::ys,h=>by
  obtain⟨B,I⟩:=BU.mp h;unfold wJ;split;rename_i c;exact BU.mpr ⟨λz hz=>by
   rcases As.mp hz with rfl|hz;exact c;exact oA c (B z hz),h⟩
  rename_i c;split;exact h;rename_i G;refine BU.mpr ⟨λz hz=>?_,sN I⟩;rcases insU_mem.mp hz with rfl|hz;exact pF G (by simpa using c);exact B z hz
theorem iU:∀{ks:List (List Int)},x∈ssT ks↔x∈ks
 | []=>by simp[ssT]|k::ks=>by show x∈wJ k (ssT ks)↔_;rw[insU_mem,iU (ks:=ks),As]
theorem iF:∀ks:List (List Int),(ssT ks).Pairwise (lexI · ·=true)
 | []=>.nil|k::ks=>sN (iF ks)
theorem uL{ks js:List (List Int)}(B:js.Pairwise (lexI · ·=true))(G:∀x,x∈js↔x∈ks):js=ssT ks:=sC B (iF ks) λx=>by rw[G,iU]
theorem mM:∀us:List KA,aS (us.map λx=>V.ref x.2) (us.map λx=>AB x.2)
 | []=>.nil|_::us=>.cons rfl (mM us)
theorem sO:∀{us:List KA} {vs:List Value},aS (us.map λx=>V.ref x.2) vs->vs=us.map λx=>AB x.2
 | [],vs,h=>by cases h;rfl|x::us,vs,h=>by
  cases h with
  | cons B G=>rw[sO G,show _=AB x.2 from B];rfl
section
variable {X:Cx} {P:Pg} {Γ:Ct} {n:Nat} {RT Y old:Addr->Prop} {Z:Sg} {pos:EJ}
theorem aEl(h:neK ks=true):∀k∈ks,k≠[]:=λk B z=>by have:=Bc.mp h k B;rw[z] at this;cases this
theorem aJs(M:Mc X P Γ n)(hf:f=("sorted" : Str))(hg:bT Γ f=true)(q2:g=("set" : Str))(q3:bT Γ g=true)(ha:PE X ea (WE X P n RT Y old Z a))(hp:aK ea=true) :
 PE X (.Call (.Name f pf) [.Call (.Name g pg) [ea] [] p2] [] pos) (WE X P n RT Y old Z (.sset a)):=by
 subst hf q2;have hu:=M.units;intro pins s ZV H Q I hw;obtain⟨S,h⟩:=hw;have h:=RE.bind' (show RE (ev P (call P n) Z a >>= λx=>(match x.d with
  | .lst ds=>(match gO ds with|some ks=>R.iff (neK ks&&decide ((ssT ks).length<=18)) (R.ok (⟨.lst ((ssT ks).map rG),true,false,[]⟩:Vl))|none=>.bad)
  | _=>.bad)) _ from h)
 obtain⟨x,ex,h⟩:=h.eq;cases hd:x.d with
 | lst ds=>
  rw[hd] at h;cases hk:gO ds with
  | none=>simp only[hk] at h;exact h.elim|some ks=>
   simp only[hk] at h;obtain⟨hc,h⟩:=h.iff;obtain⟨q5,B⟩:=aJr hc;have B:=of_decide_eq_true B;refine BG (fE I (M.gl hg) (M.md.blt _ (by decide +kernel)) Ku ?_ (by decide +kernel) (by decide +kernel));refine BS ?_ (aA (e:=.Call (.Name "set" pg) [ea] [] p2) (es:=[]) rfl) rfl;rw[aA (e:=.Call (.Name "set" pg) [ea] [] p2) (es:=[]) rfl];show wpAny _ _ (Hr ((false,Dn (.Call (.Name "set" pg) [ea] [] p2) X.env)::D7 pos (AT [] X.env))) _ _ s;refine Dc (BG (fE I (M.gl q3) (M.md.blt _ (by decide +kernel)) (show Co "set" = some (.type "set") by kernel_rfl) ?_ (by decide +kernel) (by decide +kernel)));refine BK (thn (cI (es:=[]) ha eQ (aA hp) p2 pins s ZV H (λus H1=>∃u,us=[u]/\Tk X.K H1/\Ro X.K RT Y old Z ZV H H1 x u) I ⟨S,?_⟩) λus s1 ⟨vs,H1,I1,r1,u,e1,t1,ro⟩=>?_) (aA hp) rfl;rw[ex];intro u H1 t1 ro;exact⟨u,rfl,t1,ro⟩;subst e1;obtain⟨u',rfl,ru⟩:=r1.one;obtain⟨b,xs,rfl,hS,_,rr⟩:=(ro.rv S).lst hd;cases ru;obtain⟨its,r2,p,_⟩:=I1.list hS;obtain⟨us,u1,rfl,u3⟩:=pR hk rr;have hK:∀x∈us,IsK X.prog X.w s1.heap x:=λx U=>eZ I1 (u3 x U);have q0:∀x∈us,x.1≠[]:=λx U=>aEl q5 x.1 (by rw[<-u1];exact A0.mpr ⟨x,U,rfl⟩);refine aCf (us:=us) (I1.ok.hd M.calm) (by omega) p.isList (by rw[GD];exact sO r2) hK (ssT ks) B (λx U=>iU.mpr (by rw[<-u1];exact A0.mpr ⟨x,U,rfl⟩)) λh' tk q1 G=>?_;have I2:L2.Inv X pins ZV H1 { s1 with heap:=h',toks:=tk }:=I1.kept λb o e=>G b o (Am e) e;refine DU ?_;refine wQ (s:={ s1 with heap:=h',toks:=tk }) (I2.ok.hd M.calm) q1 (λx U=>eZ I2 (u3 x U)) q0 λh2 q7 L W m hL q4 q6 y1 y2 y3=>?_;have hn:H1 L=none:=I2.hok.fresh hL;have e4:W.map (·.1)=ssT ks:=uL (C7.mpr y3) λz=>by rw[<-u1];constructor;intro hz;obtain⟨y,hy,rfl⟩:=A0.mp hz;exact A0.mpr ⟨y,y1 y hy,rfl⟩;intro hz;obtain⟨y,hy,rfl⟩:=A0.mp hz;exact y2 y hy
   have q8:W.length<=18:=by rw[<-lM (f:=λx:KA=>x.1),e4];exact B
   have I3:L2.Inv X pins ZV (upd H1 L (.lst (W.map λx=>V.ref x.2))) { s1 with heap:=h2,toks:=q7 }:=I2.laid q4 hL ⟨by rw[lM,Bf];omega,rfs W,m,mM W,q6⟩;have s3:aI H1 (upd H1 L (.lst (W.map λx=>V.ref x.2))):=aI.new hn;refine⟨.ref L,_,I3,rfl,?_⟩;rw[<-e4] at h;exact(show Wn X RT Y old Z ZV H Q (⟨.lst ((W.map (·.1)).map rG),true,false,[]⟩:Vl) from h) _ _ I3.tk ⟨ro.1.trans s3,by rw[if_pos rfl];exact⟨L,_,_,rfl,rfl,⟨ro.1.free hn,I3.tk L (by rw[aR];simp)⟩,aR,mL λy hy=>aI.seqT s3 (u3 y (y1 y hy))⟩⟩
 | _=>rw[hd] at h;exact h.elim
theorem kT{Z:Sg}(h:gX Z i=some ks):Z[i]? = some (.dct ks):=by unfold gX at h;split at h;rename_i e;cases h;exact e;cases h
theorem aJt(M:Mc X P Γ n)(hf:f=("sorted" : Str))(hg:bT Γ f=true)(G:bG Γ i x=true) :
 PE X (.Call (.Name f pf) [.Name x px] [] pos) (WE X P n RT Y old Z (.srtD i)):=by
 subst hf;have q3:PE X (.Name x px) (aCV i):=by unfold bG at G;simp only[bA] at G;obtain⟨⟨h1,h2⟩,h3⟩:=G;exact oN (by rw[M.N];exact eq_of_beq h1) (M.vis h2) (aM h3) (fO h3)
 intro pins s ZV H Q I ⟨S,h⟩;have h:RE (match gX Z i with|some ks=>R.iff (neK ks&&decide (ks.length<=60)) (.ok (⟨.lst ((ssT ks).map rG),true,false,[]⟩:Vl))|none=>.bad) (Wn X RT Y old Z ZV H Q):=h;cases hk:gX Z i with
 | none=>rw[hk] at h;exact h.elim|some ks=>
  rw[hk] at h;obtain⟨hc,h⟩:=h.iff;obtain⟨q1,B⟩:=aJr hc;have B:=of_decide_eq_true B;obtain⟨a,g1,g2,g3,xs,g4,g5,g6⟩:=S.dx.at' i _ (kT hk);refine BG (fE I (M.gl hg) (M.md.blt _ (by decide +kernel)) Ku ?_ (by decide +kernel) (by decide +kernel));refine BS ?_ (aA (e:=.Name x px) (es:=[]) rfl) rfl;rw[aA (e:=.Name x px) (es:=[]) rfl];show wpAny _ _ (Hr ((false,Dn (.Name x px) X.env)::D7 pos (AT [] X.env))) _ _ s;refine Dc (thn (q3 pins s ZV H (λu H1=>u=.ref a/\H1=H) I ⟨.ref a,g1,rfl,rfl⟩) λv s1 ⟨u,H1,U,ru,e1,e2⟩=>DU ?_);subst e1 e2;cases ru;have hl:xs.length<=60:=by rw[<-lM (f:=λx:KA=>x.1),g5];exact B
  refine uB (U.ok.hd M.calm) hl (iE U g4) (λx G=>eZ U (g6 x G)) (λx G=>aEl q1 x.1 (by rw[<-g5];exact A0.mpr ⟨x,G,rfl⟩)) λh2 q4 L W m hL q0 q2 y1 y2=>?_;have hn:H1 L=none:=U.hok.fresh hL;have e4:W.map (·.1)=ssT ks:=uL (C7.mpr y2) λz=>by rw[<-g5];exact(y1.map _).mem_iff
  have I3:L2.Inv X pins ZV (upd H1 L (.lst (W.map λx=>V.ref x.2))) { s1 with heap:=h2,toks:=q4 }:=U.laid q0 hL ⟨by rw[lM,y1.length_eq,Bf];omega,rfs W,m,mM W,q2⟩;refine⟨.ref L,_,I3,rfl,?_⟩;rw[<-e4] at h;exact(show Wn X RT Y old Z ZV H1 Q (⟨.lst ((W.map (·.1)).map rG),true,false,[]⟩:Vl) from h) _ _ I3.tk ⟨aI.new hn,by rw[if_pos rfl];exact⟨L,_,_,rfl,rfl,⟨hn,I3.tk L (by rw[aR];simp)⟩,aR,mL λy hy=>aI.seqT (aI.new hn) (g6 y (y1.mem_iff.mp hy))⟩⟩
theorem aGw(M:Mc X P Γ n)(hf:Γ.fns[f]? = some x)(hg:bT Γ x=true)(ho:bO x=true)(ha:PA X (e::es) (WA X P n RT Y old Z cs))(hp:(e::es).all aK=true) :
 PE X (.Call (.Name x p) (e::es) [] pos) (WE X P n RT Y old Z (.callP f cs)):=by
 obtain⟨fa,fd,ps,h1,h2,h3,h4⟩:=M.md.fn f x hf;have L:aK e=true/\es.all aK=true:=by simpa using hp
 refine(kB h4 M.room (M.gl hg) h1 h2 h3 .nil rS ha (aM ho) (aA L.1) (bP L.2)).imp λZV H Q t ⟨S,h⟩=>?_;have h:=RE.bind' (show RE (evs P (call P n) Z cs >>= λvs=>call P n f (vs.map (·.d)) >>= λr=>aFX r) _ from h);refine⟨S,h.mono λvs U us H1 t1 s1 r1=>?_⟩;obtain⟨⟨d,fr,pa⟩,er,U⟩:=(RE.bind' U).eq;unfold aFX at U;cases d with
 | lst es=>
  obtain⟨hc,hw⟩:=RE.iff U;have hw:Wn X RT Y old Z ZV H Q ⟨.lst es,true,false,[]⟩:=hw;obtain⟨I,hc⟩:=aJr hc;refine .inl ⟨vs.map (·.d),λ_=>False,λ_ z=>z.elim,by rw[AH];exact r1.all.weak λa z=>z.elim,?_⟩;rw[er];intro u' H' t' s' rr _;unfold Rr at rr;cases B:fr with
  | true=>rw[B,if_pos rfl] at rr;obtain⟨c,xs,ds,e1,e2,W,G,rr⟩:=rr;cases e2;exact hw u' H' t' ⟨s1.trans s',by rw[if_pos rfl];exact⟨c,xs,es,e1,rfl,⟨s1.free W.1,W.2⟩,G,Reps.free es xs I rr⟩⟩|false=>
   have q0:pa=false:=by simpa[B] using hc
   subst q0;rw[B,if_neg bN] at rr;obtain⟨c,xs,e1,e2,⟨W,G⟩,e5⟩:=rr;have hn:=zU λz=>W (.inr ⟨rfl,z⟩);have hk:X.K.lookup fa≠none:=λz=>by simp[CQ,z] at h2
   have G:=G ⟨fa,hk,.inr ⟨rfl,λ_=>hk⟩⟩;exact hw u' H' t' ⟨s1.trans s',by rw[if_pos rfl];exact⟨c,xs,es,e1,rfl,⟨s1.free hn.1,hn.2⟩,G,Reps.free es xs I e5⟩⟩
 | _=>exact U.elim
theorem aGx(M:Mc X P Γ n)(hf:Γ.fns[f]? = some x)(hg:bT Γ x=true)(ho:bO x=true)(ha:PE X ea (WE X P n RT Y old Z a))(hb:PE X eb (WE X P n RT Y old Z b))(hc:PE X ec (WE X P n RT Y old Z c))(pa:aK ea=true)(pb:aK eb=true)(pc:aK ec=true) :
 PE X (.Call (.Name x p) [ea,eb,ec] [] pos) (WE X P n RT Y old Z (.callC f a b c)):=by
 obtain⟨fa,fd,ps,h1,h2,h3,h4⟩:=M.md.fn f x hf;refine(kB h4 M.room (M.gl hg) h1 h2 h3 .nil rS (cI ha (cI hb (cI hc eQ (aA pc)) (aA pb)) (aA pa)) (aM ho) (aA pa) (bP (by simp[pb,pc]))).imp λZV H Q t ⟨S,h⟩=>?_;have h:=RE.bind' (show RE (ev P (call P n) Z a >>= λx=>ev P (call P n) Z b >>= λy=>ev P (call P n) Z c >>= λz=>if z.pa=true then (call P n f [x.d,y.d,z.d] >>= λr=>R.ok (cS [x,y,z] r)) else R.iff (aCb P f 2) (call P n f [x.d,y.d,.err 2 [z.d]] >>= λr=>R.ok (aDx x y z r))) _ from h);refine⟨S,h.mono λx hx u1 H1 t1 r1=>?_⟩;have S1:=S.grow r1.1 t1;refine⟨S1,(RE.bind' hx).mono λy hy u2 H2 t2 r2=>?_⟩;have S2:=S1.grow r2.1 t2;refine⟨S2,(RE.bind' hy).mono λz hz u3 G t3 W=>?_⟩;have S3:=S2.grow W.1 t3;have v1:Rv X.K RT Y old Z ZV G x u1:=((r1.rv S).grow r2.1).grow W.1;have v2:Rv X.K RT Y old Z ZV G y u2:=(r2.rv S1).grow W.1;have v3:Rv X.K RT Y old Z ZV G z u3:=W.rv S2;have q0:aI H G:=(r1.1.trans r2.1).trans W.1;by_cases B:z.pa=true;rw[if_pos B] at hz;have h:=RE.bind' hz;refine .inl ⟨[x.d,y.d,z.d],λb=>Od X.K G b/\exV RT Y old Z ZV (aU [x,y,z]) (bR [x,y,z]) b,λa z=>z.1,?_,h.mono λr hr u H' t' s' rr _=>?_⟩;have rs:Rvs X.K RT Y old Z ZV G [x,y,z] [u1,u2,u3]:=⟨u1,_,rfl,v1,u2,_,rfl,v2,u3,_,rfl,v3,rfl⟩
 exact rs.all.weak λa z=>z.2;exact(show Wn X RT Y old Z ZV H Q (cS [x,y,z] r) from hr) u H' t' (uG S3 q0 s' rr);rw[if_neg B] at hz;have B:z.pa=false:=by simpa using B
 obtain⟨q1,hz⟩:=RE.iff hz;refine .inr (.inr ⟨q1,x.d,y.d,z.d,u1,u2,u3,λb=>Od X.K G b/\exV RT Y old Z ZV (x.pa||y.pa) (x.al++y.al) b/\exV RT Y old Z ZV false z.al b,λb=>Od X.K G b/\¬ exV RT Y old Z ZV false z.al b,rfl,λa w=>⟨w.1,λq=>q.2 w.2.2⟩,?_,?_,?_,(RE.bind' hz).mono λr hr u H' t' s' rr _=>?_⟩);exact Rep.weak v1 λb w=>kO w.2.1 (λq=>by rw[q];rfl) λj I=>AE _ I;exact Rep.weak v2 λb w=>kO w.2.1 (λq=>by rw[q,C8]) λj I=>A5 _ I;have L:=v3;unfold Rv at L;rw[B] at L;exact Rep.weak L λb w=>Bk λq=>w.2 ⟨w.1,q⟩;refine(show Wn X RT Y old Z ZV H Q (aDx x y z r) from hr) u H' t' (Ro.plain (q0.trans s') rfl (Rep.weak rr λb w=>?_));have od:Od X.K G b:=exV.trk S3 w;have ez:exV RT Y old Z ZV false z.al b:=kO w (λq=>by cases q) λj I=>A5 _ I;cases U:r.2.2 with
 | false=>exact .inr ⟨rfl,od,λq=>q.2 ez⟩|true=>refine .inl ⟨od,kO w (λq=>?_) λj I=>AE _ ?_,ez⟩;show(r.2.2&&(x.pa||y.pa))=true;rw[U,q];rfl;rw[U];exact I
end
end Hp
noncomputable section
set_option maxHeartbeats 8000000
namespace Hp
open PySem PySem.Spec PyProof.Rows L2
section
variable {P:Pg} {n:Nat}
theorem xP{X:Cx}{Γ:Ct}(M:Mc X P Γ n)(scope:Dp):(IL scope X.env).names=kE Γ.sc scope.names:=by
 unfold IL kE;simp only;refine DB λp I=>?_;obtain⟨m,k⟩:=p;have B:(X.env.scope.kind==KB)=true:=by rw[M.fk];rfl
 have G:X.env.kindOf m=Γ.sc.lookup m:=by unfold Env.kindOf;rw[M.sc]
 simp only[B,G,DG]
abbrev chN(Γ:Ct)(tg:A2)(caps:List Nat):List Str:=cQ tg++caps.filterMap λi=>Γ.N[i]?
abbrev pS(Γ:Ct)(tg:A2)(caps:List Nat)(scope:Dp):Ct:={ Γ with N:=chN Γ tg caps,sc:=kE Γ.sc scope.names,fn:=false }
structure aCv (Γ:Ct) (tg:A2) (caps:List Nat) (scope:Dp) (k:Nat) (t:T):Prop where
 len:(cQ tg).length=k
 lt:∀i∈caps,i<Γ.N.length
 ndc:caps.Nodup
 kind:scope.kind=.function
 nd:(chN Γ tg caps).Nodup
 cap:∀x∈caps.filterMap (λi=>Γ.N[i]?),scope.names.lookup x=some .free/\Γ.sc.lookup x=some .cell
 all:∀p∈scope.names,p.2≠.cell/\(p.2=.local->scope.names.lookup p.1=some .local)/\(p.2=.free->Γ.sc.lookup p.1=some .cell)
 tk:∀i∈tIx t,i<k
theorem uM{N:List Str}:∀{caps:List Nat},(∀i∈caps,i<N.length)->∀{j i:Nat},caps[j]? = some i->(caps.filterMap λi=>N[i]?)[j]? = N[i]?/\(caps.filterMap λi=>N[i]?).length=caps.length
 | [],_,_,_,h=>by simp at h|c::cs,hl,j,i,h=>by
  have G:N[c]? = some N[c]! := by have:=hl c Ai;simp[this]
  rw[List.filterMap_cons_some G];have B:∀i∈cs,i<N.length:=λi hi=>hl i (Ag _ hi);have len:(cs.filterMap λi=>N[i]?).length=cs.length:=by
   cases cs with
   | nil=>rfl|cons I L=>exact(uM B (j:=0) (i:=I) rfl).2
  refine⟨?_,by rw[lC,lC,len]⟩;cases j with
  | zero=>
   have e:c=i:=by simpa using h
   subst e;rw[gZ,G]
  | succ j=>rw[gS];exact(uM B (j:=j) (i:=i) (by simpa using h)).1
theorem aJu{N:List Str}{caps:List Nat}(h:∀i∈caps,i<N.length):(caps.filterMap λi=>N[i]?).length=caps.length:=by
 cases caps with
 | nil=>rfl|cons c cs=>exact(uM h (j:=0) (i:=c) rfl).2
theorem aCv.scope{X:Cx}{Γ:Ct}{tg:A2}{caps:List Nat}{scope:Dp}{k:Nat}{t:T}(O:aCv Γ tg caps scope k t)(M:Mc X P Γ n):cG X scope k caps (chN Γ tg caps) where
 kind:=O.kind
 nocell:=λy G=>(O.all y G).1
 loc:=λy G e=>(O.all y G).2.1 e
 free:=λm W=>.inl (by
  have:=(O.all _ W).2.2 rfl;show X.env.scope.names.lookup m=_;rw[M.sc];exact this)
 len:=by rw[lA,O.len,aJu O.lt]
 cap:=λj i e=>by have hi:=O.lt i (mG e);have I:Γ.N[i]? = some Γ.N[i]:=Af hi;have B:=(uM O.lt e).1;rw[I] at B;obtain⟨L,U⟩:=O.cap _ (mG B);refine⟨Γ.N[i],?_,by rw[M.N];exact I,L,?_⟩;show(cQ tg++_)[k+j]? = _;rw[Az (by rw[O.len];omega),O.len,AW];exact B;show X.env.scope.names.lookup _=_;rw[M.sc];exact U
 ndp:=M.nd
theorem aCv.mc{X:Cx}{Γ:Ct}{tg:A2}{caps:List Nat}{scope:Dp}{k:Nat}{t:T}(O:aCv Γ tg caps scope k t)(M:Mc X P Γ n)(C:Addr)(s₀:Ad)(H₀:Hp)(ex:List Addr) :
 Mc (cU X scope (chN Γ tg caps) C s₀ H₀ ex) P (pS Γ tg caps scope) n where
 md:=⟨M.md.fn,M.md.blt,M.md.cns,M.md.tab⟩
 N:=rfl
 nd:=O.nd
 sc:=xP M scope
 calm:=M.calm
 room:=M.room
 xe:=rfl
 st:=λx h=>.inr (by
  show(IL scope X.env).names.lookup x=_;rw[xP M scope];unfold wK at h;have h:(match (kE Γ.sc scope.names).lookup x with|some .local=>true|some .cell=>false|_=>false)=true:=h;split at h;rename_i e;exact e;cases h;cases h)
 fk:=O.kind
theorem xQ:chkI Γ tt (.rng a b) e=oS (fY e) λp=>(p.1==("range" : Str))&&bT Γ p.1&&(match p.2 with
 | [x]=>zK a&&aQ Γ b x|[x,y]=>aQ Γ a x&&aQ Γ b y|_=>false):=rfl
theorem xR:chkI Γ tt (.zip a b) e=oS (fY e) λp=>(match p.2 with
 | [x,y]=>tt&&(p.1==("zip" : Str))&&bT Γ p.1&&aQ Γ a x&&aQ Γ b y|_=>false):=rfl
theorem jS(h:chkI Γ tt it e=true):aK e=true:=by
 cases it with
 | seq c=>exact aJ (c:=c) (by exact h)|rng a b=>rw[xQ] at h;obtain⟨_,⟨_,_,rfl⟩,_⟩:=aD h;rfl|zip a b=>rw[xR] at h;obtain⟨_,⟨_,_,rfl⟩,_⟩:=aD h;rfl|enum a=>cases h|rng3 a b c=>cases h|rev a=>cases h
theorem aGy{RT Y old:Addr->Prop}(h:tst P (call P n) Z c=.bad):PT X e (WT X P n RT Y old Z c):=λpins s ZV H Q I ⟨S,B⟩=>by rw[h] at B;exact B.elim
theorem cL(h:(a&&b&&c)=true):a=true/\b=true/\c=true:=by cases a <;> cases b <;> cases c <;> first|exact⟨rfl,rfl,rfl⟩|cases h
theorem cO(h:(a&&b)=true):a=true/\b=true:=by cases a <;> cases b <;> first|exact⟨rfl,rfl⟩|cases h
theorem aEm(h:(a&&b&&c&&d)=true):a=true/\b=true/\c=true/\d=true:=by obtain⟨B,G,I⟩:=cL h;obtain⟨B,L⟩:=cO B;exact⟨B,L,G,I⟩
theorem aCw(h:(a&&b&&c&&d&&e)=true):a=true/\b=true/\c=true/\d=true/\e=true:=by obtain⟨B,G,I,L⟩:=aEm h;obtain⟨B,M⟩:=cO B;exact⟨B,M,G,I,L⟩
theorem aBb{Γ:Ct}{k:Nat}{caps:List Nat}{t:T}{it:Hp.It}{cond:Es}{elt:E}{e:A2}(h:aQ Γ (.comp k caps t it cond elt) e=true) :
 ∃I tg B G scope pos,e=.ListComp I [⟨tg,B,G,0⟩] scope pos/\aCv Γ tg caps scope k t/\G.length<=1/\hU (pS Γ tg caps scope) t tg=true/\chkI Γ (rW tg) it B=true/\chkEs (pS Γ tg caps scope) cond G=true/\aQ (pS Γ tg caps scope) elt I=true:=by
 obtain⟨⟨I,gens,scope⟩,L,g⟩:=aD h;clear h;obtain⟨pos,rfl⟩:=L;have h:=g;clear g;rcases gens with _|⟨⟨tg,B,G,as⟩,_|⟨_,_⟩⟩
 cases h;have h:(as==0&&(cQ tg).length==k&&(caps.all λi=>decide (i<Γ.N.length))&&decide caps.Nodup&&scope.kind==.function&&decide (cQ tg++caps.filterMap λi=>Γ.N[i]?).Nodup &&
  ((caps.filterMap λi=>Γ.N[i]?).all λx=>scope.names.lookup x==some .free&&Γ.sc.lookup x==some .cell) &&
  (scope.names.all λp=>p.2 != .cell&&(p.2 != .local||scope.names.lookup p.1==some .local)&&(p.2 != .free||Γ.sc.lookup p.1==some .cell)) &&
  ((tIx t).all λi=>decide (i<k))&&decide (G.length<=1) &&
  hU (pS Γ tg caps scope) t tg&&chkI Γ (rW tg) it B&&chkEs (pS Γ tg caps scope) cond G&&aQ (pS Γ tg caps scope) elt I)=true:=by exact h
 simp only[bA,beq_iff_eq,Bc,AN,C3,bne_iff_ne,ne_eq] at h;obtain⟨⟨⟨⟨⟨⟨⟨⟨⟨⟨⟨⟨⟨h0,L⟩,h2⟩,h3⟩,h4⟩,h5⟩,h6⟩,h7⟩,h8⟩,h9⟩,M⟩,U⟩,W⟩,q0⟩:=h;subst h0;refine⟨I,tg,B,G,scope,pos,rfl,⟨L,h2,h3,h4,h5,h6,λp hp=>?_,h8⟩,h9,M,U,W,q0⟩;obtain⟨⟨q1,q2⟩,q3⟩:=h7 p hp;exact⟨q1,λe=>q2.resolve_left λz=>z e,λe=>q3.resolve_left λz=>z e⟩;cases h
abbrev PEc(P:Pg)(n:Nat)(c:E):Prop:=∀{X:Cx} {Γ:Ct},Mc X P Γ n->∀{e:A2},aQ Γ c e=true->∀(RT Y old:Addr->Prop) (Z:Sg),PE X e (WE X P n RT Y old Z c)
abbrev PTc(P:Pg)(n:Nat)(c:E):Prop:=∀{X:Cx} {Γ:Ct},Mc X P Γ n->∀{e:A2},aQ Γ c e=true->∀(RT Y old:Addr->Prop) (Z:Sg),PT X e (WT X P n RT Y old Z c)
abbrev PWc(P:Pg)(n:Nat)(c:E):Prop:=∀{X:Cx} {Γ:Ct},Mc X P Γ n->∀{o:BoolOp} {xs:List A2} {pos:EJ},aQ Γ c (.BoolOp o xs pos)=true->∀(RT Y old:Addr->Prop) (Z:Sg),PW X (.BoolOp o xs pos) (WT X P n RT Y old Z c)
structure Q3 (P:Pg) (n:Nat) (c:E):Prop where
 e:PEc P n c
 t:PTc P n c
 w:PWc P n c
structure QA (P:Pg) (n:Nat) (cs:Es):Prop where
 a:∀{X:Cx} {Γ:Ct},Mc X P Γ n->∀{es:List A2},chkEs Γ cs es=true->∀(RT Y old:Addr->Prop) (Z:Sg),PA X es (WA X P n RT Y old Z cs)
 o:∀{X:Cx} {Γ:Ct},Mc X P Γ n->∀{e:Option A2},chkO Γ cs e=true->∀(RT Y old:Addr->Prop) (Z:Sg),PO X e (wO X P n RT Y old Z cs)
 ts:∀{X:Cx} {Γ:Ct},Mc X P Γ n->∀{es:List A2},es.length<=1->chkEs Γ cs es=true->∀(RT Y old:Addr->Prop) (Z:Sg),PTs X es (wTs X P n RT Y old Z cs)
abbrev QI(P:Pg)(n:Nat)(it:Hp.It):Prop:=∀{X:Cx} {Γ:Ct},Mc X P Γ n->∀{tg e:A2},chkI Γ (rW tg) it e=true->∀(RT Y old:Addr->Prop) (Z:Sg),PI X tg e (wI X P n RT Y old Z it)
theorem Q3.of(h:PEc P n c)(hd:∀Z,tst P (call P n) Z c=.bad)(B:∀{Γ:Ct} {o:BoolOp} {xs:List A2} {pos:EJ},aQ Γ c (.BoolOp o xs pos)=false):Q3 P n c:=
 ⟨h,λ{X Γ} M {e} z RT Y old Z=>aGy (hd Z),λ{X Γ} M {o xs pos} z RT Y old Z=>absurd (B.symm.trans z) bN⟩
theorem n_c:Q3 P n (.c d):=by
 have L:∀{Γ:Ct} {e:A2},aQ Γ (.c d) e=true->(∃c k p,e=.Constant c k p/\eqC d c=true)\/∃x p,e=.Name x p/\bT Γ x=true/\bO x=true/\∃d',Γ.cns.lookup x=some d'/\eqK d d'=true:=λ{Γ e} h=>by rcases(C3 _ _).mp (show(oS (asC e) (eqC d)||oS (asN e) λx=>bT Γ x&&bO x&&oB (Γ.cns.lookup x) (eqK d))=true from h) with h|h;obtain⟨c,B,g⟩:=aD h;clear h;obtain⟨k,p,rfl⟩:=B;have h:=g;clear g;exact .inl ⟨c,k,p,rfl,h⟩;obtain⟨x,B,g⟩:=aD h;clear h;obtain⟨p,rfl⟩:=B;have h:=g;clear g;obtain⟨B,G,I⟩:=cL h;obtain⟨d',q1,q2⟩:=xC I;exact .inr ⟨x,p,rfl,B,G,d',q1,q2⟩
 have k:PEc P n (.c d):=λ{X Γ} M {e} h RT Y old Z=>by
  rcases L h with⟨c,j,p,rfl,g⟩|⟨x,p,rfl,B,G,d',q,I⟩
  exact s_c g;have e:=aJa I;subst e;obtain⟨u,v,m,r,hr⟩:=M.md.cns x d q;refine(aFz (M.gl B) m r (aM G)).imp λZV H Q t ⟨S,U⟩ t'=>?_;exact(show Wn _ RT Y old Z ZV H Q (Vl.cl d) from U) v H t' (Ro.val (aI.refl H) (hr H))
 refine⟨k,λ{X Γ} M {e} h RT Y old Z=>?_,λ{X Γ} M {o xs pos} h RT Y old Z=>absurd h bN⟩;refine sG (k M h RT Y old Z) ?_ λp W=>W;rcases L h with⟨c,j,p,rfl,h⟩|⟨x,p,rfl,_⟩ <;> (intro _;rfl)
theorem n_v:Q3 P n (.v i):=by
 have k:PEc P n (.v i):=λ{X Γ} M {e} h RT Y old Z=>by obtain⟨x,B,g⟩:=aD h;clear h;obtain⟨p,rfl⟩:=B;have h:=g;clear g;have h:bG _ i x=true:=h;unfold bG at h;obtain⟨B,I,G⟩:=cL h;exact s_v (by rw[M.N];exact eq_of_beq B) (M.vis I) (aM G) (fO G)
 refine⟨k,λ{X Γ} M {e} h RT Y old Z=>?_,λ{X Γ} M {o xs pos} h RT Y old Z=>absurd h bN⟩;refine sG (k M h RT Y old Z) ?_ λp L=>RE.bind' (show RE (bV Z i >>= λx=>fF x) p from L);obtain⟨x,⟨p,rfl⟩,_⟩:=aD h;intro _;rfl
theorem aPa(L:Q3 P n a)(U:Q3 P n b):Q3 P n (.op o a b):=Q3.of (λ{X Γ} M {e} h RT Y old Z=>by
 obtain⟨⟨l,o',r⟩,B,g⟩:=aD h;clear h;obtain⟨p,rfl⟩:=B;have h:=g;clear g;obtain⟨B,G,I⟩:=cL h;have e:o=o':=eq_of_beq B;subst e;exact aOX (L.e M G RT Y old Z) (U.e M I RT Y old Z)) (λ_=>rfl) rfl
theorem aMw(I:Q3 P n a):Q3 P n (.neg a):=Q3.of (λ{X Γ} M {e} h RT Y old Z=>by
 obtain⟨⟨o,x⟩,B,g⟩:=aD h;clear h;obtain⟨p,rfl⟩:=B;have h:=g;clear g;obtain⟨B,G⟩:=cO h;have e:o=.USub:=eq_of_beq B;subst e;exact aMd (I.e M G RT Y old Z)) (λ_=>rfl) rfl
theorem aPb(I:Q3 P n a):Q3 P n (.nt a):=by
 have G:∀{Γ:Ct} {e:A2},aQ Γ (.nt a) e=true->∃x p,e=.UnaryOp .Not x p/\aQ Γ a x=true:=λ{Γ e} h=>by obtain⟨⟨o,x⟩,B,g⟩:=aD h;clear h;obtain⟨p,rfl⟩:=B;have h:=g;clear g;obtain⟨B,L⟩:=cO h;have e:o=.Not:=eq_of_beq B;subst e;exact⟨x,p,rfl,L⟩
 refine⟨λ{X Γ} M {e} h RT Y old Z=>?_,λ{X Γ} M {e} h RT Y old Z=>?_,λ{X Γ} M {o xs pos} h RT Y old Z=>absurd h bN⟩;obtain⟨x,p,rfl,g⟩:=G h;exact aMe (I.e M g RT Y old Z);obtain⟨x,p,rfl,g⟩:=G h;exact zV (I.t M g RT Y old Z)
theorem aBc(h:(match xs with
 | [x,y]=>aQ Γ a x&&aQ Γ b y|x::y::z::r=>aQ Γ a x&&aQ Γ b (.BoolOp w (y::z::r) p)|_=>false)=true):∃x y r,xs=x::y::r/\aQ Γ a x=true/\((r=[]/\aQ Γ b y=true)\/aQ Γ b (.BoolOp w (y::r) p)=true):=by
 rcases xs with _|⟨x,_|⟨y,_|⟨z,r⟩⟩⟩
 cases h;cases h;obtain⟨B,G⟩:=cO h;exact⟨x,y,[],rfl,B,.inl ⟨rfl,G⟩⟩;obtain⟨B,G⟩:=cO h;exact⟨x,y,z::r,rfl,B,.inr G⟩
theorem aPc(L:Q3 P n a)(U:Q3 P n b):Q3 P n (.an a b):=by
 have kw:PWc P n (.an a b):=λ{X Γ} M {o xs pos} h RT Y old Z=>by obtain⟨I,W⟩:=cO h;have e:o=.And:=eq_of_beq I;subst e;obtain⟨x,y,r,rfl,G,B⟩:=aBc W;rcases B with⟨rfl,B⟩|B;exact aMm (L.t M G RT Y old Z) (aFA (U.t M B RT Y old Z));exact aMm (L.t M G RT Y old Z) (U.w M B RT Y old Z)
 refine⟨λ{X Γ} M {e} h RT Y old Z=>?_,λ{X Γ} M {e} h RT Y old Z=>?_,kw⟩;obtain⟨⟨o,xs,pos⟩,I,g⟩:=aD h;clear h;obtain rfl:=I;have h:=g;clear g;obtain⟨I,W⟩:=cO h;have e:o=.And:=eq_of_beq I;subst e;obtain⟨x,y,r,e,G,B⟩:=aBc W;have e:xs=x::y::r:=e;subst e;rcases B with⟨rfl,B⟩|B;exact aMf (L.e M G RT Y old Z) (aCW (U.e M B RT Y old Z));exact aMf (L.e M G RT Y old Z) (U.e M B RT Y old Z);obtain⟨⟨o,xs,pos⟩,rfl,_⟩:=aD h;exact(kw M h RT Y old Z).pt
theorem aMx(L:Q3 P n a)(U:Q3 P n b):Q3 P n (.orr a b):=by
 have kw:PWc P n (.orr a b):=λ{X Γ} M {o xs pos} h RT Y old Z=>by obtain⟨I,W⟩:=cO h;have e:o=.Or:=eq_of_beq I;subst e;obtain⟨x,y,r,rfl,G,B⟩:=aBc W;rcases B with⟨rfl,B⟩|B;exact aHR (L.t M G RT Y old Z) (aIk (U.t M B RT Y old Z));exact aHR (L.t M G RT Y old Z) (U.w M B RT Y old Z)
 refine⟨λ{X Γ} M {e} h RT Y old Z=>?_,λ{X Γ} M {e} h RT Y old Z=>?_,kw⟩;obtain⟨⟨o,xs,pos⟩,I,g⟩:=aD h;clear h;obtain rfl:=I;have h:=g;clear g;obtain⟨I,W⟩:=cO h;have e:o=.Or:=eq_of_beq I;subst e;obtain⟨x,y,r,e,G,B⟩:=aBc W;have e:xs=x::y::r:=e;subst e;rcases B with⟨rfl,B⟩|B;exact aHQ (L.e M G RT Y old Z) (aCW (U.e M B RT Y old Z));exact aHQ (L.e M G RT Y old Z) (U.e M B RT Y old Z);obtain⟨⟨o,xs,pos⟩,rfl,_⟩:=aD h;exact(kw M h RT Y old Z).pt
theorem aMy(W:Q3 P n t)(L:Q3 P n a)(U:Q3 P n b):Q3 P n (.ife t a b):=Q3.of (λ{X Γ} M {e} h RT Y old Z=>by
 obtain⟨⟨t',a',b'⟩,B,g⟩:=aD h;clear h;obtain⟨p,rfl⟩:=B;have h:=g;clear g;obtain⟨B,G,I⟩:=cL h;exact aMg (W.t M B RT Y old Z) (L.e M G RT Y old Z) (U.e M I RT Y old Z)) (λ_=>rfl) rfl
theorem aMz(U:Q3 P n a)(W:Q3 P n b):Q3 P n (.cmp o a b):=by
 have L:∀{Γ:Ct} {e:A2},aQ Γ (.cmp o a b) e=true->∃l r p,e=.Compare l [o] [r] p/\aQ Γ a l=true/\aQ Γ b r=true:=λ{Γ e} h=>by
  obtain⟨⟨l,os,rs⟩,I,g⟩:=aD h;clear h;obtain⟨p,rfl⟩:=I;have h:=g;clear g;rcases os with _|⟨o',_|⟨_,_⟩⟩
  cases h;rcases rs with _|⟨r,_|⟨_,_⟩⟩
  cases h;obtain⟨I,G,B⟩:=cL h;have e:o=o':=eq_of_beq I;subst e;exact⟨l,r,p,rfl,G,B⟩;cases h;cases h
 refine⟨λ{X Γ} M {e} h RT Y old Z=>?_,λ{X Γ} M {e} h RT Y old Z=>?_,λ{X Γ} M {o xs pos} h RT Y old Z=>absurd h bN⟩;obtain⟨l,r,p,rfl,G,B⟩:=L h;exact aMh M (U.e M G RT Y old Z) (W.e M B RT Y old Z) (aJ B);obtain⟨l,r,p,rfl,G,B⟩:=L h;exact kQ M (U.e M G RT Y old Z) (W.e M B RT Y old Z) (aJ B)
theorem aJv(ha:Q3 P n a)(hb:Q3 P n b)(hc:Q3 P n c):Q3 P n (.cmp2 o1 o2 a b c):=by
 have h0:∀{Γ:Ct} {e:A2},aQ Γ (.cmp2 o1 o2 a b c) e=true->∃l m r p,e=.Compare l [o1,o2] [m,r] p/\aQ Γ a l=true/\aQ Γ b m=true/\aQ Γ c r=true:=λ{Γ e} h=>by
  obtain⟨⟨l,os,rs⟩,L,g⟩:=aD h;clear h;obtain⟨p,rfl⟩:=L;have h:=g;clear g;rcases os with _|⟨U,_|⟨W,_|⟨_,_⟩⟩⟩
  cases h;cases h;rcases rs with _|⟨m,_|⟨r,_|⟨_,_⟩⟩⟩
  cases h;cases h;obtain⟨L,h2,G,I,B⟩:=aCw h;have e:o1=U:=eq_of_beq L;subst e;have e:o2=W:=eq_of_beq h2;subst e;exact⟨l,m,r,p,rfl,G,I,B⟩;cases h;cases h
 refine⟨λ{X Γ} M {e} h RT Y old Z=>?_,λ{X Γ} M {e} h RT Y old Z=>?_,λ{X Γ} M {o xs pos} h RT Y old Z=>absurd h bN⟩;obtain⟨l,m,r,p,rfl,G,I,B⟩:=h0 h;exact aJc M (ha.e M G RT Y old Z) (hb.e M I RT Y old Z) (hc.e M B RT Y old Z) (aJ B);obtain⟨l,m,r,p,rfl,G,I,B⟩:=h0 h;exact aJd M (ha.e M G RT Y old Z) (hb.e M I RT Y old Z) (hc.e M B RT Y old Z) (aJ B)
theorem aMA(L:Q3 P n a)(U:Q3 P n b):Q3 P n (.idx a b):=by
 have k:PEc P n (.idx a b):=λ{X Γ} M {e} h RT Y old Z=>by obtain⟨⟨x,i⟩,B,g⟩:=aD h;clear h;obtain⟨p,rfl⟩:=B;have h:=g;clear g;obtain⟨B,I⟩:=cO h;exact aMi (L.e M B RT Y old Z) (U.e M I RT Y old Z) (aJ I)
 refine⟨k,λ{X Γ} M {e} h RT Y old Z=>?_,λ{X Γ} M {o xs pos} h RT Y old Z=>absurd h bN⟩;refine sG (k M h RT Y old Z) ?_ λp G=>?_;obtain⟨⟨x,i⟩,⟨p,rfl⟩,_⟩:=aD h;intro _;rfl;have G:=RE.bind' (show RE (ev P (call P n) Z a >>= λx=>ev P (call P n) Z b >>= λy=>bH x y >>= λz=>fF z) p from G);show RE (ev P (call P n) Z a >>= λx=>ev P (call P n) Z b >>= λy=>bH x y) _;rw[RE.bind];refine G.mono λx W=>?_;rw[RE.bind];exact(RE.bind' W).mono λy hy=>RE.bind' hy
theorem aMB{a:E}{lo hi:Es}(U:Q3 P n a)(hl:QA P n lo)(W:QA P n hi):Q3 P n (.sli a lo hi):=Q3.of (λ{X Γ} M {e} h RT Y old Z=>by
 obtain⟨⟨x,i⟩,B,g⟩:=aD h;clear h;obtain⟨p,rfl⟩:=B;have h:=g;clear g;obtain⟨⟨l,u⟩,B,g⟩:=aD h;clear h;obtain⟨p2,G⟩:=B;have h:=g;clear g;have G:i=.Slice l u none p2:=G;subst G;obtain⟨B,I,L⟩:=cL h;exact aMp (U.e M B RT Y old Z) (hl.o M I RT Y old Z) (W.o M L RT Y old Z)) (λ_=>rfl) rfl
theorem aMC(I:QA P n es):Q3 P n (.tup es):=Q3.of (λ{X Γ} M {e} h RT Y old Z=>by
 obtain⟨xs,B,g⟩:=aD h;clear h;obtain⟨k,p,rfl⟩:=B;have h:=g;clear g;obtain⟨B,G⟩:=cO h;exact aMj (I.a M G RT Y old Z) G (of_decide_eq_true B)) (λ_=>rfl) rfl
theorem aMD(I:QA P n es):Q3 P n (.lst es):=Q3.of (λ{X Γ} M {e} h RT Y old Z=>by
 obtain⟨xs,B,g⟩:=aD h;clear h;obtain⟨p,rfl⟩:=B;have h:=g;clear g;obtain⟨B,G⟩:=cO h;exact aMk (I.a M G RT Y old Z) G (of_decide_eq_true B)) (λ_=>rfl) rfl
theorem aJw(W:QA P n es):Q3 P n (.call f es):=by
 have k:PEc P n (.call f es):=λ{X Γ} M {e} h RT Y old Z=>by obtain⟨⟨x,xs⟩,B,g⟩:=aD h;clear h;obtain⟨p1,p2,rfl⟩:=B;have h:=g;clear g;obtain⟨B,L,U,G⟩:=aEm h;exact aJb M (eq_of_beq B) L U (W.a M G RT Y old Z) (eY G) G
 refine⟨k,λ{X Γ} M {e} h RT Y old Z=>?_,λ{X Γ} M {o xs pos} h RT Y old Z=>absurd h bN⟩;refine sG (k M h RT Y old Z) ?_ λp I=>?_;obtain⟨⟨x,xs⟩,⟨p1,p2,rfl⟩,_⟩:=aD h;intro _;rfl;have I:=RE.bind' (show RE (evs P (call P n) Z es >>= λvs=>call P n f (vs.map (·.d)) >>= λr=>fF (cS vs r)) p from I);show RE (evs P (call P n) Z es >>= λvs=>call P n f (vs.map (·.d)) >>= λr=>R.ok (cS vs r)) _;rw[RE.bind];refine I.mono λx hx=>?_;rw[RE.bind];exact(RE.bind' hx).mono λy hy=>hy
theorem aPd(ha:QA P n es):Q3 P n (.bi b es):=by
 have k:PEc P n (.bi b es):=λ{X Γ} M {e} h RT Y old Z=>by
  obtain⟨⟨x,xs⟩,B,g⟩:=aD h;clear h;obtain⟨p1,p2,rfl⟩:=B;have h:=g;clear g;obtain⟨h,I⟩:=cO h;obtain⟨B,L,U,W,h5⟩:=aCw h;cases xs with
  | nil=>cases h5|cons y ys=>exact aOY M B (eq_of_beq L) U W (ha.a M I RT Y old Z) (eY I)
 refine⟨k,λ{X Γ} M {e} h RT Y old Z=>?_,λ{X Γ} M {o xs pos} h RT Y old Z=>absurd h bN⟩;refine sG (k M h RT Y old Z) ?_ λp G=>?_;obtain⟨⟨x,xs⟩,⟨p1,p2,rfl⟩,_⟩:=aD h;intro _;rfl;have G:=RE.bind' (show RE (evs P (call P n) Z es >>= λvs=>biD b vs >>= λx=>fF x) p from G);show RE (evs P (call P n) Z es >>= λvs=>biD b vs) _;rw[RE.bind];exact G.mono λx hx=>RE.bind' hx
theorem aME(ha:Q3 P n a):Q3 P n (.isi a cs):=by
 have k:PEc P n (.isi a cs):=λ{X Γ} M {e} h RT Y old Z=>by
  obtain⟨⟨f,xs⟩,I,g⟩:=aD h;clear h;obtain⟨p1,p2,rfl⟩:=I;have h:=g;clear g;rcases cs with _|⟨c,_|⟨_,_⟩⟩
  cases h;rcases xs with _|⟨x,_|⟨y,_|⟨_,_⟩⟩⟩
  cases h;cases h;obtain⟨I,h2,h3,h4,B⟩:=aCw h;unfold aHI at B;split at B;rename_i z p3;obtain⟨q1,q2,q3⟩:=cL B;have L:∃W,wZ c=some W:=by cases c <;> first|exact⟨_,rfl⟩|cases h3
  obtain⟨W,L⟩:=L;exact aMl M (eq_of_beq I) h2 L (eq_of_beq q1) q2 q3 (ha.e M h4 RT Y old Z) (aJ h4);cases B;cases h;cases h
 refine⟨k,λ{X Γ} M {e} h RT Y old Z=>?_,λ{X Γ} M {o xs pos} h RT Y old Z=>absurd h bN⟩;refine sG (k M h RT Y old Z) ?_ λp U=>?_;obtain⟨⟨x,xs⟩,⟨p1,p2,rfl⟩,_⟩:=aD h;intro _;rfl;have U:=RE.bind' (show RE (ev P (call P n) Z a >>= λx=>(match isI cs P x.d with|some k=>R.ok k|none=>.bad)) p from U);show RE (ev P (call P n) Z a >>= λx=>(match isI cs P x.d with|some k=>R.ok (Vl.cl (.bl k))|none=>.bad)) _;rw[RE.bind];refine U.mono λx G=>?_;cases q:isI cs P x.d with
 | none=>rw[q] at G;exact G.elim|some k=>rw[q] at G;exact G
theorem aJx{k:Nat}{caps:List Nat}{t:T}{it:Hp.It}{cond:Es}{elt:E}(hi:QI P n it)(hc:QA P n cond)(he:Q3 P n elt):Q3 P n (.comp k caps t it cond elt):=Q3.of (λ{X Γ} M {e} h RT Y old Z=>by
 obtain⟨el,tg,I,q0,scope,pos,rfl,O,L,U,G,W,h5⟩:=aBb h;refine aJn M (O.scope M) O.ndc O.tk (hi M G RT Y old Z) (λC s₀ H₀ ex=>?_) (fP (jS G));have B:=O.mc M C s₀ H₀ ex;exact⟨zZ B U,λRT Y old Z1=>hc.ts B L W RT Y old Z1,λRT Y old Z1=>he.e B h5 RT Y old Z1⟩) (λ_=>rfl) rfl
theorem jT(h:∀{Γ:Ct} {e:A2},aQ Γ c e=false):Q3 P n c:=
 ⟨λ{X Γ} M {e} z=>absurd (h.symm.trans z) bN,λ{X Γ} M {e} z=>absurd (h.symm.trans z) bN,λ{X Γ} M {o xs pos} z=>absurd (h.symm.trans z) bN⟩
theorem aMF:QA P n .nil:=by
 refine⟨λ{X Γ} M {es} h RT Y old Z=>?_,λ{X Γ} M {e} h RT Y old Z=>?_,λ{X Γ} M {es} B h RT Y old Z=>?_⟩;cases es with
 | nil=>exact aAY|cons _ _=>exact nf h
 cases e with
 | none=>exact aMn|some _=>exact nf h
 cases es with
 | nil=>exact aJl|cons _ _=>exact nf h
theorem aJy(I:Q3 P n c)(hs:QA P n cs):QA P n (.cons c cs):=by
 refine⟨λ{X Γ} M {es} h RT Y old Z=>?_,λ{X Γ} M {e} h RT Y old Z=>?_,λ{X Γ} M {es} L h RT Y old Z=>?_⟩;cases es with
 | nil=>exact nf h|cons e es=>obtain⟨B,G⟩:=cO h;exact mD (I.e M B RT Y old Z) (hs.a M G RT Y old Z) (aJ B)
 cases cs with
 | nil=>cases e with|none=>exact nf h|some e=>exact aMo (I.e M (by exact h) RT Y old Z)
 | cons _ _=>cases e <;> exact nf h
 cases es with
 | nil=>exact nf h|cons e es=>
  obtain⟨B,G⟩:=cO h;cases es with
  | nil=>cases cs with|nil=>exact aJm (I.t M B RT Y old Z)|cons _ _=>exact absurd G bN
  | cons _ _=>simp at L
theorem aMG(B:Q3 P n c):QI P n (.seq c):=λ{X Γ} M {tg e} h RT Y old Z=>aMq (B.e M (by exact h) RT Y old Z)
theorem aMH(ha:Q3 P n a)(U:Q3 P n b):QI P n (.rng a b):=λ{X Γ} M {tg e} h RT Y old Z=>by
 rw[xQ] at h;obtain⟨⟨f,xs⟩,I,g⟩:=aD h;clear h;obtain⟨p1,p2,rfl⟩:=I;have h:=g;clear g;obtain⟨I,L,B⟩:=cL h;rcases xs with _|⟨x,_|⟨y,_|⟨_,_⟩⟩⟩
 cases B;obtain⟨B,G⟩:=cO B;have W:a=.c (.int 0):=by unfold zK at B;split at B;rw[eq_of_beq B];cases B
 rw[W];exact aJj M (eq_of_beq I) L (U.e M G RT Y old Z) (aJ G);obtain⟨B,G⟩:=cO B;exact aJk M (eq_of_beq I) L (ha.e M B RT Y old Z) (U.e M G RT Y old Z) (aJ B) (aJ G);cases B
theorem aMI(W:Q3 P n a)(hb:Q3 P n b):QI P n (.zip a b):=λ{X Γ} M {tg e} h RT Y old Z=>by
 rw[xR] at h;obtain⟨⟨f,xs⟩,G,g⟩:=aD h;clear h;obtain⟨p1,p2,rfl⟩:=G;have h:=g;clear g;rcases xs with _|⟨x,_|⟨y,_|⟨_,_⟩⟩⟩
 cases h;cases h;obtain⟨B,G,U,I,L⟩:=aCw h;unfold rW at B;split at B;exact aMr M (eq_of_beq G) U (W.e M I RT Y old Z) (hb.e M L RT Y old Z) (aJ I) (aJ L);cases B;cases h
theorem aMJ(L:Q3 P n k):Q3 P n (.lix i k):=Q3.of (λ{X Γ} M {e} h RT Y old Z=>by
 obtain⟨⟨x,ix⟩,G,g⟩:=aD h;clear h;obtain⟨p,rfl⟩:=G;obtain⟨y,⟨U,B⟩,g⟩:=aD g;have B:x=.Name y U:=B;subst B;obtain⟨G,I⟩:=cO g;exact aMs M G (L.e M I RT Y old Z) (aJ I)) (λ_=>rfl) rfl
theorem aJz(ha:Q3 P n a):Q3 P n (.sset a):=Q3.of (λ{X Γ} M {e} h RT Y old Z=>by
 obtain⟨⟨f,xs⟩,B,g⟩:=aD h;clear h;obtain⟨p1,p2,rfl⟩:=B;have h:=g;clear g;rcases xs with _|⟨s,_|⟨_,_⟩⟩
 cases h;obtain⟨⟨g,L⟩,B,g⟩:=aD h;clear h;obtain⟨p3,p4,I⟩:=B;have h:=g;clear g;have I:s=.Call (.Name g p3) L [] p4:=I;subst I;obtain⟨B,U,W,h4,G⟩:=aCw h;rcases L with _|⟨x,_|⟨_,_⟩⟩
 cases G;exact aJs M (eq_of_beq B) U (eq_of_beq W) h4 (ha.e M G RT Y old Z) (aJ G);cases G;cases h) (λ_=>rfl) rfl
theorem aJA:Q3 P n (.srtD i):=Q3.of (λ{X Γ} M {e} h RT Y old Z=>by
 obtain⟨⟨f,xs⟩,I,g⟩:=aD h;clear h;obtain⟨U,W,rfl⟩:=I;obtain⟨I,L,B⟩:=cL g;rcases xs with _|⟨s,_|⟨_,_⟩⟩
 cases B;obtain⟨y,⟨p,G⟩,B⟩:=aD B;have G:s=.Name y p:=G;subst G;exact aJt M (eq_of_beq I) L B;cases B) (λ_=>rfl) rfl
theorem aGz(W:QA P n es):Q3 P n (.callP f es):=Q3.of (λ{X Γ} M {e} h RT Y old Z=>by
 obtain⟨⟨x,xs⟩,B,g⟩:=aD h;clear h;obtain⟨p1,p2,rfl⟩:=B;obtain⟨B,I,L,U,G⟩:=aCw g;cases xs with
 | nil=>cases U|cons y ys=>exact aGw M (eq_of_beq B) I L (W.a M G RT Y old Z) (eY G)) (λ_=>rfl) rfl
theorem aGA(ha:Q3 P n a)(hb:Q3 P n b)(hc:Q3 P n c):Q3 P n (.callC f a b c):=Q3.of (λ{X Γ} M {e} h RT Y old Z=>by
 obtain⟨⟨x,xs⟩,G,g⟩:=aD h;clear h;obtain⟨p1,p2,rfl⟩:=G;obtain⟨G,W,h3,B⟩:=aEm g;rcases xs with _|⟨y1,_|⟨y2,_|⟨y3,_|⟨_,_⟩⟩⟩⟩
 cases B;cases B;cases B;obtain⟨I,L,U⟩:=cL B;exact aGx M (eq_of_beq G) W h3 (ha.e M I RT Y old Z) (hb.e M L RT Y old Z) (hc.e M U RT Y old Z) (aJ I) (aJ L) (aJ U);cases B) (λ_=>rfl) rfl
theorem aEn(z:∀Γ tt e,chkI Γ tt it e=false):QI P n it:=by intro X Γ M tg e h RT Y old Z;rw[z] at h;cases h
mutual
theorem qE:(c:E)->Q3 P n c
 | .c _=>n_c|.v _=>n_v|.op _ a b=>aPa (qE a) (qE b)|.neg a=>aMw (qE a)|.nt a=>aPb (qE a)|.an a b=>aPc (qE a) (qE b)|.orr a b=>aMx (qE a) (qE b)|.ife t a b=>aMy (qE t) (qE a) (qE b)|.cmp _ a b=>aMz (qE a) (qE b)|.cmp2 _ _ a b c=>aJv (qE a) (qE b) (qE c)|.idx a b=>aMA (qE a) (qE b)|.sli a lo hi=>aMB (qE a) (qA lo) (qA hi)|.tup es=>aMC (qA es)|.lst es=>aMD (qA es)|.dic _ _=>jT rfl|.call _ es=>aJw (qA es)|.bi _ es=>aPd (qA es)|.mth _ _ _=>jT rfl|.isi a _=>aME (qE a)|.attr _ _=>jT rfl|.comp _ _ _ it cond elt=>aJx (qI it) (qA cond) (qE elt)|.numset _=>jT rfl|.tget _ _=>jT rfl|.lzip _ _=>jT rfl|.lix _ k=>aMJ (qE k)|.stp _ _=>jT rfl|.callP _ es=>aGz (qA es)|.callC _ a b c=>aGA (qE a) (qE b) (qE c)|.srtD _=>aJA|.sset a=>aJz (qE a)
theorem qA:(cs:Es)->QA P n cs
 | .nil=>aMF|.cons c cs=>aJy (qE c) (qA cs)
theorem qI:(it:Hp.It)->QI P n it
 | .seq c=>aMG (qE c)|.rng a b=>aMH (qE a) (qE b)|.zip a b=>aMI (qE a) (qE b)|.enum _=>aEn λ_ _ _=>rfl|.rev _=>aEn λ_ _ _=>rfl|.rng3 _ _ _=>aEn λ_ _ _=>rfl
end
theorem sE(c:E):PEc P n c:=(qE c).e
theorem sT(c:E):PTc P n c:=(qE c).t
theorem sTs(cs:Es):∀{X:Cx} {Γ:Ct},Mc X P Γ n->∀{es:List A2},es.length<=1->chkEs Γ cs es=true->∀(RT Y old:Addr->Prop) (Z:Sg),PTs X es (wTs X P n RT Y old Z cs):=(qA cs).ts
theorem sI(it:Hp.It):QI P n it:=qI it
end
end Hp
end
namespace Hp
open PySem PySem.Spec PyProof.Rows L2
theorem aCx(l:Addr)(items:Array Value)(n:Nat)(b:Addr)(B:Array Value)(n2:Nat)(U:Option Addr)(sl:Array (Option Value))(q0:¬(!items.isEmpty&&BA (items.size+B.size))=true)(G:items.size<=sizeLine)(I:items.size+B.size<=sizeLine+1) :
 KY (BX.«list.extend» ⟨[.ref l,.ref b],[]⟩) (λ_ R s=>s.heap.get? l=some { cls:=.type "list",dict:=none,data:=.seq items n,slots:=#[] }/\s.heap.get? b=some { cls:=.type "list",dict:=U,data:=.seq B n2,slots:=sl }/\R (.ok (.ret Bj)) { s with heap:=s.heap.update l (B0 λx=>x++B),toks:=s.toks }):=
 .of_wp λprog w A R s h=>by
  obtain⟨hp,g,d,tk,os⟩:=s;obtain⟨M,W,h⟩:=h;have f1:=HZ;have f3:=FM;have f5:=JK;have L:(items++B).size<=sizeLine+1:=by rw[Fm];exact I
  wp_walk using (wpAny_updateSeq M rfl (hz:=G) (_hz':=L)),wpAny_loadPart' M,wpAny_loadPart' W;exact⟨_,rfl,h⟩
variable {X:Cx}
def aMK(K:Fg):V->List V->Hp->VK->Prop:=λx vs H Q=>∃l b xs zs,x=.ref l/\vs=[.ref b]/\H l=some (.lst xs)/\SqL K H b zs/\xs.length+zs.length<=sizeLine/\Q .non (upd H l (.lst (xs++zs)))
theorem aGB:MtM X "list.extend" (aMK X.K):=by
 intro pins s Z H x vs v us Q I rx rv h;obtain⟨l,b,xs,zs,rfl,rfl,L,hB,hz,q⟩:=h;cases rx;obtain⟨u,rfl,ru⟩:=rv.one;cases ru;obtain⟨z,its,n,r,hl,e⟩:=I.lstM L;obtain⟨B,U,pl,z2⟩:=I.list hB;obtain⟨⟨cls,W,data,sl⟩,e2,M,n2,hd⟩:=pl.isList;simp only at M hd;subst M hd;have q0:=U.length;have hsz:its.toArray.size+B.toArray.size<=sizeLine:=by rw[Aj,Aj];omega
 have G:¬ (!its.toArray.isEmpty&&BA (its.toArray.size+B.toArray.size))=true:=by rw[wG hsz,Jm];exact bN
 refine Ei Fy ⟨_,e,rfl⟩ PySem.F.entry_list_extend (PySem.F.args_list_extend_2 _ _)
  (aCx l its.toArray n b B.toArray n2 W sl G (by rw[Aj];omega) (by omega)) ⟨e,e2,?_⟩
 refine⟨.non,_,I.lset (its':=its++B) L e (by simp) (r.append U) ?_,rfl,q⟩;rw[lA];omega
end Hp
noncomputable section
set_option maxHeartbeats 4000000
namespace Hp
open PySem PySem.Spec PyProof.Rows L2
def cE(K:Fg)(RT Y old:Addr->Prop)(H:Hp)(Z':Sg)(Q:L2.St->Hp->Prop):Prop:=
 ∀(RT':Addr->Prop) (ZV':L2.St) (H':Hp),Kp RT H H'->(∀b,RT' b->RT b\/H b=none)->Sx K RT' Y old Z' ZV' H'->Q ZV' H'
def Rtv(K:Fg)(Y old:Addr->Prop)(H':Hp)(v:Vl)(u:V):Prop:=
 if v.fr=true then ∃a xs ds,u=.ref a/\v.d=.lst ds/\¬ old a/\H' a=some (.lst xs)/\Reps K H' (λb=>b=a\/exB Y old v.pa b) ds xs
 else Rep K H' (exB Y old v.pa) v.d u
def aPe(K:Fg)(RT Y old:Addr->Prop)(H H':Hp)(v:Vl)(u:V):Prop:=∃(d:D) (cs:List D) (R2:Addr->Prop) (p:Addr) (xs:List V),v.d=.tup [d,.err 0 cs]/\(∀b,R2 b->RT b\/H b=none)/\R2 p/\old p/\H' p=some (.lst xs)/\Reps K H' (λb=>R2 b\/Y b) cs xs /\
 if v.fr=true then ∃a ys es,u=.ref a/\d=.lst es/\¬ old a/\R2 a/\H' a=some (.lst ys)/\Reps K H' (λb=>R2 b\/exB Y old v.pa b) es ys else Rep K H' (λb=>R2 b\/exB Y old v.pa b) d u
def nO(K:Fg)(RT Y old:Addr->Prop)(H:Hp)(v:Vl)(Q:VK):Prop:=∀(u:V) (H':Hp),Kp RT H H'->Tk K H'->Rtv K Y old H' v u\/aPe K RT Y old H H' v u->Q u H'
def OE(K:Fg)(RT Y old:Addr->Prop)(H:Hp)(o:O)(D:Ends):Prop:=match o with|.next Z'=>cE K RT Y old H Z' D.nx|.brk Z'=>cE K RT Y old H Z' D.bk|.cnt Z'=>cE K RT Y old H Z' D.ct|.ret v=>nO K RT Y old H v D.rt|.exc _ _=>False|.bad=>False
def wS(X:Cx)(RT Y old:Addr->Prop)(Z:Sg)(o:O):TS:=λD ZV H=>Sx X.K RT Y old Z ZV H/\OE X.K RT Y old H o D
section
variable {K:Fg} {RT RT' RT'' Y old:Addr->Prop} {Z:Sg} {ZV:L2.St} {H H1 H2:Hp} {o:O} {D D':Ends}
theorem Kp.chain(a:Kp RT H H1)(s:∀b,RT' b->RT b\/H b=none)(b:Kp RT' H1 H2):Kp RT H H2:=λc o e n=>b c o (a c o e n) λz=>(s c z).elim n λq=>by rw[q] at e;cases e
theorem eO(a:Kp RT H H1)(s1:∀b,RT' b->RT b\/H b=none)(s2:∀b,RT'' b->RT' b\/H1 b=none):∀b,RT'' b->RT b\/H b=none:=λb z=>by
 rcases s2 b z with q|q;exact s1 b q;by_cases B:RT b;exact .inl B;refine .inr ?_;cases e:H b with
 | none=>rfl|some o=>rw[a b o e B] at q;cases q
theorem cE.mono{Q:L2.St->Hp->Prop}(a:Kp RT H H1)(s:∀b,RT' b->RT b\/H b=none)(h:cE K RT Y old H Z' Q):cE K RT' Y old H1 Z' Q:=λB G H2 k n S=>h B G H2 (a.chain s k) (eO a s n) S
theorem OE.mono(a:Kp RT H H1)(s:∀b,RT' b->RT b\/H b=none)(h:OE K RT Y old H o D):OE K RT' Y old H1 o D:=by
 cases o with
 | next Z'=>exact cE.mono a s h|brk Z'=>exact cE.mono a s h|cnt Z'=>exact cE.mono a s h|ret v=>exact λu H2 k t r=>(show nO K RT Y old H v D.rt from h) u H2 (a.chain s k) t (r.imp id λ⟨d,cs,R2,p,xs,B,G,q⟩=>⟨d,cs,R2,p,xs,B,eO a s G,q⟩)|exc x Z'=>exact h|bad=>exact h
theorem aL:∀b,RT b->RT b\/H b=none:=λ_ z=>.inl z
def tkE(K:Fg)(D:Ends):Ends:=⟨λZ H=>Tk K H->D.nx Z H,λv H=>Tk K H->D.rt v H,λZ H=>Tk K H->D.bk Z H,λZ H=>Tk K H->D.ct Z H⟩
theorem OE.from{α:Type}{x:R α}{f:α->O}(h:OE K RT Y old H (O.from Z x f) D):RE x λa=>OE K RT Y old H (f a) D:=by
 cases x with
 | ok a=>exact h|exc e=>exact h|bad=>exact h
end
section
variable {X:Cx} {st:Cu} {t t':TS}
theorem aHU{pins:List (Addr×Obj)}{D:Ends}{f:Flow}{B:Ad}(h:SP X pins (tkE X.K D) f B):SP X pins D f B:=by
 cases f with
 | next=>obtain⟨Z',H',I,q⟩:=h;exact⟨Z',H',I,q I.tk⟩|brk=>obtain⟨Z',H',I,q⟩:=h;exact⟨Z',H',I,q I.tk⟩|cont=>obtain⟨Z',H',I,q⟩:=h;exact⟨Z',H',I,q I.tk⟩|ret u=>obtain⟨v,Z',H',I,r,q⟩:=h;exact⟨v,Z',H',I,r,q I.tk⟩
theorem bC(h:PS X st t)(f:∀D ZV H,Tk X.K H->t' D ZV H->t (tkE X.K D) ZV H):PS X st t':=λpins s ZV H D I B=>thn (h pins s ZV H _ I (f D ZV H I.tk B)) λG L q=>aHU q
theorem gE(h:PSs X sts t)(f:∀D ZV H,Tk X.K H->t' D ZV H->t (tkE X.K D) ZV H):PSs X sts t':=λpins s ZV H D I B=>thn (h pins s ZV H _ I (f D ZV H I.tk B)) λG L q=>aHU q
theorem iV{Y old:Addr->Prop}{f:Sg->O}(h:∀RT Z,PSs X sts (wS X RT Y old Z (f Z))):PSs X sts (λD ZV H=>∃RT Z,wS X RT Y old Z (f Z) D ZV H):=λpins s ZV H D I ⟨RT,Z,B⟩=>h RT Z pins s ZV H D I B
end
section
variable {X:Cx} {P:Pg} {Γ:Ct} {n:Nat} {RT Y old:Addr->Prop} {Z:Sg} {pos:EJ}
theorem cE.tkE{Q:L2.St->Hp->Prop}(h:cE X.K RT Y old H Z' Q):cE X.K RT Y old H Z' λZ H=>Tk X.K H->Q Z H:=λB G H' k n S _=>h B G H' k n S
theorem OE.tkE{o:O}{D:Ends}{H:Hp}(h:OE X.K RT Y old H o D):OE X.K RT Y old H o (tkE X.K D):=by
 cases o with
 | next Z'=>exact cE.tkE h|brk Z'=>exact cE.tkE h|cnt Z'=>exact cE.tkE h|ret v=>exact λu B k t r _=>(show nO X.K RT Y old H v D.rt from h) u B k t r|exc x Z'=>exact h|bad=>exact h
theorem aML:PSs X [] (wS X RT Y old Z (exs P (call P n) Z .nil)):=gE aFB λD ZV H t ⟨S,h⟩ _=>(show cE X.K RT Y old H Z D.nx from h) RT ZV H (Kp.refl RT H) aL S
theorem aJB{s:S}{ss:Ss}{x:Cu}{xs:List Cu}(L:∀RT Z,PS X x (wS X RT Y old Z (ex P (call P n) Z s)))(M:∀RT Z,PSs X xs (wS X RT Y old Z (exs P (call P n) Z ss))) :
 PSs X (x::xs) (wS X RT Y old Z (exs P (call P n) Z (.cons s ss))):=by
 refine gE (aCY (L RT Z) (iV M)) λD ZV H t ⟨S,h⟩=>?_;have h:OE X.K RT Y old H ((ex P (call P n) Z s).on λZ'=>exs P (call P n) Z' ss) D:=h;refine⟨S,?_⟩;cases q:ex P (call P n) Z s with
 | next Z'=>rw[q] at h;exact λB I H' k U G=>⟨B,Z',G,(OE.mono k U (show OE X.K RT Y old H (exs P (call P n) Z' ss) D from h)).tkE⟩
 | brk Z'=>rw[q] at h;exact OE.tkE (D:=D) (o:=.brk Z') h|cnt Z'=>rw[q] at h;exact OE.tkE (D:=D) (o:=.cnt Z') h|ret v=>rw[q] at h;exact OE.tkE (D:=D) (o:=.ret v) h|exc e Z'=>rw[q] at h;exact h|bad=>rw[q] at h;exact h
theorem aJC:PS X (.Pass pos) (wS X RT Y old Z (ex P (call P n) Z .pass)):=bC aFC λD ZV H t ⟨S,h⟩ _=>(show cE X.K RT Y old H Z D.nx from h) RT ZV H (Kp.refl RT H) aL S
theorem aMM:PS X (.Break pos) (wS X RT Y old Z (ex P (call P n) Z .brk)):=bC aCZ λD ZV H t ⟨S,h⟩ _=>(show cE X.K RT Y old H Z D.bk from h) RT ZV H (Kp.refl RT H) aL S
theorem aMN:PS X (.Continue pos) (wS X RT Y old Z (ex P (call P n) Z .cnt)):=bC vZ λD ZV H t ⟨S,h⟩ _=>(show cE X.K RT Y old H Z D.ct from h) RT ZV H (Kp.refl RT H) aL S
theorem aMO{st:Cu}{c:Nat}{k:Bool}{es:Es}:PS X st (wS X RT Y old Z (ex P (call P n) Z (.rse c k es))):=bC aDa λD ZV H t ⟨S,h⟩=>by have h:OE X.K RT Y old H (O.from Z (evs P (call P n) Z es) λvs=>.exc (.err c (if k then vs.map (·.d) else [])) Z) D:=h;obtain⟨vs,_,q⟩:=(OE.from h).eq;exact q
theorem aBd(h:exB Y old pa b):exV RT Y old Z ZV pa al b:=.inr h
theorem Ro.rtv(S:Sx X.K RT Y old Z ZV H)(I:Ro X.K RT Y old Z ZV H H' v u):Rtv X.K Y old H' v u:=by unfold Rtv;by_cases B:v.fr=true;rw[if_pos B];obtain⟨s,h⟩:=I;rw[if_pos B] at h;obtain⟨a,xs,ds,L,M,G,U,r⟩:=h;exact⟨a,xs,ds,L,M,λz=>S.trk a (.inr (.inr z)) G.1 G.2,U,r.weak λb z=>z.elim .inl λz=>.inr (aBd z)⟩;rw[if_neg B];exact Rep.weak (I.rv S) λb z=>aBd z
theorem aMP(B:PE X e (WE X P n RT Y old Z c)):PS X (.Return (some e) pos) (wS X RT Y old Z (ex P (call P n) Z (.ret c))):=by
 refine bC (tM B) λD ZV H t ⟨S,h⟩=>?_;have h:=OE.from (show OE X.K RT Y old H (O.from Z (ev P (call P n) Z c) .ret) D from h)
 exact wE.one S h λx u H1 G I L r1 _=>(show nO X.K RT Y old H x D.rt from G) u H1 (Kp.same r1.1) I (.inl (r1.rtv S))
theorem aJD:PS X (.Return none pos) (wS X RT Y old Z (ex P (call P n) Z .retN)):=bC aFD λD ZV H t ⟨S,h⟩ _=>(show nO X.K RT Y old H (.cl .non) D.rt from h) .non H (Kp.refl RT H) t (.inl rfl)
theorem aJE(M:Mc X P Γ n)(U:bG Γ i x=true):PS X (.Return (some (.Name x p)) pos) (wS X RT Y old Z (ex P (call P n) Z (.retv i))):=by
 have L:PE X (.Name x p) (aCV i):=by unfold bG at U;obtain⟨G,B,I⟩:=cL U;exact oN (by rw[M.N];exact eq_of_beq G) (M.vis B) (aM I) (fO I)
 refine bC (tM L) λD ZV H t ⟨S,h⟩=>?_;have h:OE X.K RT Y old H (match Z[i]? with|some (.own pa ds)=>.ret ⟨.lst ds,true,pa,[]⟩|_=>O.from Z (bV Z i) .ret) D:=h;unfold bV at h;cases e:Z[i]? with
 | none=>rw[e] at h;exact h.elim|some sl=>
  rw[e] at h;cases sl with
  | dead=>exact h.elim|lent _=>exact h.elim|dct w=>exact h.elim|own pa ds=>obtain⟨a,xs,G,B,I,W,h5⟩:=S.own i pa ds e;refine⟨.ref a,G,λ_=>(show nO X.K RT Y old H ⟨.lst ds,true,pa,[]⟩ D.rt from h) _ H (Kp.refl RT H) t (.inl ?_)⟩;unfold Rtv;rw[if_pos rfl];exact⟨a,xs,ds,rfl,rfl,W,B,h5.weak λb z=>z.elim (λz=>.inl (by rw[z];exact I)) .inr⟩|sh pa d=>
   obtain⟨v,G,B⟩:=S.sh i pa d e;refine⟨v,G,λ_=>(show nO X.K RT Y old H ⟨d,false,pa&&!noL d,[]⟩ D.rt from h) v H (Kp.refl RT H) t (.inl ?_)⟩;unfold Rtv;rw[if_neg bN];show Rep X.K H (exB Y old (pa&&!noL d)) d v;cases hn:noL d with
   | true=>exact Rep.free d v hn B|false=>refine B.weak λb z=>.inr ?_;rw[Fa,DG] at z;exact z
theorem aPf(G:PE X e (WE X P n RT Y old Z c))(hs:fG e=false):PS X (.Expr e pos) (wS X RT Y old Z (ex P (call P n) Z (.ex c))):=by
 refine bC (iO G (by cases e <;> first|rfl|cases hs)) λD ZV H t ⟨S,h⟩=>?_;have h:=OE.from (show OE X.K RT Y old H (O.from Z (ev P (call P n) Z c) λ_=>.next Z) D from h)
 exact wE.one S h λx u H1 I L B r1 _=>(show cE X.K RT Y old H Z D.nx from I) RT ZV H1 (Kp.same r1.1) aL B
theorem aPg(M:PT X e (WT X P n RT Y old Z c))(I:∀RT Z,PSs X xa (wS X RT Y old Z (exs P (call P n) Z a)))(L:∀RT Z,PSs X xb (wS X RT Y old Z (exs P (call P n) Z b))) :
 PS X (.If e xa xb pos) (wS X RT Y old Z (ex P (call P n) Z (.iff c a b))):=by
 refine bC (aHz M (I RT Z) (L RT Z)) λD ZV H t ⟨S,h⟩=>?_;have h:=OE.from (show OE X.K RT Y old H (O.from Z (tst P (call P n) Z c) λk=>if k=true then exs P (call P n) Z a else exs P (call P n) Z b) D from h)
 refine⟨S,h.mono λk B H1 G s1=>?_⟩;cases k with
 | true=>rw[if_pos rfl] at B ⊢;exact⟨S.grow s1 G,(OE.mono (Kp.same s1) aL B).tkE⟩|false=>rw[if_neg bN] at B ⊢;exact⟨S.grow s1 G,(OE.mono (Kp.same s1) aL B).tkE⟩
theorem uN{v:Vl}{D:Ends}(S:Sx X.K RT Y old Z ZV H)(U:Tk X.K H1)(r1:Ro X.K RT Y old Z ZV H H1 v u)(h:OE X.K RT Y old H (O.from Z (aT (freeze Z v.al) v t) .next) D):gT X.K t u ZV H1 D.nx:=by
 obtain⟨Z2,e,G⟩:=(OE.from h).eq;have G:cE X.K RT Y old H Z2 D.nx:=G;clear h;cases t with
 | n i=>obtain⟨L,W,I⟩:=S.store r1 U i;rw[pO e] at G;exact G L _ H1 (Kp.same r1.1) I W|t is=>
  obtain⟨ds,hd,hl,e'⟩:=pN e;have Sf:=(S.grow r1.1 U).frz v.al;have hr:Rep X.K H1 (λa=>rtF RT Z ZV v.al a\/exB Y old v.pa a) v.d u:=r1.rv S;have B:v.fr=false\/v.fr=true:=by cases v.fr <;> simp
  rcases B with B|B;exact xK Sf B hr e λq0 S2 _=>G _ _ _ (Kp.same r1.1) (λb z=>.inl z.1) S2;have:=r1.2;rw[if_pos B] at this;obtain⟨a,xs,ds',_,M,_⟩:=this;rw[hd] at M;cases M
theorem aJF(M:Mc X P Γ n)(G:aZ Γ i x=true)(L:PE X e (WE X P n RT Y old Z c))(hs:fG e=false):PS X (.Assign [.Name x p] e pos) (wS X RT Y old Z (ex P (call P n) Z (.set (.n i) c))):=by
 unfold aZ at G;obtain⟨I,B,h3⟩:=cL G;refine bC (lV (i:=i) M.nd (by rw[M.N];exact eq_of_beq I) (M.loc B) L (by cases e <;> first|rfl|cases hs) (M.st x B)) λD ZV H t ⟨S,h⟩=>?_;have h:=OE.from (show OE X.K RT Y old H (O.from Z (ev P (call P n) Z c) λv=>O.from Z (aT (freeze Z v.al) v (.n i)) .next) D from h)
 exact wE.one S h λv u H1 U W S1 r1=>uN (t:=.n i) S W r1 (OE.tkE U)
theorem aJG(M:Mc X P Γ n)(I:hU Γ (.t is) (.Tuple es k p)=true)(B:PE X e (WE X P n RT Y old Z c))(hs:oY e=false):PS X (.Assign [.Tuple es k p] e pos) (wS X RT Y old Z (ex P (call P n) Z (.set (.t is) c))):=by
 refine bC (oO B (zZ M I) (by cases e <;> rfl) (by cases e <;> first|rfl|cases hs)) λD ZV H t ⟨S,h⟩=>?_;have h:=OE.from (show OE X.K RT Y old H (O.from Z (ev P (call P n) Z c) λv=>O.from Z (aT (freeze Z v.al) v (.t is)) .next) D from h)
 exact wE.one S h λv u H1 G L U r1=>uN (t:=.t is) S L r1 (OE.tkE G)
theorem aCy{i:Nat}{x:Str}{p G:EJ}(M:Mc X P Γ n)(hx:aZ Γ i x=true){k:Nat}{caps:List Nat}{t:T}{it:Hp.It}{cond:Es}{elt:E}{e tg B:A2}{L:List A2}{scope:Dp}{N':List Str}(CS:cG X scope k caps N')(q1:caps.Nodup)(hk:∀i∈tIx t,i<k)
 (hi:PI X tg B (wI X P n RT Y old Z it))
 (q0:∀C s₀ H₀ ex,PG (cU X scope N' C s₀ H₀ ex) tg (gT X.K t)/\(∀RT Y old Z1,PTs (cU X scope N' C s₀ H₀ ex) L (wTs X P n RT Y old Z1 cond))/\∀RT Y old Z1,PE (cU X scope N' C s₀ H₀ ex) e (WE X P n RT Y old Z1 elt))
 (hs:∀x,Cb B X.env x=pure x):PS X (.Assign [.Name x p] (.ListComp e [⟨tg,B,L,0⟩] scope G) pos) (wS X RT Y old Z (ex P (call P n) Z (.set (.n i) (.comp k caps t it cond elt)))):=by
 unfold aZ at hx;obtain⟨W,U,h3⟩:=cL hx;refine bC (zT (g:=gT X.K t) (tt:=λZV H Q=>∃RT Y old Z1,wTs X P n RT Y old Z1 cond ZV H Q) (te:=λZV H Q=>∃RT Y old Z1,WE X P n RT Y old Z1 elt ZV H Q) CS M.calm hi (λC s₀ H₀ ex=>?_) hs M.nd (by rw[M.N];exact eq_of_beq W) (M.loc U) (M.st x U)) λD ZV H t0 ⟨S,h⟩=>?_;obtain⟨W,U,h3⟩:=q0 C s₀ H₀ ex;exact⟨W,λpins s ZV H Q I ⟨RT,Y,old,Z1,hw⟩=>U RT Y old Z1 pins s ZV H Q I hw,λpins s ZV H Q I ⟨RT,Y,old,Z1,hw⟩=>h3 RT Y old Z1 pins s ZV H Q I hw⟩;have h:=OE.from (show OE X.K RT Y old H (O.from Z (ev P (call P n) Z (.comp k caps t it cond elt)) λv=>O.from Z (aT (freeze Z v.al) v (.n i)) .next) D from h)
 exact aEh (Q:=λv H'=>rK i v ZV H' D.nx) q1 hk ⟨S,h.mono λv hv u H1 t1 r1=>uN (t:=.n i) S t1 r1 hv⟩
def gF(lt:Bool)(pa:Bool)(ds:List D):Sl:=if lt then .lent ds else .own pa ds
theorem Sx.mutH{K:Fg}{ZV:L2.St}{H H':Hp}{B:Addr->Prop}(S:Sx K RT Y old Z ZV H){i:Nat}{lt pa pa':Bool}{ds ds':List D}{a:Addr}{q4:List V}(e:Z[i]? = some (gF lt pa ds))(ha:ZV[i]? = some (some (.ref a)))(h1:∀b,RT b->B b)(h2:∀b,B b->RT b\/H b=none)
 (h3:∀b,B b->RtO H' b) (t:Tk K H') (kp:Kp (λb=>b=a) H H') (hx:H' a=some (.lst q4)) (r:Reps K H' (λb=>B b\/exB Y old (lt||pa') b) ds' q4):Sx K B Y old (Z.set i (gF lt pa' ds')) ZV H':=by
 have hA:(∃xs,H a=some (.lst xs))/\RT a/\(if lt then old a else ¬ old a):=by
  cases lt with
  | true=>obtain⟨b,xs,G,U,g3,g4,_⟩:=S.lx.at' i ds e;rw[ha] at G;cases G;exact⟨⟨xs,U⟩,g3,g4⟩|false=>obtain⟨b,xs,G,U,g3,g4,_⟩:=S.own i pa ds e;rw[ha] at G;cases G;exact⟨⟨xs,U⟩,g3,g4⟩
 obtain⟨⟨xs,q3⟩,W,q0⟩:=hA;have nr:∀b M,¬ RT b->SqL K H b M->¬ B b:=λb M n q z=>by rcases h2 b z with z'|z';exact n z';exact aAZ q ⟨z',t b (h3 b z).ne⟩
 have nd:∀b ks,¬ RT b->H b=some (.dK ks)->¬ B b:=λb ks n q z=>by rcases h2 b z with z'|z';exact n z';rw[z'] at q;cases q
 have kL:∀a',a'=a->RtO H a':=λa' z=>.lst (xs:=xs) (by rw[z];exact q3);have tr:∀{I:Bool} {d:List D} {v:List V},Reps K H (λb=>RT b\/exB Y old I b) d v->Reps K H' (λb=>B b\/exB Y old I b) d v:=λ{I d v} q=>Reps.imp (λb M z=>kp.seqT kL z) (λb M n z=>⟨λw=>w.elim (nr b M (λz=>n (.inl z)) z) λw=>n (.inr w),kp.seqL (λw=>n (.inl (by rw[w];exact W))) z⟩) (λ⟨c,G,U⟩=>⟨c,G,U.elim (λz=>absurd (t c (by obtain⟨zs,hz,_⟩:=h3 c z;rw[hz];simp)) G) .inr⟩) (λb M n z=>kp b _ z λw=>n (.inl (by rw[w];exact W))) (λb ks n z=>⟨λw=>w.elim (nd b ks (λz=>n (.inl z)) z) λw=>n (.inr w),kp b _ z λw=>by rw[w,q3] at z;cases z⟩) d v q;have q8:∀{I:Bool} {d:D} {v:V},Rep K H (λb=>RT b\/exB Y old I b) d v->Rep K H' (λb=>B b\/exB Y old I b) d v:=λ{I d v} q=>Rep.imp (λb M z=>kp.seqT kL z) (λb M n z=>⟨λw=>w.elim (nr b M (λz=>n (.inl z)) z) λw=>n (.inr w),kp.seqL (λw=>n (.inl (by rw[w];exact W))) z⟩) (λ⟨c,G,U⟩=>⟨c,G,U.elim (λz=>absurd (t c (by obtain⟨zs,hz,_⟩:=h3 c z;rw[hz];simp)) G) .inr⟩) (λb M n z=>kp b _ z λw=>n (.inl (by rw[w];exact W))) (λb ks n z=>⟨λw=>w.elim (nd b ks (λz=>n (.inl z)) z) λw=>n (.inr w),kp b _ z λw=>by rw[w,q3] at z;cases z⟩) d v q;have q6:∀b,H b≠none->H' b≠none:=λb z q=>by
  by_cases hb:b=a;rw[hb,hx] at q;cases q;cases o:H b with
  | none=>exact z o|some o'=>rw[kp b o' o hb] at q;cases q
 exact {
  sh:=λj I d q=>by
   rcases set_some q with⟨_,z,_⟩|⟨_,q⟩
   cases lt <;> cases z;obtain⟨v,G,U⟩:=S.sh j I d q;exact⟨v,G,q8 U⟩
  own:=λj I L q=>by
   rcases set_some q with⟨rfl,z,_⟩|⟨q5,q2⟩
   cases lt with
   | true=>cases z|false=>cases z;exact⟨a,q4,ha,hx,h1 a W,q0,r⟩
   obtain⟨b,M,G,U,g3,g4,g5⟩:=S.own j I L q2;have hb:b≠a:=λz=>by
    subst z;cases lt with
    | true=>exact g4 q0|false=>exact q5 (S.inj i j pa I ds L b e q2 ha G)
   exact⟨b,M,G,kp b _ U hb,h1 b g3,g4,tr g5⟩
  trk:=λb z q=>by rcases z with z|z;exact((h3 b z).ne q).elim;exact S.trk b (.inr z) (Bk λy=>q6 b y q)
  yo:=S.yo
  tk:=t
  rt:=h3
  inj:=λj j' I q9 L q7 b q1 q2=>by
   have get:∀{j:Nat} {I:Bool} {L:List D},(Z.set i (gF lt pa' ds'))[j]? = some (.own I L)->∃p2 d2,Z[j]? = some (.own p2 d2):=λ{j I L} q=>by
    rcases set_some q with⟨rfl,z,_⟩|⟨_,q⟩
    cases lt with
    | true=>cases z|false=>exact⟨pa,ds,e⟩
    exact⟨I,L,q⟩
   obtain⟨_,_,z1⟩:=get q1;obtain⟨_,_,z2⟩:=get q2;exact S.inj j j' _ _ _ _ b z1 z2
  len:=by rw[Ax];exact S.len
  lx:={
   at':=λj L q=>by
    rcases set_some q with⟨rfl,z,_⟩|⟨q5,q2⟩
    cases lt with
    | false=>cases z|true=>cases z;exact⟨a,q4,ha,hx,h1 a W,q0,r⟩
    obtain⟨b,M,G,U,g3,g4,g5⟩:=S.lx.at' j L q2;have hb:b≠a:=λz=>by
     subst z;cases lt with
     | false=>exact q0 g4|true=>exact q5 (S.lx.inj i j ds L b e q2 ha G)
    exact⟨b,M,G,kp b _ U hb,h1 b g3,g4,tr g5⟩
   inj:=λj j' L q7 b q1 q2=>by
    have get:∀{j:Nat} {L:List D},(Z.set i (gF lt pa' ds'))[j]? = some (.lent L)->∃d2,Z[j]? = some (.lent d2):=λ{j L} q=>by
     rcases set_some q with⟨rfl,z,_⟩|⟨_,q⟩
     cases lt with
     | false=>cases z|true=>exact⟨ds,e⟩
     exact⟨L,q⟩
    obtain⟨_,z1⟩:=get q1;obtain⟨_,z2⟩:=get q2;exact S.lx.inj j j' _ _ b z1 z2 }
  dx:=S.dx.imp id (λj L q=>by
   rcases set_some q with⟨_,z,_⟩|⟨_,q⟩
   cases lt <;> cases z;exact⟨q,rfl⟩) (λ_ _ _ _ _ _ e=>e) (λb o e n z _=>⟨kp b _ e (λw=>by rw[w,q3] at e;cases e;exact n _ rfl),h1 b z⟩) λb ks z=>kp.seqT kL z }
theorem Sx.mutA{K:Fg}{ZV:L2.St}{H:Hp}(S:Sx K RT Y old Z ZV H){i:Nat}{lt pa pa':Bool}{ds ds':List D}{a:Addr}{B:List V}(e:Z[i]? = some (gF lt pa ds))(W:ZV[i]? = some (some (.ref a)))(r:Reps K H (λb=>RT b\/exB Y old (lt||pa') b) ds' B) :
 Sx K RT Y old (Z.set i (gF lt pa' ds')) ZV (upd H a (.lst B)):=by
 have hA:(∃xs,H a=some (.lst xs))/\RT a:=by
  cases lt with
  | true=>obtain⟨b,xs,G,M,U,_⟩:=S.lx.at' i ds e;rw[W] at G;cases G;exact⟨⟨xs,M⟩,U⟩|false=>obtain⟨b,xs,G,M,U,_⟩:=S.own i pa ds e;rw[W] at G;cases G;exact⟨⟨xs,M⟩,U⟩
 obtain⟨⟨xs,I⟩,q0⟩:=hA;have kp:Kp (λb=>b=a) H (upd H a (.lst B)):=λb o q n=>by rw[upd_ne n];exact q
 refine S.mutH e W (λ_ z=>z) (λ_ z=>.inl z) (λb z=>?_) (λb z=>?_) kp aR (r.kp kp (λb z=>.lst (xs:=xs) (by rw[z];exact I)) λb z=>.inl (by rw[z];exact q0));by_cases L:b=a;rw[L];exact .lst aR;unfold RtO;rw[upd_ne L];exact S.rt b z;by_cases L:b=a;rw[L];exact S.tk a (by rw[I];simp);rw[upd_ne L] at z;exact S.tk b z
theorem Sx.mut{K:Fg}{ZV:L2.St}{H:Hp}(S:Sx K RT Y old Z ZV H){i:Nat}{pa pa':Bool}{ds ds':List D}{a:Addr}{B:List V}(e:Z[i]? = some (.own pa ds))(G:ZV[i]? = some (some (.ref a)))(r:Reps K H (λb=>RT b\/exB Y old pa' b) ds' B) :
 Sx K RT Y old (Z.set i (.own pa' ds')) ZV (upd H a (.lst B)):=S.mutA (lt:=false) e G r
theorem Kp.upd(s:aI H H1)(h:RT a):Kp RT H (upd H1 a (.lst xs)):=λb o e B=>by rw[upd_ne λz=>B (by rw[z];exact h)];exact s b o e
theorem kU(h:fJ Z i=some (pa,ds)):Z[i]? = some (.own pa ds):=by unfold fJ at h;split at h;rename_i q;cases h;exact q;cases h
theorem uO{v:Vl}{f:List D->Option (List D)}{D:Ends}(h:OE X.K RT Y old H (put Z i v f) D):∃pa ds ds',Z[i]? = some (.own pa ds)/\i∉v.al/\f ds=some ds'/\ds'.length<=lim/\cE X.K RT Y old H ((freeze Z v.al).set i (.own (pa||v.pa) ds')) D.nx:=by unfold put at h;split at h;rename_i pa ds q;have q:=eR (kU q);split at h;rename_i ds' G;split at h;rename_i B;exact⟨pa,ds,ds',q.1,q.2,G,B,h⟩;exact h.elim;exact h.elim;exact h.elim
theorem kW(h:exB Y old (pa||pb) b):exB Y old pa b:=h.imp_right λz=>⟨by cases pa <;> simp_all,z.2⟩
theorem uP(h:exB Y old (pa||pb) b):exB Y old pb b:=h.imp_right λz=>⟨by cases pb <;> simp_all,z.2⟩
theorem iW(h:fZ Γ i m c=some xs):∃x p B G,c=.Call (.Attribute (.Name x p) m B) xs [] G/\bG Γ i x=true/\(B.endLine==G.line)=true:=by unfold fZ at h;split at h;rename_i x p a B U G;split at h;rename_i q;obtain⟨I,L,M⟩:=cL q;cases h;have e:a=m:=eq_of_beq I;subst e;exact⟨x,p,B,G,rfl,L,M⟩;cases h;cases h
theorem dG(M:Mc X P Γ n)(G:bG Γ i x=true):PE X (.Name x p) (aCV i):=by unfold bG at G;obtain⟨I,L,B⟩:=cL G;exact oN (by rw[M.N];exact eq_of_beq I) (M.vis L) (aM B) (fO B)
theorem aAc:lim<sizeLine:=by rw[Bf];decide
theorem kX{i:Nat}{al:List Nat}{pa:Bool}{ds:List D}{ZV:L2.St}{H H1:Hp}{b:Addr}{xs:List V}(S:Sx X.K RT Y old Z ZV H)(s1:aI H H1)(U:Z[i]? = some (.own pa ds))(L:ZV[i]? = some (some (.ref b)))(M:H b=some (.lst xs)) :
 Reps X.K H1 (λc=>rtF RT Z ZV al c\/exB Y old pa c) ds xs:=by obtain⟨b',W,B,G,g3,g4,I⟩:=S.own i pa ds U;rw[L] at B;cases B;rw[M] at G;cases G;exact(I.grow s1).weak λc z=>z.elim (λz=>.inl z.1) .inr
theorem kY{i:Nat}{v:Vl}{pa:Bool}{ds ds':List D}{ZV:L2.St}{H H1:Hp}{b:Addr}{G:List V}{Q:L2.St->Hp->Prop}(S:Sx X.K RT Y old Z ZV H)(s1:aI H H1)(t1:Tk X.K H1)(M:Z[i]? = some (.own pa ds))(q2:i∉v.al)(L:ZV[i]? = some (some (.ref b)))
 (r:Reps X.K H1 (λc=>rtF RT Z ZV v.al c\/exB Y old (pa||v.pa) c) ds' G) (B:cE X.K RT Y old H ((freeze Z v.al).set i (.own (pa||v.pa) ds')) Q):Q ZV (upd H1 b (.lst G)):=by
 obtain⟨b',xs,I,g2,W,g4,g5⟩:=S.own i pa ds M;rw[L] at I;cases I;have U:(freeze Z v.al)[i]? = some (.own pa ds):=by rw[dQ,M];simp[q2]
 exact B _ ZV _ (Kp.upd s1 W) (λc z=>.inl z.1) (((S.grow s1 t1).frz v.al).mut U L r)
theorem aEo{v:Vl}(h:Rv X.K RT Y old Z ZV H1 v u):Rep X.K H1 (λc=>rtF RT Z ZV v.al c\/exB Y old (pa||v.pa) c) v.d u:=Rep.weak h λc z=>z.imp id uP
theorem aMQ{i:Nat}{c:E}{e a:A2}(M:Mc X P Γ n)(hc:fZ Γ i "append" e=some [a])(ha:PE X a (WE X P n RT Y old Z c))(L:aK a=true):PS X (.Expr e pos) (wS X RT Y old Z (ex P (call P n) Z (.app i c))):=by
 obtain⟨x,p,ap,cp,rfl,hx,hl⟩:=iW hc;refine bC (iO (aDs CW Fz F0 rQ (dG M hx) (cI ha eQ (aA L)) rfl (by rw[aA L];rfl) hl (aA L) rfl)) λD ZV H t ⟨S,h⟩=>?_;have h:=OE.from (show OE X.K RT Y old H (O.from Z (ev P (call P n) Z c) λv=>put Z i v λds=>some (ds++[v.d])) D from h)
 obtain⟨v,ee,h⟩:=h.eq;obtain⟨pa,ds,ds',U,q2,q3,q4,B⟩:=uO h;cases q3;obtain⟨b,xs,G,I,h3,h4,h5⟩:=S.own i pa ds U;refine⟨.ref b,G,.inl ⟨rfl,xs,SqL.of I⟩,S,?_⟩;rw[ee];intro u H1 t1 r1;have W:=h5.length;refine⟨b,xs,u,rfl,rfl,r1.1 _ _ I,?_,λ_=>?_⟩;rw[lA,B1] at q4;have:=aAc;omega;exact kY S r1.1 t1 U q2 G (((kX S r1.1 U G I).weak λc z=>z.imp id kW).append (.cons (aEo (r1.rv S)) .nil)) B
theorem aMR{i:Nat}{c:E}{e a:A2}(M:Mc X P Γ n)(hc:fZ Γ i "extend" e=some [a])(ha:PE X a (WE X P n RT Y old Z c))(hp:aK a=true):PS X (.Expr e pos) (wS X RT Y old Z (ex P (call P n) Z (.ext i c))):=by
 obtain⟨x,p,ap,cp,rfl,hx,hl⟩:=iW hc;refine bC (iO (aDs CW Fy PySem.F.type_list_extend aGB (dG M hx) (cI ha eQ (aA hp)) rfl (by rw[aA hp];rfl) hl (aA hp) rfl)) λD ZV H t ⟨S,h⟩=>?_;have h:=OE.from (show OE X.K RT Y old H (O.from Z (ev P (call P n) Z c) λv=>(match oW v with|some (v',ds')=>put Z i v' λds=>some (ds++ds')|none=>.bad)) D from h)
 obtain⟨v,ee,h⟩:=h.eq;unfold oW at h;cases hd:v.d with
 | lst es=>
  rw[hd] at h;dsimp only at h;by_cases B:(v.fr||(noLs es&&v.al.isEmpty))=true;rw[if_pos B] at h;obtain⟨pa,ds,ds',q1,q2,q3,q4,L⟩:=uO h;cases q3;obtain⟨b,xs,h1,h2,h3,h4,h5⟩:=S.own i pa ds q1;refine⟨.ref b,h1,.inl ⟨rfl,xs,SqL.of h2⟩,S,?_⟩;rw[ee];intro u H1 t1 r1;have q5:=h5.length;obtain⟨I,G,rfl,e4,rr⟩:∃I G,u=.ref I/\SqL X.K H1 I G/\Reps X.K H1 (λc=>rtF RT Z ZV (if noLs es=true then [] else v.al) c\/exB Y old (v.pa&&!noLs es) c) es G:=by
   cases hf:v.fr with
   | true=>have hr:=r1.2;rw[if_pos hf] at hr;obtain⟨I,G,q6,W,U,e3,e4,r⟩:=hr;rw[hd] at U;cases U;exact⟨I,G,W,SqL.of e4,eH (r.weak λb z=>.inr z)⟩|false=>rw[hf] at B;obtain⟨n1,n2⟩:=cO (show(noLs es&&v.al.isEmpty)=true from B);obtain⟨I,G,W,U,_,r⟩:=(r1.rv S).lst hd;exact⟨I,G,W,U,Reps.free es G n1 r⟩
  have q0:=rr.length;refine⟨b,I,xs,G,rfl,rfl,r1.1 _ _ h2,e4,?_,λ_=>?_⟩;rw[lA] at q4;have:=aAc;omega;exact kY S r1.1 t1 q1 q2 h1 (((kX S r1.1 q1 h1 h2).weak λc z=>z.imp id kW).append (rr.weak λc z=>z.imp id uP)) L;rw[if_neg B] at h;exact h.elim
 | _=>rw[hd] at h;exact h.elim
theorem aGC{i:Nat}{W c:E}{x:Str}{p p2:EJ}{ix v:A2}(M:Mc X P Γ n)(hx:bG Γ i x=true)(hk:PE X ix (WE X P n RT Y old Z W))(he:PE X v (WE X P n RT Y old Z c))(q0:aK ix=true):PS X (.Assign [.Subscript (.Name x p) ix p2] v pos) (wS X RT Y old Z (ex P (call P n) Z (.setIx i W c))):=by
 refine bC (oO he (yU (dG M hx) hk wF (by intro _;cases ix <;> first|rfl|cases q0)) (by cases v <;> rfl) (by cases v <;> rfl)) λD ZV H t ⟨S,h⟩=>?_;have h:=OE.from (show OE X.K RT Y old H (O.from Z (ev P (call P n) Z c) λv=>O.from Z (ev P (call P n) Z W) λkv=>(match kv.d with
  | .int k=>put Z i v λds=>(match ixN ds.length k with|some j=>some (ds.set j v.d)|none=>none)
  | _=>.bad)) D from h)
 refine wE.one S h λv u H1 G t1 S1 r1=>?_;obtain⟨kv,ek,G⟩:=(OE.from G).eq;cases hd:kv.d with
 | int k=>
  rw[hd] at G;obtain⟨pa,ds,ds',q1,q2,L,q4,B⟩:=uO G;obtain⟨b,xs,h1,h2,h3,h4,h5⟩:=S.own i pa ds q1;cases hj:ixN ds.length k with
  | none=>rw[hj] at L;cases L|some j=>rw[hj] at L;cases L;refine⟨.ref b,h1,S1,?_⟩;rw[ek];intro uk H2 t2 U;have I:=h5.length;refine⟨b,xs,k,j,rfl,(U.rv S1).int hd,U.1 _ _ (r1.1 _ _ h2),by rw[<-I,<-mB];exact hj,λ_=>?_⟩;have s2:=r1.1.trans U.1;refine kY S s2 t2 q1 q2 h1 (((kX S s2 q1 h1 h2).weak λc z=>z.imp id kW).set j (aEo ((r1.rv S).grow U.1))) B
 | _=>rw[hd] at G;exact G.elim
theorem xS{k:Option Int}(h:hG Z i k=.ok (v,Z')):∃pa ds j d,Z[i]? = some (.own pa ds)/\ixN ds.length (k.getD (-1))=some j/\ds[j]? = some d/\v=Vl.sub ⟨.non,false,pa,[]⟩ d/\Z'=Z.set i (.own pa (ds.eraseIdx j)):=by
 unfold hG at h;cases q:fJ Z i with
 | none=>rw[q] at h;cases h|some G=>
  obtain⟨pa,ds⟩:=G;rw[q] at h;cases k with
  | none=>
   have h:(match ixN ds.length (-1) with|some j=>(match ds[j]? with|some d=>R.ok (Vl.sub ⟨.non,false,pa,[]⟩ d,Z.set i (.own pa (ds.eraseIdx j)))|none=>.bad)|none=>.bad)=R.ok (v,Z'):=h;cases B:ixN ds.length (-1) with
   | none=>rw[B] at h;cases h|some j=>
    rw[B] at h;have h:(match ds[j]? with|some d=>R.ok (Vl.sub ⟨.non,false,pa,[]⟩ d,Z.set i (.own pa (ds.eraseIdx j)))|none=>.bad)=R.ok (v,Z'):=h;cases hd:ds[j]? with
    | none=>rw[hd] at h;cases h|some d=>rw[hd] at h;cases h;exact⟨pa,ds,j,d,kU q,B,hd,rfl,rfl⟩
  | some k=>
   have h:(match ixN ds.length k with|some j=>(match ds[j]? with|some d=>R.ok (Vl.sub ⟨.non,false,pa,[]⟩ d,Z.set i (.own pa (ds.eraseIdx j)))|none=>.bad)|none=>.bad)=R.ok (v,Z'):=h;cases B:ixN ds.length k with
   | none=>rw[B] at h;cases h|some j=>
    rw[B] at h;have h:(match ds[j]? with|some d=>R.ok (Vl.sub ⟨.non,false,pa,[]⟩ d,Z.set i (.own pa (ds.eraseIdx j)))|none=>.bad)=R.ok (v,Z'):=h;cases hd:ds[j]? with
    | none=>rw[hd] at h;cases h|some d=>rw[hd] at h;cases h;exact⟨pa,ds,j,d,kU q,B,hd,rfl,rfl⟩
theorem aEp{ds:List D}{ZV:L2.St}{xs:List V}(S:Sx X.K RT Y old Z ZV H)(s1:aI H H1)(t1:Tk X.K H1)(q1:Z[i]? = some (.own pa ds))(h1:ZV[i]? = some (some (.ref b)))(h2:H b=some (.lst xs))(hd:ds[j]? = some d) :
 ∃y,xs[j]? = some y/\Kp RT H (upd H1 b (.lst (xs.eraseIdx j)))/\Sx X.K RT Y old (Z.set i (.own pa (ds.eraseIdx j))) ZV (upd H1 b (.lst (xs.eraseIdx j))) /\
  Rep X.K (upd H1 b (.lst (xs.eraseIdx j))) (λa=>RT a\/exB Y old (Vl.sub ⟨.non,false,pa,[]⟩ d).pa a) (Vl.sub ⟨.non,false,pa,[]⟩ d).d y:=by
 have I:=S.grow s1 t1;obtain⟨b',q0,L,M,U,g4,W⟩:=I.own i pa ds q1;rw[h1] at L;cases L;rw[s1 _ _ h2] at M;cases M;obtain⟨y,hy,ry⟩:=W.get hd;refine⟨y,hy,Kp.upd s1 U,I.mut q1 h1 (W.eraseIdx j),?_⟩;have B:Rep X.K (upd H1 b (.lst (xs.eraseIdx j))) (λa=>RT a\/exB Y old pa a) d y:=ry.keep λc o e hl=>by rw[upd_ne λz=>by subst z;rw[s1 _ _ h2] at e;cases e;exact hl (.inl ⟨_,rfl⟩) (.inl U)];exact e
 unfold Vl.sub;by_cases G:noL d=true;rw[if_pos G];exact Rep.free d y G B;rw[if_neg G];exact B
def aGD(X:Cx)(P:Pg)(n:Nat)(RT Y old:Addr->Prop)(Z:Sg)(i:Nat)(k:Option E):TE:=λZV H Q=>Sx X.K RT Y old Z ZV H/\RE (aAI (k.map λe=>ev P (call P n) Z e)) λk=>RE (hG Z i k) λr=>∀u H',Kp RT H H'->Sx X.K RT Y old r.2 ZV H'->Rep X.K H' (λa=>RT a\/exB Y old r.1.pa a) r.1.d u->Q u H'
theorem aEq(M:Mc X P Γ n)(hc:fZ Γ i "pop" e=some []):PE X e (aGD X P n RT Y old Z i none):=by
 obtain⟨x,p,ap,cp,rfl,hx,hl⟩:=iW hc;refine(aIG CW PySem.F.slot_list_pop PySem.F.type_list_pop aIH (dG M hx) rfl hl).imp λZV H Q t ⟨S,h⟩=>?_;obtain⟨⟨v,Z'⟩,ep,h⟩:=(show RE (hG Z i none) _ from h).eq;obtain⟨pa,ds,j,d,W,B,hd,e1,e2⟩:=xS ep;obtain⟨b,xs,L,I,h3,h4,h5⟩:=S.own i pa ds W;obtain⟨y,hy,kp,S2,ry⟩:=aEp S (aI.refl H) t W L I hd;have U:=h5.length;have G:j=xs.length-1:=by unfold ixN at B;rw[Eh,if_neg (by decide)] at B;split at B;have:=An B;omega;cases B
 refine⟨.ref b,L,.inl ⟨rfl,xs,SqL.of I⟩,b,xs,y,rfl,rfl,I,by rw[<-G];exact hy,λ_=>?_⟩;rw[<-fW,<-G];subst e1 e2;exact h y _ kp S2 ry
theorem aJH(G:PE X e (aGD X P n RT Y old Z i k))(hs:fG e=false):PS X (.Expr e pos) (wS X RT Y old Z (ex P (call P n) Z (.pop none i k))):=by
 refine bC (iO G (by cases e <;> first|rfl|cases hs)) λD ZV H t ⟨S,h⟩=>?_;have h:=OE.from (show OE X.K RT Y old H (O.from Z (aAI (k.map λe=>ev P (call P n) Z e)) λk=>O.from Z (hG Z i k) λ(v,Z')=>.next Z') D from h)
 exact⟨S,h.mono λk I=>(OE.from I).mono λr L u H' kp B M _=>(show cE X.K RT Y old H r.2 D.nx from L) RT ZV H' kp aL B⟩
theorem aJI(M:Mc X P Γ n)(L:hU Γ tt tg=true)(he:PE X e (aGD X P n RT Y old Z i k))(hs:fG e=false)(I:oY e=false):PS X (.Assign [tg] e pos) (wS X RT Y old Z (ex P (call P n) Z (.pop (some tt) i k))):=by
 have U:∀(D:Ends) (ZV:L2.St) (H:Hp),wS X RT Y old Z (ex P (call P n) Z (.pop (some tt) i k)) D ZV H->aFF (aGD X P n RT Y old Z i k) (gT X.K tt) D ZV H:=λD ZV H ⟨S,h⟩=>by
  have h:=OE.from (show OE X.K RT Y old H (O.from Z (aAI (k.map λe=>ev P (call P n) Z e)) λk=>O.from Z (hG Z i k) λ(v,Z')=>O.from Z' (aT Z' v tt) .next) D from h)
  refine⟨S,h.mono λk hk=>?_⟩;obtain⟨⟨v,Z'⟩,ep,G⟩:=(OE.from hk).eq;rw[ep];intro u H' kp S2 ry;obtain⟨Z2,e2,G⟩:=(OE.from (show OE X.K RT Y old H (O.from Z' (aT Z' v tt) .next) D from G)).eq;obtain⟨pa,ds,j,d,q1,hj,hd,e3,e4⟩:=xS ep;exact xK S2 (by rw[e3];exact pM) ry e2 λB S3 _=>(show cE X.K RT Y old H Z2 D.nx from G) RT B H' kp aL S3
 refine bC (oO he (zZ M L) (by cases e <;> first|rfl|cases hs) (by
  cases tg with
  | Tuple es k p=>cases e <;> first|rfl|cases I
  | List es p=>cases tt <;> cases L|_=>rfl) (by cases tg <;> first|rfl|(cases tt <;> cases L))) λD ZV H t W=>U _ ZV H ⟨W.1,OE.tkE W.2⟩
theorem Sx.move{K:Fg}{ZV:L2.St}{H:Hp}(S:Sx K RT Y old Z ZV H){i j:Nat}{pa:Bool}{ds:List D}{a:Addr}(e:Z[j]? = some (.own pa ds))(q3:i≠j)(ha:ZV[j]? = some (some (.ref a))):Sx K RT Y old ((Z.set j .dead).set i (.own pa ds)) (ZV.set i (some (.ref a))) H where
 sh:=λk I d q=>by
  rcases set_some q with⟨_,z,_⟩|⟨B,q⟩
  cases z;rcases set_some q with⟨_,z,_⟩|⟨L,q⟩
  cases z;obtain⟨v,M,U⟩:=S.sh k I d q;exact⟨v,by rw[Ah B];exact M,U⟩
 own:=λk I G q=>by
  rcases set_some q with⟨rfl,z,W⟩|⟨B,q⟩
  cases z;obtain⟨b,xs,M,U,g3⟩:=S.own j pa ds e;rw[ha] at M;cases M;rw[Ax] at W;exact⟨a,xs,Ay (by rw[<-S.len];exact W),U,g3⟩;rcases set_some q with⟨_,z,_⟩|⟨L,q⟩
  cases z;obtain⟨b,xs,M,U⟩:=S.own k I G q;exact⟨b,xs,by rw[Ah B];exact M,U⟩
 trk:=S.trk
 yo:=S.yo
 tk:=S.tk
 rt:=S.rt
 inj:=λk k' I q4 G q0 b q1 q2 v1 v2=>by
  have get:∀{k:Nat} {I:Bool} {G:List D},((Z.set j .dead).set i (.own pa ds))[k]? = some (.own I G)->(ZV.set i (some (.ref a)))[k]? = some (some (.ref b))->(k=i/\b=a)\/(k≠i/\k≠j/\Z[k]? = some (.own I G)/\ZV[k]? = some (some (.ref b))):=λ{k I G} q v=>by
   rcases set_some q with⟨rfl,z,W⟩|⟨B,q⟩
   rw[Ax] at W;rw[Ay (by rw[<-S.len];exact W)] at v;cases v;exact .inl ⟨rfl,rfl⟩;rcases set_some q with⟨_,z,_⟩|⟨L,q⟩
   cases z;rw[Ah B] at v;exact .inr ⟨DI B,DI L,q,v⟩
  rcases get q1 v1 with⟨e1,b1⟩|⟨B,m1,o1,w1⟩
  rcases get q2 v2 with⟨e2,_⟩|⟨L,m2,o2,w2⟩
  rw[e1,e2];subst b1;exact absurd (S.inj k' j _ _ _ _ b o2 e w2 ha) m2;rcases get q2 v2 with⟨e2,b2⟩|⟨L,m2,o2,w2⟩
  subst b2;exact absurd (S.inj k j _ _ _ _ b o1 e w1 ha) m1;exact S.inj k k' _ _ _ _ b o1 o2 w1 w2
 len:=by rw[Ax,Ax,Ax];exact S.len
 lx:=S.lx.imp id (λk G q=>by
  rcases set_some q with⟨_,z,_⟩|⟨B,q⟩
  cases z;rcases set_some q with⟨_,z,_⟩|⟨L,q⟩
  cases z;exact⟨q,Ah B⟩) (λ_ _ _ _ _ _ e=>e) (λ_ _ e z _=>⟨e,z⟩) (λ_ _ r=>r)
 dx:=S.dx.imp id (λk G q=>by
  rcases set_some q with⟨_,z,_⟩|⟨B,q⟩
  cases z;rcases set_some q with⟨_,z,_⟩|⟨L,q⟩
  cases z;exact⟨q,Ah B⟩) (λ_ _ _ _ _ _ e=>e) (λ_ _ e _ z _=>⟨e,z⟩) λ_ _ r=>r
theorem aMS(M:Mc X P Γ n)(U:aZ Γ i x=true)(hy:bG Γ j y=true):PS X (.Assign [.Name x p] (.Name y p2) pos) (wS X RT Y old Z (ex P (call P n) Z (.mov i j))):=by
 unfold aZ at U;obtain⟨W,L,h3⟩:=cL U;refine bC (lV (i:=i) M.nd (by rw[M.N];exact eq_of_beq W) (M.loc L) (dG M hy) rfl (M.st x L)) λD ZV H t ⟨S,h⟩=>?_;have h:OE X.K RT Y old H (match Z[j]? with
  | some (.own pa ds)=>if i=j then .bad else .next ((Z.set j .dead).set i (.own pa ds))|some (.sh pa d)=>.next (Z.set i (.sh (pa&&!noL d) d))|_=>.bad) D:=h
 cases e:Z[j]? with
 | none=>rw[e] at h;exact h.elim|some sl=>
  rw[e] at h;cases sl with
  | dead=>exact h.elim|lent _=>exact h.elim|dct _=>exact h.elim|own pa ds=>by_cases B:i=j;have h:OE X.K RT Y old H (if i=j then .bad else .next ((Z.set j .dead).set i (.own pa ds))) D:=h;rw[if_pos B] at h;exact h.elim;have h:OE X.K RT Y old H (if i=j then .bad else .next ((Z.set j .dead).set i (.own pa ds))) D:=h;rw[if_neg B] at h;obtain⟨a,xs,G,I⟩:=S.own j pa ds e;exact⟨.ref a,G,λ_=>(show cE X.K RT Y old H _ D.nx from h) RT _ H (Kp.refl RT H) aL (S.move e B G)⟩|sh pa d=>
   obtain⟨v,G,I⟩:=S.sh j pa d e;refine⟨v,G,λ_=>(show cE X.K RT Y old H (Z.set i (.sh (pa&&!noL d) d)) D.nx from h) RT _ H (Kp.refl RT H) aL (S.setSh ?_)⟩;cases hn:noL d with
   | true=>exact Rep.free d v hn I|false=>rw[Fa,DG];exact I
theorem sP{xs:List Vl×List Nat}{J:L2.It}{D:Ends}(S1:Sx X.K RT Y old Z ZV H1)(k1:Kp RT H H1)(ok:uH X.K RT Y old Z ZV H1 J xs.1 xs.2)
 (hx:OE X.K RT Y old H (cA (λZ x=>O.from Z (aT Z x t) λZ'=>exs P (call P n) Z' b) xs.1 (freeze Z xs.2)) D) :
 ∃W0:Nat->Nat->L2.St->Hp->Prop,(∃m,W0 0 m ZV H1)/\∀i m Z H,W0 i m Z H ->
  (J.stop i H/\D.nx Z H)\/(J.go i H/\∃N:L2.St->Hp->Prop,(∀Z' H',N Z' H'->∃m',m'<m/\W0 (i+1) m' Z' H')/\∀x H',J.yld i H x H'->gT X.K t x Z H' λZ2 H2=>∃RT Z,wS X RT Y old Z (exs P (call P n) Z b) { D with nx:=N,ct:=N,bk:=D.nx } Z2 H2):=by
 let f:Sg->Vl->O:=λZ x=>O.from Z (aT Z x t) λZ'=>exs P (call P n) Z' b
 have hx:OE X.K RT Y old H (cA f xs.1 (freeze Z xs.2)) D:=hx;have Sf:=S1.frz xs.2;refine⟨λi m q4 U=>m=xs.1.length-i/\i<=xs.1.length/\∃B Z1,Kp (rtF RT Z ZV xs.2) H1 U/\(∀b,B b->rtF RT Z ZV xs.2 b\/H1 b=none)/\Sx X.K B Y old Z1 q4 U/\OE X.K B Y old U (cA f (xs.1.drop i) Z1) D,
  ⟨_,rfl,AA _,rtF RT Z ZV xs.2,freeze Z xs.2,Kp.refl _ _,aL,Sf,OE.mono k1 (λb z=>.inl z.1) hx⟩,?_⟩
 rintro i m q4 U ⟨hm,hi,B,Z1,kp,q2,Sc,G⟩;have q5:=ok.ok (rtF RT Z ZV xs.2) (λ_ z=>z) i U kp;by_cases q1:i<xs.1.length;refine .inr ⟨q5.1 q1,λZ' H'=>xs.1.length-(i+1)=xs.1.length-(i+1)/\i+1<=xs.1.length/\∃B Z1,Kp (rtF RT Z ZV xs.2) H1 H'/\(∀b,B b->rtF RT Z ZV xs.2 b\/H1 b=none)/\Sx X.K B Y old Z1 Z' H'/\OE X.K B Y old H' (cA f (xs.1.drop (i+1)) Z1) D,
  λZ' H' hN=>⟨_,by omega,hN⟩,λx H' hy=>?_⟩
 have q8:xs.1[i]? = some xs.1[i]:=Af q1;obtain⟨sm,q9,rv⟩:=q5.2.2 x H' hy xs.1[i] q8;have q3:xs.1[i]∈xs.1:=AO q1;rw[D6 q1] at G;have q6:=Sc.grow sm (q9 Sc.tk);have rep:Rep X.K H' (λa=>B a\/exB Y old xs.1[i].pa a) xs.1[i].d x:=rv.weak λa z=>by rcases z with z|z;rcases q2 a z with q|q;exact .inl (.inl ⟨q.1,λw=>q.2 (w.mono (ok.sub _ q3))⟩);exact .inr ⟨q,Sc.tk a (by obtain⟨zs,hz,_⟩:=Sc.rt a z;rw[hz];simp)⟩;exact .inl (.inr z)
 have G:OE X.K B Y old U (match f Z1 xs.1[i] with
  | .next Z'=>cA f (xs.1.drop (i+1)) Z'|.cnt Z'=>cA f (xs.1.drop (i+1)) Z'|.brk Z'=>.next Z'|o=>o) D:=G
 cases M:aT Z1 xs.1[i] t with
 | exc e=>rw[show f Z1 xs.1[i]=.exc e Z1 by show O.from Z1 (aT Z1 xs.1[i] t) _=_;rw[M];rfl] at G;exact G.elim|bad=>rw[show f Z1 xs.1[i]=.bad by show O.from Z1 (aT Z1 xs.1[i] t) _=_;rw[M];rfl] at G;exact G.elim|ok Z2=>
  rw[show f Z1 xs.1[i]=exs P (call P n) Z2 b by show O.from Z1 (aT Z1 xs.1[i] t) _=_;rw[M];rfl] at G;refine xK q6 (ok.nofr _ q3) rep M λw3 S2 _=>⟨B,Z2,S2,?_⟩
  have kS:Kp B U H':=Kp.same sm;have q0:∀{Z':Sg} {L:Addr->Prop} {W:L2.St} {I:Hp},Kp B H' I->(∀b,L b->B b\/H' b=none)->Sx X.K L Y old Z' W I->OE X.K B Y old U (cA f (xs.1.drop (i+1)) Z') D ->
   (xs.1.length-(i+1)=xs.1.length-(i+1)/\i+1<=xs.1.length/\∃B Z1,Kp (rtF RT Z ZV xs.2) H1 I/\(∀b,B b->rtF RT Z ZV xs.2 b\/H1 b=none)/\Sx X.K B Y old Z1 W I/\OE X.K B Y old I (cA f (xs.1.drop (i+1)) Z1) D):=λ{Z' L W I} k2 s2 S3 h3=>by have k3:Kp B U I:=kS.chain aL k2;have s3:∀b,L b->B b\/U b=none:=eO kS aL s2;exact⟨rfl,q1,L,Z',kp.chain q2 k3,eO kp q2 s3,S3,OE.mono k3 s3 h3⟩
  cases q:exs P (call P n) Z2 b with
  | next Z'=>rw[q] at G;exact λL W I k2 s2 S3=>q0 k2 s2 S3 G|cnt Z'=>rw[q] at G;exact λL W I k2 s2 S3=>q0 k2 s2 S3 G|brk Z'=>rw[q] at G;exact cE.mono kS aL (show cE X.K B Y old U Z' D.nx from G)|ret v=>rw[q] at G;exact OE.mono (o:=.ret v) kS aL G|exc e Z'=>rw[q] at G;exact G.elim|bad=>rw[q] at G;exact G.elim
 have q7:i=xs.1.length:=by omega
 subst q7;rw[D4] at G;exact .inl ⟨q5.2.1 (Ak _),(show cE X.K B Y old U Z1 D.nx from G) B q4 U (Kp.refl _ _) aL Sc⟩
theorem aMT(M:Mc X P Γ n)(B:hU Γ t tg=true)(hi:PI X tg iter (wI X P n RT Y old Z it))(I:∀RT Z,PSs X body (wS X RT Y old Z (exs P (call P n) Z b)))(hs:∀x,Cb iter X.env x=pure x) :
 PS X (.For tg iter body [] pos) (wS X RT Y old Z (ex P (call P n) Z (.for t it b))):=by
 have L:G5 (A1 X.prog X.w) X.A X.env X.xe:=by rw[M.xe];exact FU
 refine bC (aDd L M.calm hi (zZ M B) (iV I) hs) λG ZV H W ⟨S,h⟩=>?_;have h:=OE.tkE h;revert h;generalize tkE X.K G=D;intro h
 let f:Sg->Vl->O:=λZ x=>O.from Z (aT Z x t) λZ'=>exs P (call P n) Z' b
 have h:=OE.from (show OE X.K RT Y old H (O.from Z (walk P (call P n) Z it) λxs=>cA f xs.1 (freeze Z xs.2)) D from h)
 exact⟨S,h.mono λxs B J H1 U s1 ok=>sP (S.grow s1 U) (Kp.same s1) ok B⟩
theorem aMU(M:Mc X P Γ n)(hc:∀RT Z,PT X e (WT X P n RT Y old Z c))(hb:∀RT Z,PSs X body (wS X RT Y old Z (exs P (call P n) Z b))):PS X (.While e body [] pos) (wS X RT Y old Z (ex P (call P n) Z (.whl c b))):=by
 have hp:G5 (A1 X.prog X.w) X.A X.env X.xe:=by rw[M.xe];exact FU
 refine bC (aDc hp (tc:=λZV H Q=>∃RT Z,WT X P n RT Y old Z c ZV H Q) (λpins s ZV H Q I ⟨RT,Z,hw⟩=>hc RT Z pins s ZV H Q I hw) (iV hb)) λD0 ZV H t0 ⟨S,h⟩=>?_;have h:=OE.tkE h;revert h;generalize tkE X.K D0=D;intro h;have h:OE X.K RT Y old H (gY (λZ=>tst P (call P n) Z c) (λZ=>exs P (call P n) Z b) aAH Z) D:=h;refine⟨λm W L=>∃B Z1,Sx X.K B Y old Z1 W L/\OE X.K B Y old L (gY (λZ=>tst P (call P n) Z c) (λZ=>exs P (call P n) Z b) m Z1) D,⟨aAH,RT,Z,S,h⟩,?_⟩;rintro m W L ⟨B,Z1,Sc,ho⟩;cases m with
 | zero=>exact ho.elim|succ m=>
  have ho:=OE.from (show OE X.K B Y old L (O.from Z1 (tst P (call P n) Z1 c) λk=>if k=true then (match exs P (call P n) Z1 b with
   | .next Z'=>gY (λZ=>tst P (call P n) Z c) (λZ=>exs P (call P n) Z b) m Z'|.cnt Z'=>gY (λZ=>tst P (call P n) Z c) (λZ=>exs P (call P n) Z b) m Z'|.brk Z'=>.next Z'|o=>o) else .next Z1) D from ho)
  refine⟨B,Z1,Sc,ho.mono λk G H1 t1 s1=>?_⟩;have S1:=Sc.grow s1 t1;have kS:Kp B L H1:=Kp.same s1;cases k with
  | false=>rw[if_neg bN] at G;exact aII ((show cE X.K B Y old L Z1 D.nx from G) B W H1 kS aL S1)|true=>
   rw[if_pos rfl] at G;refine aLG ⟨λq0 H'=>∃B Z1,Sx X.K B Y old Z1 q0 H'/\OE X.K B Y old H' (gY (λZ=>tst P (call P n) Z c) (λZ=>exs P (call P n) Z b) m Z1) D,λZ' H' hN=>⟨m,Bz m,hN⟩,B,Z1,S1,?_⟩;cases q:exs P (call P n) Z1 b with
   | next Z'=>rw[q] at G;exact λU q0 q1 k2 s2 S3=>⟨U,Z',S3,OE.mono (kS.chain aL k2) (eO kS aL s2) G⟩
   | cnt Z'=>rw[q] at G;exact λU q0 q1 k2 s2 S3=>⟨U,Z',S3,OE.mono (kS.chain aL k2) (eO kS aL s2) G⟩
   | brk Z'=>rw[q] at G;exact cE.mono kS aL (show cE X.K B Y old L Z' D.nx from G)|ret v=>rw[q] at G;exact OE.mono (o:=.ret v) kS aL G|exc e Z'=>rw[q] at G;exact G.elim|bad=>rw[q] at G;exact G.elim
end
section
variable {X:Cx} {P:Pg} {Γ:Ct} {n:Nat} {RT Y old:Addr->Prop} {Z:Sg} {pos:EJ} {l:Nat} {ZV:L2.St} {H H1 H2 H':Hp} {K:Fg}
def KpL(RT:Addr->Prop)(ZV:L2.St)(l:Nat)(H H':Hp):Prop:=Kp (λb=>ZV[l]? = some (some (.ref b))/\RT b) H H'
theorem KpL.kp(h:KpL RT ZV l H H'):Kp RT H H':=λa o e B=>h a o e λz=>B z.2
theorem KpL.trans(a:KpL RT ZV l H H1)(b:KpL RT ZV l H1 H2):KpL RT ZV l H H2:=Kp.trans a b
theorem KpL.same(s:aI H H'):KpL RT ZV l H H':=Kp.same s
theorem Sx.free(S:Sx K RT Y old Z ZV H1)(k:Kp RT H H1){a:Addr}(h:H1 a=none):H a=none:=by
 cases e:H a with
 | none=>rfl|some o=>
  by_cases B:RT a;exact by obtain⟨G,hz,_⟩:=S.rt a B;rw[h] at hz;cases hz
  rw[k a o e B] at h;cases h
def RvL(K:Fg)(RT Y old:Addr->Prop)(H:Hp)(v:Vl)(u:V):Prop:=Rep K H (λb=>RT b\/exB Y old v.pa b) v.d u
theorem RvL.go{v:Vl}{u:V}(h:RvL K RT Y old H v u)(S:Sx K RT Y old Z ZV H)(k:Kp RT H H'):RvL K RT Y old H' v u:=Rep.kp h k S.rt λb z=>.inl z
theorem RvL.nr{v:Vl}{u:V}(h:RvL K RT Y old H v u):Rv K RT Y old Z ZV H v.nr u:=Rep.weak h λb z=>z.imp (·.1) id
def eV(K:Fg)(RT Y old:Addr->Prop)(H:Hp):List Vl->List V->Prop
 | [],us=>us=[]
 | v::vs,us=>∃u r,us=u::r/\RvL K RT Y old H v u/\eV K RT Y old H vs r
theorem eV.length:∀{vs:List Vl} {us:List V},eV K RT Y old H vs us->vs.length=us.length
 | [],_,h=>by rw[show _=[] from h];rfl|v::vs,_,h=>by obtain⟨u,r,e,_,B⟩:=h;subst e;rw[lC,lC,eV.length B]
theorem exB.mono{pa B:Bool}{b:Addr}(h:exB Y old B b)(G:pa=true->B=true):exB Y old pa b:=h.imp_right λz=>⟨by
 cases pa with
 | false=>rfl|true=>rw[G rfl] at z;exact z.1,z.2⟩
theorem eV.reps:∀{vs:List Vl} {us:List V} {pa:Bool},eV K RT Y old H vs us->(∀v∈vs,v.pa=true->pa=true)->Reps K H (λb=>RT b\/exB Y old pa b) (vs.map (·.d)) us
 | [],_,_,h,_=>h|v::vs,_,_,h,q=>by obtain⟨u,r,e,B,G⟩:=h;exact⟨u,r,e,Rep.weak B λb z=>z.imp id λz=>z.mono (q v Ai),eV.reps G λw I=>q w (Ag _ I)⟩
structure RoL (K:Fg) (RT Y old:Addr->Prop) (Z':Sg) (ZV:L2.St) (l:Nat) (H H':Hp) (v:Vl) (u:V):Prop where
 sx:Sx K RT Y old Z' ZV H'
 kp:KpL RT ZV l H H'
 fr:v.fr=true->∃a xs ds,u=.ref a/\v.d=.lst ds/\H a=none/\H' a=some (.lst xs)/\Sx K (λb=>RT b\/b=a) Y old Z' ZV H'/\Reps K H' (λb=>(RT b\/b=a)\/exB Y old v.pa b) ds xs
 rv:RvL K RT Y old H' v u
theorem RoL.from{v:Vl}{u:V}{Z':Sg}(h:RoL K RT Y old Z' ZV l H1 H' v u)(S:Sx K RT Y old Z ZV H1)(k:KpL RT ZV l H H1):RoL K RT Y old Z' ZV l H H' v u:=
 ⟨h.sx,k.trans h.kp,λB=>let ⟨a,xs,ds,e1,e2,e3,q⟩:=h.fr B;⟨a,xs,ds,e1,e2,S.free k.kp e3,q⟩,h.rv⟩
theorem Sx.addR(S:Sx K RT Y old Z ZV H)(s:aI H H')(t:Tk K H'){a:Addr}{xs:List V}(I:H a=none)(B:H' a=some (.lst xs)):Sx K (λb=>RT b\/b=a) Y old Z ZV H':=by
 have G:=t a (by rw[B];simp);have w:∀{pa:Bool} b,(RT b\/b=a)\/exB Y old pa b->b=a\/RT b\/exB Y old pa b:=λ{pa} b z=>by rcases z with(z|z)|z;exact .inr (.inl z);exact .inl z;exact .inr (.inr z)
 exact {
  sh:=λj pa d e=>let ⟨v,h1,h2⟩:=S.sh j pa d e;⟨v,h1,((h2.out I G).grow s).weak w⟩
  own:=λj pa ds e=>let ⟨b,ys,h1,h2,h3,h4,h5⟩:=S.own j pa ds e;⟨b,ys,h1,s _ _ h2,.inl h3,h4,((h5.out I G).grow s).weak w⟩
  trk:=λb z q=>by rcases z with(z|z)|z;exact S.trk b (.inl z) (s.free q);rw[z,B] at q;cases q;exact S.trk b (.inr z) (s.free q)
  yo:=S.yo
  tk:=t
  rt:=λb z=>by rcases z with z|z;exact(S.rt b z).grow s;rw[z];exact .lst B
  inj:=S.inj
  len:=S.len
  lx:=S.lx.imp id (λ_ _ e=>⟨e,rfl⟩) (λ_ _ _ _ _ _ e=>e) (λ_ _ e z _=>⟨s _ _ e,.inl z⟩) (λ_ _ r=>((r.out I G).grow s).weak w)
  dx:=S.dx.imp id (λ_ _ e=>⟨e,rfl⟩) (λ_ _ _ _ _ _ e=>e) (λ_ _ e _ z _=>⟨s _ _ e,.inl z⟩) (λ_ _ r=>aI.seqT s r) }
theorem Sx.putOwn{a:Addr}(S0:Sx K RT Y old Z ZV H)(S:Sx K (λb=>RT b\/b=a) Y old Z ZV H){i:Nat}{pa:Bool}{ds:List D}{xs:List V}(hn:¬ RT a)(ho:¬ old a)(ha:H a=some (.lst xs))(r:Reps K H (λb=>(RT b\/b=a)\/exB Y old pa b) ds xs) :
 Sx K (λb=>RT b\/b=a) Y old (Z.set i (.own pa ds)) (ZV.set i (some (.ref a))) H where
 sh:=λj pa' d' e=>by
  rcases set_some e with⟨rfl,e,W⟩|⟨B,e⟩
  cases e;obtain⟨v,L,U⟩:=S.sh j pa' d' e;exact⟨v,by rw[Ah B];exact L,U⟩
 own:=λj pa' ds' e=>by
  rcases set_some e with⟨rfl,e,W⟩|⟨B,e⟩
  cases e;exact⟨a,xs,Ay (by rw[<-S.len];exact W),ha,.inr rfl,ho,r⟩;obtain⟨b,ys,L,U⟩:=S.own j pa' ds' e;exact⟨b,ys,by rw[Ah B];exact L,U⟩
 trk:=S.trk
 yo:=S.yo
 tk:=S.tk
 rt:=S.rt
 inj:=λj j' pa' q0 q1 q2 c I G e3 M=>by
  have fr:∀{j:Nat} {pa:Bool} {ds:List D},Z[j]? = some (.own pa ds)->ZV[j]? = some (some (.ref a))->False:=λ{j pa ds} e q=>by obtain⟨a',q3,L,U,h3,_⟩:=S0.own j pa ds e;rw[q] at L;cases L;exact hn h3
  rcases set_some I with⟨rfl,e,W⟩|⟨n1,I⟩
  rcases set_some G with⟨rfl,_,_⟩|⟨n2,G⟩
  rfl;rw[Ay (by rw[<-S.len];exact W)] at e3;cases e3;rw[Ah n2] at M;exact(fr G M).elim;rw[Ah n1] at e3;rcases set_some G with⟨rfl,e,W⟩|⟨n2,G⟩
  rw[Ay (by rw[<-S.len];exact W)] at M;cases M;exact(fr I e3).elim;rw[Ah n2] at M;exact S.inj j j' pa' q0 q1 q2 c I G e3 M
 len:=by rw[Ax,Ax];exact S.len
 lx:={
  at':=λj ds e=>by
   rcases set_some e with⟨_,z,_⟩|⟨B,e⟩
   cases z;rw[Ah B];exact S.lx.at' j ds e
  inj:=λj j' ds ds' b I G=>by
   rcases set_some I with⟨_,z,_⟩|⟨L,I⟩
   cases z;rcases set_some G with⟨_,z,_⟩|⟨U,G⟩
   cases z;rw[Ah L,Ah U];exact S.lx.inj j j' ds ds' b I G }
 dx:=S.dx.imp id (λj ds e=>by
  rcases set_some e with⟨_,z,_⟩|⟨B,e⟩
  cases z;exact⟨e,Ah B⟩) (λ_ _ _ _ _ _ e=>e) (λ_ _ e _ z _=>⟨e,z⟩) λ_ _ r=>r
theorem isEmpty_nil{al:List Nat}(h:al.isEmpty=true):al=[]:=by
 cases al with
 | nil=>rfl|cons _ _=>cases h
theorem uQ{x:Vl}{u:V}(S:Sx K RT Y old Z ZV H)(t:Tk K H1)(B:x.al=[])(r:Ro K RT Y old Z ZV H H1 x u):RoL K RT Y old Z ZV l H H1 x u where
 sx:=S.grow r.1 t
 kp:=KpL.same r.1
 fr:=λW=>by have q:=r.2;rw[if_pos W] at q;obtain⟨a,xs,ds,M,U,I,L,rr⟩:=q;refine⟨a,xs,ds,M,U,I.1,L,S.addR r.1 t I.1 L,rr.weak λb z=>?_⟩;rcases z with(z|z)|z;refine .inr (.inl ⟨z,λ⟨j,G,_⟩=>?_⟩);rw[B] at G;cases G;exact .inl z;exact .inr (.inr z)
 rv:=Rep.weak (r.rv S) λb z=>by rcases z with z|z;refine .inl ⟨z,λ⟨j,G,_⟩=>?_⟩;rw[B] at G;cases G;exact .inr z
theorem RE.noAl{v:Vl}{Z:Sg}{p:Vl×Sg->Prop}(h:RE (noAl v Z) p):v.al=[]/\p (v,Z):=by unfold Hp.noAl at h;split at h;rename_i q;exact⟨isEmpty_nil q,h⟩;exact h.elim
def WL(X:Cx)(P:Pg)(n:Nat)(RT Y old:Addr->Prop)(l:Nat)(Z:Sg)(c:EL):TE:=λZV H Q=>Sx X.K RT Y old Z ZV H/\RE (evl P (call P n) l Z c) λr=>∀u H',Tk X.K H'->RoL X.K RT Y old r.2 ZV l H H' r.1 u->Q u H'
def WLs(X:Cx)(P:Pg)(n:Nat)(RT Y old:Addr->Prop)(l:Nat)(Z:Sg)(cs:ELs):TA:=λZV H Q=>Sx X.K RT Y old Z ZV H/\RE (evls' P (call P n) l Z cs) λr=>∀us H',Tk X.K H'->Sx X.K RT Y old r.2 ZV H'->KpL RT ZV l H H'->eV X.K RT Y old H' r.1 us->Q us H'
theorem mO{G:Type}{e:A2}{t:G->TE}(h:∀i,PE X e (t i)):PE X e (λZV H Q=>∃i,t i ZV H Q):=λpins s ZV H Q I ⟨i,B⟩=>h i pins s ZV H Q I B
theorem aJJ{G:Type}{es:List A2}{t:G->TA}(h:∀i,PA X es (t i)):PA X es (λZV H Q=>∃i,t i ZV H Q):=λpos pins s ZV H Q I ⟨i,B⟩=>h i pos pins s ZV H Q I B
theorem l_e{a:E}{e:A2}(I:PE X e (WE X P n RT Y old Z a)):PE X e (WL X P n RT Y old l Z (.e a)):=I.imp λZV H Q t ⟨S,h⟩=>by have h:=RE.bind' (show RE (ev P (call P n) Z a >>= λx=>noAl x Z) _ from h);refine wE.one S h λx u H1 G L M r1 t'=>?_;obtain⟨B,G⟩:=RE.noAl G;exact G u H1 t' (uQ S L B r1)
theorem aPh{o:Operator}{a b:EL}{U W:A2}(ha:PE X U (WL X P n RT Y old l Z a))(hb:∀Z,PE X W (WL X P n RT Y old l Z b)):PE X (.BinOp U o W pos) (WL X P n RT Y old l Z (.op o a b)):=by
 intro pins s ZV H Q I hw;obtain⟨S,h⟩:=hw;have h:=RE.bind' (show RE (evl P (call P n) l Z a >>= λx=>evl P (call P n) l x.2 b >>= λy=>opD o x.1.nr y.1.nr >>= λz=>noAl z y.2) _ from h);refine Kt (thn (ha pins s ZV H (λux H1=>∃x,RoL X.K RT Y old x.2 ZV l H H1 x.1 ux/\RE (evl P (call P n) l x.2 b) λy=>RE (opD o x.1.nr y.1.nr >>= λz=>noAl z y.2) λr=>∀u H',Tk X.K H'->RoL X.K RT Y old r.2 ZV l H H' r.1 u->Q u H') I
  ⟨S,h.mono λx L u H1 t1 r1=>⟨x,r1,RE.bind' L⟩⟩) λv s1 ⟨x',H1,I1,rx,x,r1,L⟩=>thn (hb x.2 pins s1 ZV H1 (λuy H2=>∃y,RoL X.K RT Y old y.2 ZV l H1 H2 y.1 uy/\RE (opD o x.1.nr y.1.nr >>= λz=>noAl z y.2) λr=>∀u H',Tk X.K H'->RoL X.K RT Y old r.2 ZV l H H' r.1 u->Q u H') I1
  ⟨r1.sx,L.mono λy M u H2 t2 B=>⟨y,B,M⟩⟩) λu s2 ⟨y',H2,I2,ry,y,B,M⟩=>?_)
 refine wV I2 B.sx rx ry (x:=x.1.nr) (y:=y.1.nr) (r1.rv.go r1.sx B.kp.kp).nr B.rv.nr (λz=>by cases z) ((RE.bind' M).mono λz hz u H' t r=>?_);obtain⟨G,hz⟩:=RE.noAl hz;exact hz u H' t ((uQ B.sx t G r).from B.sx (r1.kp.trans B.kp))
theorem aMV{a b:EL}{L G:A2}(M:PE X L (WL X P n RT Y old l Z a))(U:∀Z,PE X G (WL X P n RT Y old l Z b))(W:aK G=true):PE X (.Subscript L G pos) (WL X P n RT Y old l Z (.idx a b)):=by refine(aDp zE M (mO U) (jR W)).imp λZV H Q t ⟨S,h⟩=>?_;have h:=RE.bind' (show RE (evl P (call P n) l Z a >>= λx=>evl P (call P n) l x.2 b >>= λy=>bH x.1.nr y.1.nr >>= λz=>noAl z y.2) _ from h);refine⟨S,h.mono λx hx u H1 t1 r1=>⟨x.2,r1.sx,(RE.bind' hx).mono λy hy uy H2 t2 B=>?_⟩⟩;refine sF (Z:=y.2) (ZV:=ZV) (RT:=RT) (Y:=Y) (old:=old) t2 (x:=x.1.nr) (y:=y.1.nr) (r1.rv.go r1.sx B.kp.kp).nr B.rv.nr ((RE.bind' hy).mono λz hz u H' t r=>?_);obtain⟨I,hz⟩:=RE.noAl hz;exact hz u H' t ((uQ B.sx t I r).from B.sx (r1.kp.trans B.kp))
theorem aMW:PA X [] (WLs X P n RT Y old l Z .nil):=eQ.imp λZV H Q t ⟨S,h⟩ t'=>(show ∀us H',Tk X.K H'->Sx X.K RT Y old Z ZV H'->KpL RT ZV l H H'->eV X.K RT Y old H' [] us->Q us H' from h) [] H t' S (KpL.same (aI.refl H)) rfl
theorem aJK{c:EL}{cs:ELs}{e:A2}{es:List A2}(L:PE X e (WL X P n RT Y old l Z c))(B:∀Z,PA X es (WLs X P n RT Y old l Z cs))(M:aK e=true):PA X (e::es) (WLs X P n RT Y old l Z (.cons c cs)):=by refine(cI L (aJJ B) (aA M)).imp λZV H Q t ⟨S,h⟩=>?_;have h:=RE.bind' (show RE (evl P (call P n) l Z c >>= λx=>evls' P (call P n) l x.2 cs >>= λr=>R.ok (x.1::r.1,r.2)) _ from h);refine⟨S,h.mono λx U u H1 t1 r1=>⟨x.2,r1.sx,(RE.bind' U).mono λr B us H2 t2 I G W t'=>?_⟩⟩;exact(show ∀us H',Tk X.K H'->Sx X.K RT Y old r.2 ZV H'->KpL RT ZV l H H'->eV X.K RT Y old H' (x.1::r.1) us->Q us H' from B) (u::us) H2 t' I (r1.kp.trans G) ⟨u,us,rfl,r1.rv.go r1.sx G.kp,W⟩
theorem sQ:∀{cs:ELs} {es:List A2} {Z:Sg} {r:List Vl×Sg},chkELs Γ l cs es=true->evls' P (call P n) l Z cs=.ok r->r.1.length=es.length
 | .nil,[],Z,r,_,h=>by cases(show R.ok ([],Z)=R.ok r from h);rfl|.nil,_::_,_,_,h,_=>by cases h|.cons _ _,[],_,_,h,_=>by cases h|.cons c cs,e::es,Z,r,B,h=>by simp only[chkELs,bA] at B;obtain⟨x,_,h⟩:=R.bind_ok (show(evl P (call P n) l Z c >>= λx=>evls' P (call P n) l x.2 cs >>= λr=>R.ok (x.1::r.1,r.2))=R.ok r from h);obtain⟨q,G,h⟩:=R.bind_ok h;cases(show R.ok (x.1::q.1,q.2)=R.ok r from h);rw[lC,lC,sQ B.2 G]
theorem aMX{cs:ELs}{es:List A2}{k:Nat}(M:PA X es (WLs X P n RT Y old l Z cs))(U:chkELs Γ l cs es=true)(hl:es.length<=1000):PE X (.Tuple es k pos) (WL X P n RT Y old l Z (.tup cs)):=by
 refine(aDj M).imp λZV H Q t ⟨S,h⟩=>?_;obtain⟨r,e,G⟩:=(RE.bind' (show RE (evls' P (call P n) l Z cs >>= λr=>R.ok ((⟨.tup (r.1.map (·.d)),false,aU r.1,[]⟩:Vl),r.2)) _ from h)).eq;refine⟨S,?_⟩;rw[e];intro us H1 t1 L k1 I;have W:us.length<=sizeLine:=by rw[<-I.length,sQ U e,Bf];omega
 refine⟨W,λp B t'=>(show ∀u H',Tk X.K H'->RoL X.K RT Y old r.2 ZV l H H' (⟨.tup (r.1.map (·.d)),false,aU r.1,[]⟩:Vl) u->Q u H' from G) _ _ t' ⟨L.grow (aI.new B) t',k1.trans (KpL.same (aI.new B)),(λz=>by cases z),?_⟩⟩;exact⟨p,us,rfl,SqT.of aR,(I.reps λv G z=>fN G z).grow (aI.new B)⟩
theorem aGE{Z':Sg}{vs:List Vl}{us:List V}{p:Addr}(S:Sx K RT Y old Z ZV H)(G:Sx K RT Y old Z' ZV H1)(L:KpL RT ZV l H H1)(U:eV K RT Y old H1 vs us)(B:H1 p=none)(t':Tk K (upd H1 p (.lst us))):RoL K RT Y old Z' ZV l H (upd H1 p (.lst us)) ⟨.lst (vs.map (·.d)),true,aU vs,[]⟩ (.ref p):=by
 have sn:aI H1 (upd H1 p (.lst us)):=aI.new B;have I:=t' p (by rw[aR];simp);have rr:Reps K (upd H1 p (.lst us)) (λb=>(RT b\/b=p)\/exB Y old (aU vs) b) (vs.map (·.d)) us:=(((U.reps (pa:=aU vs) λv M z=>fN M z).out B I).grow sn).weak λb z=>by rcases z with(z|z)|z;exact .inr (.inl z);exact .inl z;exact .inr (.inr z)
 refine⟨G.grow sn t',L.trans (KpL.same sn),λ_=>⟨p,us,_,rfl,rfl,G.free L.kp B,aR,G.addR sn t' B aR,rr⟩,p,us,rfl,SqL.of aR,⟨λz=>?_,λ_=>aR⟩,rr.weak λb z=>z.imp .inl id⟩;refine G.trk p (z.imp id λz=>?_) B I;rcases z with z|⟨_,z⟩
 exact .inl z;exact .inr z
theorem oE{pa:Bool}{cs:List D}(S:Sx K RT Y old Z ZV H)(h:bK Z l=some (pa,cs)):∃(lt:Bool) (p:Addr) (xs:List V),Z[l]? = some (gF lt pa cs)/\ZV[l]? = some (some (.ref p))/\H p=some (.lst xs)/\RT p/\Reps K H (λb=>RT b\/exB Y old pa b) cs xs/\∀pa' B,bZ Z l pa' B=Z.set l (gF lt pa' B):=by
 unfold bK at h;cases e:Z[l]? with
 | none=>rw[e] at h;cases h|some sl=>
  rw[e] at h;cases sl with
  | own pa' ds'=>cases h;obtain⟨p,xs,G,I,L,U,M⟩:=S.own l pa cs e;exact⟨false,p,xs,rfl,G,I,L,M,λpa' B=>by unfold bZ;rw[e];rfl⟩|lent ds'=>cases h;obtain⟨p,xs,G,I,L,U,M⟩:=S.lx.at' l cs e;exact⟨true,p,xs,rfl,G,I,L,M,λpa' B=>by unfold bZ;rw[e];rfl⟩|_=>cases h
theorem aJL(M:Mc X P Γ n){f:Nat}{es:ELs}{g x:Str}{p p1:EJ}{ys:List A2}(I:Γ.fns[f]? = some g)(hg:bT Γ g=true)(ho:bO g=true)(hx:bG Γ l x=true)(ha:PA X ys (WLs X P n RT Y old l Z es))(hp:ys.all aK=true) :
 PE X (.Call (.Name g p) (.Name x p1::ys) [] pos) (WL X P n RT Y old l Z (.call f es)):=by
 obtain⟨fa,fd,ps,h1,h2,h3,h4⟩:=M.md.fn f g I;refine(kB h4 M.room (M.gl hg) h1 h2 h3 .nil rS (cI (dG M hx) ha (aA rfl)) (aM ho) (aA rfl) (bP hp)).imp λZV H Q t ⟨S,h⟩=>?_;obtain⟨hc,h⟩:=(show RE (R.iff ((bK Z l).isSome&&nG P f) (evls' P (call P n) l Z es >>= λr=>(match bK r.2 l with
  | some (pa,cs)=>call P n f (.err 0 cs::r.1.map (·.d)) >>= λq=>fX r.2 l pa r.1 q|none=>.bad))) _ from h).iff
 rw[bA] at hc;obtain⟨r,er,h⟩:=(RE.bind' h).eq;obtain⟨⟨q7,q5⟩,e0⟩:=DD.mp hc.1;obtain⟨_,q,_,_,hq,_⟩:=oE S e0;refine⟨.ref q,hq,S,?_⟩;rw[er];intro us H1 t1 G k1 rs;cases e1:bK r.2 l with
 | none=>rw[e1] at h;exact h.elim|some pc=>
  obtain⟨pa,cs⟩:=pc;rw[e1] at h;obtain⟨rt,ec,h⟩:=(RE.bind' (show RE (call P n f (.err 0 cs::r.1.map (·.d)) >>= λq=>fX r.2 l pa r.1 q) _ from h)).eq;obtain⟨lt,p',xs,g1,g2,g3,g4,g5,g6⟩:=oE G e1;rw[hq] at g2;cases g2;have B:∀b,RT b\/exB Y old (pa||aU r.1) b->b=q\/(Od X.K H1 b/\b≠q/\(RT b\/exB Y old (pa||aU r.1) b)):=λb z=>by
   by_cases hb:b=q;exact .inl hb;refine .inr ⟨G.trk b ?_,hb,z⟩;rcases z with z|z|⟨_,z⟩
   exact .inl z;exact .inr (.inl z);exact .inr (.inr z)
  have q4:∀b,b=q\/(Od X.K H1 b/\b≠q/\(RT b\/exB Y old (pa||aU r.1) b))->RT b\/exB Y old (pa||aU r.1) b:=λb z=>z.elim (λz=>.inl (by rw[z];exact g4)) λz=>z.2.2;refine .inr (.inl ⟨hc.2,cs,r.1.map (·.d),q,xs,us,λb=>Od X.K H1 b/\b≠q/\(RT b\/exB Y old (pa||aU r.1) b),by rw[AH],λa z=>z.1,g3,g5.weak λb z=>(q4 b z).imp id kW,
   (rs.reps (pa:=pa||aU r.1) λv L z=>by rw[fN L z,C8]).weak q4,?_⟩)
  rw[ec];unfold fX at h;cases eu:aDy rt.1 with
  | none=>rw[eu] at h;exact h.elim|some dc=>
   obtain⟨d,U⟩:=dc;rw[eu] at h;refine⟨d,U,eu,λu H' R2 q8 t' kp hR q6 W rr L _=>?_⟩;have h:∀u H',Tk X.K H'->RoL X.K RT Y old (bZ r.2 l (pa||aU r.1) U) ZV l H H' (⟨d,rt.2.1,rt.2.2&&(pa||aU r.1),[]⟩:Vl) u->Q u H':=h;rw[g6] at h;have kL:KpL RT ZV l H1 H':=λb o e z=>kp b o e λw=>z (by rw[w];exact⟨hq,g4⟩);have out:∀b,RT b\/exB Y old (rt.2.2&&(pa||aU r.1)) b->R2 b\/(Od X.K H1 b/\b≠q/\(RT b\/exB Y old (pa||aU r.1) b))\/(rt.2.2=false/\Od X.K H1 b):=λb z=>by
    cases q3:rt.2.2 with
    | true=>rw[q3,J9] at z;exact(B b z).elim (λw=>.inl (by rw[w];exact hR)) λw=>.inr (.inl w)|false=>
     rw[q3,Gh] at z;rcases z with z|z;exact(B b (.inl z)).elim (λw=>.inl (by rw[w];exact hR)) λw=>.inr (.inl w);refine .inr (.inr ⟨rfl,G.trk b (.inr ?_)⟩);rcases z with z|⟨_,z⟩
     exact .inl z;exact .inr z
   have q2:∀{b},exB Y old (lt||(pa||aU r.1)) b->exB Y old (pa||aU r.1) b:=λ{b} z=>z.mono λw=>by rw[w,C8]
   have S0:Sx X.K RT Y old (r.2.set l (gF lt (pa||aU r.1) U)) ZV H':=by refine G.mutH g1 hq (λ_ z=>z) (λ_ z=>.inl z) (λb z=>?_) t' kp W (rr.weak λb z=>?_);by_cases hb:b=q;exact .lst (by rw[hb];exact W);obtain⟨zs,hz,m⟩:=G.rt b z;exact⟨zs,kp b _ hz hb,m⟩;exact(B b (z.imp id q2)).imp (λw=>by rw[w];exact hR) id
   refine h u H' t' ⟨S0,k1.trans kL,λI=>?_,?_⟩;have I:rt.2.1=true:=I;rw[if_pos I] at L;obtain⟨a,q0,q1,v1,v2,v3,v4,v5,v6⟩:=L;refine⟨a,q0,q1,v1,v2,G.free k1.kp v3.1,v5,?_,v6.weak λb z=>?_⟩;refine G.mutH g1 hq (λ_ z=>.inl z) (λb z=>z.imp id λz=>by rw[z];exact v3.1) (λb z=>?_) t' kp W (rr.weak λb z=>?_);rcases z with z|z;exact S0.rt b z;rw[z];exact .lst v5;rcases z with(z|z)|z;exact(B b (.inl z)).imp (λw=>by rw[w];exact hR) id;exact .inl (by rw[z];exact v4);exact(B b (.inr (q2 z))).imp (λw=>by rw[w];exact hR) id;rcases z with(z|z)|z;exact out b (.inl z);exact .inl (by rw[z];exact v4);exact out b (.inr z);by_cases I:rt.2.1=true;rw[if_pos I] at L;obtain⟨a,q0,q1,v1,v2,v3,v4,v5,v6⟩:=L;show Rep X.K H' (λb=>RT b\/exB Y old (rt.2.2&&(pa||aU r.1)) b) d u;rw[v1,v2];refine⟨a,q0,rfl,SqL.of v5,⟨λz=>?_,λ_=>v5⟩,v6.weak out⟩;exact G.trk a (z.imp id λz=>z.elim .inl λz=>.inr z.2) v3.1 v3.2;rw[if_neg I] at L;exact Rep.weak L out
theorem aGF(M:Mc X P Γ n){f:Nat}{es:ELs}{g:Str}{p:EJ}{B:List A2}(hf:Γ.fns[f]? = some g)(hg:bT Γ g=true)(ho:bO g=true)(hy:B.isEmpty=false)(ha:PA X B (WLs X P n RT Y old l Z es))(hp:B.all aK=true) :
 PE X (.Call (.Name g p) B [] pos) (WL X P n RT Y old l Z (.pcall f es)):=by
 obtain⟨fa,fd,ps,W,h2,h3,h4⟩:=M.md.fn f g hf;cases B with
 | nil=>cases hy|cons e B=>
  have G:aK e=true/\B.all aK=true:=by simpa using hp
  refine(kB h4 M.room (M.gl hg) W h2 h3 .nil rS ha (aM ho) (aA G.1) (bP G.2)).imp λZV H Q t ⟨S,h⟩=>?_;obtain⟨r,U,h⟩:=(RE.bind' (show RE (evls' P (call P n) l Z es >>= λr=>call P n f (r.1.map (·.d)) >>= λq=>noAl (cS r.1 q) r.2) _ from h)).eq;refine⟨S,?_⟩;rw[U];intro us H1 t1 I k1 rs;refine .inl ⟨r.1.map (·.d),λb=>Od X.K H1 b/\exV RT Y old r.2 ZV (aU r.1) (bR r.1) b,λa z=>z.1,by rw[AH];exact(rs.reps (pa:=aU r.1) λv hv z=>fN hv z).weak λa z=>z.2.imp (·.1) id,(RE.bind' h).mono λq hq u H' t' s' rr _=>?_⟩;obtain⟨L,hz⟩:=RE.noAl hq;exact hz u H' t' ((uQ I t' L (uG I (aI.refl H1) s' rr)).from I k1)
theorem Sx.reV{K:Fg}{ZV B:L2.St}{H:Hp}(S:Sx K RT Y old Z ZV H)(hl:B.length=ZV.length)(h:∀(j:Nat) (s:Sl),Z[j]? = some s->s=.dead\/B[j]? = ZV[j]?):Sx K RT Y old Z B H where
 sh:=λj pa d e=>by rcases h j _ e with z|z;cases z;rw[z];exact S.sh j pa d e
 own:=λj pa d e=>by rcases h j _ e with z|z;cases z;rw[z];exact S.own j pa d e
 trk:=S.trk
 yo:=S.yo
 tk:=S.tk
 rt:=S.rt
 inj:=λU W pa pa' ds ds' a G I L M=>by rcases h U _ G with z|z1;cases z;rcases h W _ I with z|z2;cases z;rw[z1] at L;rw[z2] at M;exact S.inj U W pa pa' ds ds' a G I L M
 len:=by rw[hl];exact S.len
 lx:=S.lx.imp id (λj ds e=>(h j _ e).elim (λz=>by cases z) λz=>⟨e,z⟩) (λ_ _ _ _ _ _ e=>e) (λ_ _ e z _=>⟨e,z⟩) (λ_ _ r=>r)
 dx:=S.dx.imp id (λj ds e=>(h j _ e).elim (λz=>by cases z) λz=>⟨e,z⟩) (λ_ _ _ _ _ _ e=>e) (λ_ _ e _ z _=>⟨e,z⟩) λ_ _ r=>r
theorem uR{f:Sg->Vl->R (Vl×Sg)}{x:Vl}{xs B:List Vl}{Z Z':Sg}(h:dE f (x::xs) Z=.ok (B,Z')):∃y r,f Z x=.ok y/\dE f xs y.2=.ok (r,Z')/\B=y.1::r:=by obtain⟨y,G,h⟩:=R.bind_ok (show(f Z x >>= λy=>dE f xs y.2 >>= λr=>R.ok (y.1::r.1,r.2))=R.ok (B,Z') from h);obtain⟨r,I,h⟩:=R.bind_ok h;cases(show R.ok (y.1::r.1,r.2)=R.ok (B,Z') from h);exact⟨y,r.1,G,I,rfl⟩
theorem eV.snoc{K:Fg}{H:Hp}{v:Vl}{u:V}(B:RvL K RT Y old H v u):∀{vs:List Vl} {us:List V},eV K RT Y old H vs us->eV K RT Y old H (vs++[v]) (us++[u])
 | [],_,h=>by rw[show _=[] from h];exact⟨u,[],rfl,B,rfl⟩|w::vs,_,h=>by obtain⟨x,r,e,G,I⟩:=h;subst e;exact⟨x,r++[u],rfl,G,eV.snoc B I⟩
theorem eV.go{K:Fg}{ZV:L2.St}{H H':Hp}(S:Sx K RT Y old Z ZV H)(k:Kp RT H H'):∀{vs:List Vl} {us:List V},eV K RT Y old H vs us->eV K RT Y old H' vs us
 | [],_,h=>h|v::vs,_,h=>by obtain⟨u,r,e,B,G⟩:=h;exact⟨u,r,e,B.go S k,eV.go S k G⟩
theorem aGG{K:Fg}{ZV:L2.St}{H:Hp}(j:Int):uH K RT Y old Z ZV H (Itr 0 j.toNat) ((bX 0 j).map .cl) []:=by refine uI (lo:=0) (m:=j.toNat) ?_;rw[gD];simp
theorem aJM(M:Mc X P Γ n){k l':Nat}{caps:List Nat}{t:T}{c elt:EL}{e tg en:A2}{f:Str}{p p2:EJ}{scope:Dp}{N':List Str}(CS:cG X scope k caps N')(z7:caps.Nodup)(hk:∀i∈tIx t,i<k)(z4:k<=l')(z0:caps[l'-k]? = some l)
 (hf:f=("range" : Str)) (hg:bT Γ f=true) (he:PE X en (WL X P n RT Y old l Z c)) (w5:aK en=true)
 (q9:∀C s₀ H₀ ex,PG (cU X scope N' C s₀ H₀ ex) tg (gT X.K t)/\∀RT Z1,PE (cU X scope N' C s₀ H₀ ex) e (WL X P n RT Y old l' Z1 elt)) :
 PE X (.ListComp e [⟨tg,.Call (.Name f p) [en] [] p2,[],0⟩] scope pos) (WL X P n RT Y old l Z (.comp k caps t c l' elt)):=by
 subst hf;refine(uE (g:=gT X.K t) (tt:=λ_ H Q=>Q true H) (te:=λZV H Q=>∃RT Z1,WL X P n RT Y old l' Z1 elt ZV H Q) CS M.calm (lW (M.gl hg) (M.md.blt _ (by decide +kernel)) (cI he eQ (aA w5)) (aA w5)) (λC s₀ H₀ ex=>⟨(q9 C s₀ H₀ ex).1,aAX,mO λRT=>mO ((q9 C s₀ H₀ ex).2 RT)⟩) (fP rfl)).imp λZV H Q t0 ⟨S,h⟩=>?_
 let F:Sg->Vl->R (Vl×Sg):=λZ x=>aT (ch0 k caps Z) x t >>= λZ1=>evl P (call P n) l' Z1 elt >>= λy=>(match bK Z l,bK y.2 l' with
  | some _,some (pa,cs)=>R.ok (y.1,bZ Z l pa cs)|_,_=>.bad)
 have h:=RE.bind' (show RE (evl P (call P n) l Z c >>= λr=>(match r.1.d with
  | .int j=>R.iff (aH j) (dE F ((bX 0 j).map .cl) r.2 >>= λq=>R.iff (decide (q.1.length<=lim)) (.ok ((⟨.lst (q.1.map (·.d)),true,aU q.1,[]⟩:Vl),q.2)))|_=>.bad)) _ from h)
 refine⟨S,h.mono λr U u H1 t1 ro=>?_⟩;cases hd:r.1.d with
 | int jj=>
  rw[hd] at U;obtain⟨hs,U⟩:=RE.iff (show RE (R.iff (aH jj) _) _ from U);obtain⟨⟨vs,Ze⟩,er,U⟩:=(RE.bind' U).eq;obtain⟨I,U⟩:=RE.iff (show RE (R.iff (decide (vs.length<=lim)) (.ok ((⟨.lst (vs.map (·.d)),true,aU vs,[]⟩:Vl),Ze))) _ from U);have I:=of_decide_eq_true I;have hs:=fQ hs;have ok:uH X.K RT Y old r.2 ZV H1 (Itr 0 jj.toNat) ((bX 0 jj).map .cl) []:=aGG jj;refine⟨jj,by rw[(ro.rv.nr (Z:=r.2) (ZV:=ZV)).int hd],hs.1,hs.2,?_⟩;have S1:=ro.sx;revert er ok S1;generalize (bX 0 jj).map Vl.cl=xs;intro er ok S1;refine⟨λj m ys W Hc=>m=xs.length-j/\j<=xs.length/\KpL RT ZV l H1 Hc/\∃Zc,Sx X.K RT Y old Zc ZV Hc/\W.length=(gB k caps ZV).length/\(∀j,k<=j->W[j]? = (gB k caps ZV)[j]?) /\
   ∃ws rs,vs=ws++rs/\dE F (xs.drop j) Zc=.ok (rs,Ze)/\eV X.K RT Y old Hc ws ys,⟨_,rfl,AA _,KpL.same (aI.refl _),r.2,S1,rfl,λ_ _=>rfl,[],vs,rfl,er,rfl⟩,?_⟩
  rintro j m ys W Hc ⟨hm,hj,kp,Zc,Sc,z6,q2,ws,rs,B,q0,q6⟩;have q5:=ok.ok RT (λb z=>⟨z,λ⟨_,hj,_⟩=>by cases hj⟩) j Hc kp.kp;have w4:=q6.length;have x3:ws.length<=vs.length:=by rw[B,lA];omega
  have x1:lim=1000000:=rfl;by_cases L:j<xs.length;refine .inr ⟨q5.1 L,by rw[<-w4,Bf];omega,λx H' hy=>?_⟩;have z9:xs[j]? = some xs[j]:=Af L;obtain⟨sm,x0,rv⟩:=q5.2.2 x H' hy xs[j] z9;have q3:xs[j]∈xs:=AO L;have z8:=ok.nofr _ q3;rw[D6 L] at q0;obtain⟨y,r',G,q7,w9⟩:=uR q0;obtain⟨Z1,q8,G⟩:=R.bind_ok G;obtain⟨q,eq,G⟩:=R.bind_ok G;have Sg:=Sc.grow sm (x0 Sc.tk);have rep:Rep X.K H' (λa=>RT a\/exB Y old xs[j].pa a) xs[j].d x:=rv.weak λa z=>by
   rcases z with z|z;exact .inl (.inl ⟨z,λw=>by
    obtain⟨j',z2,_⟩:=w;have:=ok.sub _ q3 j' z2;cases this⟩)
   exact .inl (.inr z)
  have w7:Sx X.K RT Y old (ch0 k caps Zc) W H':=(Sg.child z7).reV z6 λj' s hs=>by by_cases w3:j'<k;exact .inl (xM w3 hs);exact .inr (q2 j' (HV w3))
  refine xK w7 z8 rep q8 λw8 S2 q4=>?_;show(if true=true then _ else _);rw[if_pos rfl];refine⟨RT,Z1,S2,?_⟩;rw[eq];intro u H4 t4 ro;have q1:∀j,k<=j->w8[j]? = (gB k caps ZV)[j]? := λj hj=>by rw[q4 j λz=>absurd (hk j z) (DN.mpr hj),q2 j hj]
  cases e1:bK Zc l with
  | none=>simp only[e1] at G;cases G|some pc=>
   obtain⟨x5,x2⟩:=pc;simp only[e1] at G;cases e2:bK q.2 l' with
   | none=>simp only[e2] at G;cases G|some pc=>
    obtain⟨pa,cs⟩:=pc;simp only[e2] at G;cases(show R.ok (q.1,bZ Zc l pa cs)=R.ok y from G);obtain⟨lt,a,x6,g1,g2,g3,g4,g5,g6⟩:=oE ro.sx e2;obtain⟨x4,a0,x7,b1,b2,b3,b4,b5,b6⟩:=oE Sg e1;have hV:ZV[l]? = some (some (.ref a)):=by
     rw[q1 l' z4] at g2;have z5:l'=k+(l'-k):=by omega
     rw[z5] at g2;exact oD z0 g2
    rw[hV] at b2;cases b2;have w6:Kp (λb=>b=a) H' H4:=λb o eb nb=>ro.kp b o eb λz=>nb (by
     have z1:=z.1;rw[g2] at z1;exact(V.ref.inj (An (An z1))).symm)
    have kL:KpL RT ZV l H' H4:=λb o eb nb=>w6 b o eb λz=>nb (by rw[z];exact⟨hV,b4⟩);have S4:Sx X.K RT Y old (bZ Zc l pa cs) ZV H4:=by rw[b6];refine Sg.mutH b1 hV (λ_ z=>z) (λ_ z=>.inl z) (λb z=>ro.sx.rt b z) t4 w6 g3 (g5.weak λb z=>z.imp id λz=>z.mono λw=>by rw[w,C8])
    refine⟨xs.length-(j+1),by omega,rfl,L,kp.trans ((KpL.same sm).trans kL),bZ Zc l pa cs,S4,?_,q1,ws++[q.1],r',by rw[B,w9];simp,q7,eV.snoc ro.rv (eV.go Sc ((Kp.same sm).trans kL.kp) q6)⟩;rw[<-S2.len,xJ q8];unfold ch0 gB;simp
  have z3:j=xs.length:=by omega
  subst z3;rw[D4] at q0;cases(show R.ok ([],Zc)=R.ok (rs,Ze) from q0);rw[AH] at B;subst B;refine .inl ⟨q5.2.1 (Ak _),by rw[<-w4];exact dZ I,λq hq t'=>?_⟩;exact(show ∀u H',Tk X.K H'->RoL X.K RT Y old Ze ZV l H H' (⟨.lst (vs.map (·.d)),true,aU vs,[]⟩:Vl) u->Q u H' from U) _ _ t' (aGE S Sc (ro.kp.trans kp) q6 hq t')
 | _=>rw[hd] at U;exact U.elim
theorem aBe{Γ:Ct}{k l l':Nat}{caps:List Nat}{t:T}{c:EL}{elt:EL}{e:A2}(h:bQ Γ l (.comp k caps t c l' elt) e=true) :
 ∃G tg f p en L scope pos,e=.ListComp G [⟨tg,.Call (.Name f p) [en] [] L,[],0⟩] scope pos/\aCv Γ tg caps scope k t/\hU (pS Γ tg caps scope) t tg=true/\(f=("range" : Str)/\bT Γ f=true/\bQ Γ l c en=true)/\(k<=l'/\caps[l'-k]? = some l)/\bQ (pS Γ tg caps scope) l' elt G=true:=by
 unfold bQ at h;obtain⟨⟨G,gens,scope⟩,⟨pos,rfl⟩,g⟩:=aD h;clear h;have h:=g;clear g;rcases gens with _|⟨⟨tg,B,I,as⟩,_|⟨_,_⟩⟩
 cases h;cases I with
 | cons _ _=>cases h|nil=>
  have h:(as==0&&(cQ tg).length==k&&(caps.all λi=>decide (i<Γ.N.length))&&decide caps.Nodup&&scope.kind==.function&&decide (cQ tg++caps.filterMap λi=>Γ.N[i]?).Nodup &&
   ((caps.filterMap λi=>Γ.N[i]?).all λx=>scope.names.lookup x==some .free&&Γ.sc.lookup x==some .cell) &&
   (scope.names.all λp=>p.2 != .cell&&(p.2 != .local||scope.names.lookup p.1==some .local)&&(p.2 != .free||Γ.sc.lookup p.1==some .cell)) &&
   ((tIx t).all λi=>decide (i<k)) &&
   hU (pS Γ tg caps scope) t tg&&(oS (fY B) λq=>(q.1==("range" : Str))&&bT Γ q.1&&(match q.2 with|[x]=>bQ Γ l c x|_=>false))&&(decide (k<=l')&&(caps[l'-k]?==some l))&&bQ (pS Γ tg caps scope) l' elt G)=true:=h
  simp only[bA,beq_iff_eq,Bc,AN,C3,bne_iff_ne,ne_eq] at h;obtain⟨⟨⟨⟨⟨⟨⟨⟨⟨⟨⟨⟨h0,h1⟩,h2⟩,h3⟩,h4⟩,h5⟩,h6⟩,h7⟩,h8⟩,W⟩,q0⟩,q4⟩,q5⟩:=h;subst h0;obtain⟨⟨f,xs⟩,⟨p1,L,M⟩,g⟩:=aD q0;have M:B=.Call (.Name f p1) xs [] L:=M;subst M;obtain⟨g1,g2,U⟩:=cL g;rcases xs with _|⟨x,_|⟨_,_⟩⟩
  cases U;refine⟨G,tg,f,p1,x,L,scope,pos,rfl,⟨h1,h2,h3,h4,h5,h6,λp hp=>?_,h8⟩,W,⟨eq_of_beq g1,g2,U⟩,q4,q5⟩;obtain⟨⟨q1,q2⟩,q3⟩:=h7 p hp;exact⟨q1,λe=>q2.resolve_left λz=>z e,λe=>q3.resolve_left λz=>z e⟩;cases U
 cases I <;> cases h
theorem cY{c:EL}{e:A2}(h:bQ Γ l c e=true):aK e=true:=by
 cases c with
 | e a=>exact aJ (c:=a) (by exact h)|op o a b=>obtain⟨_,⟨_,rfl⟩,_⟩:=aD (by unfold bQ at h;exact h);rfl|idx a b=>obtain⟨_,⟨_,rfl⟩,_⟩:=aD (by unfold bQ at h;exact h);rfl|tup es=>obtain⟨_,⟨_,_,rfl⟩,_⟩:=aD (by unfold bQ at h;exact h);rfl|call f es=>obtain⟨_,⟨_,_,rfl⟩,_⟩:=aD (by unfold bQ at h;exact h);rfl|pcall f es=>obtain⟨_,⟨_,_,rfl⟩,_⟩:=aD (by unfold bQ at h;exact h);rfl|comp k caps t c l' elt=>obtain⟨_,_,_,_,_,_,_,_,rfl,_⟩:=aBe h;rfl
theorem gG:∀{cs:ELs} {es:List A2},chkELs Γ l cs es=true->es.all aK=true
 | .nil,[],_=>rfl|.nil,_::_,h=>by cases h|.cons _ _,[],h=>by cases h|.cons c cs,e::es,h=>by simp only[chkELs,bA] at h;rw[DF,cY h.1,gG h.2];rfl
mutual
theorem qEL{X:Cx}{Γ:Ct}{l:Nat}(M:Mc X P Γ n):(c:EL)->∀{e:A2},bQ Γ l c e=true->∀(RT:Addr->Prop) (Z:Sg),PE X e (WL X P n RT Y old l Z c)
 | .e a,e,h,RT,Z=>l_e (sE a M (by unfold bQ at h;exact h) RT Y old Z)|.op o a b,e,h,RT,Z=>by unfold bQ at h;obtain⟨⟨x,o',y⟩,⟨p,rfl⟩,g⟩:=aD h;obtain⟨G,B,L⟩:=cL g;have e:o=o':=eq_of_beq G;subst e;exact aPh (qEL M a B RT Z) λZ=>qEL M b L RT Z|.idx a b,e,h,RT,Z=>by unfold bQ at h;obtain⟨⟨x,y⟩,⟨p,rfl⟩,g⟩:=aD h;obtain⟨G,B⟩:=cO g;exact aMV (qEL M a G RT Z) (λZ=>qEL M b B RT Z) (cY B)|.tup es,e,h,RT,Z=>by unfold bQ at h;obtain⟨xs,⟨k,p,rfl⟩,g⟩:=aD h;obtain⟨G,B⟩:=cO g;exact aMX (qELs M es B RT Z) B (of_decide_eq_true G)|.call f es,e,h,RT,Z=>by
  unfold bQ at h;obtain⟨⟨g,xs⟩,⟨p1,p2,rfl⟩,q⟩:=aD h;obtain⟨G,B,L,I⟩:=aEm q;cases xs with
  | nil=>cases I|cons x xs=>obtain⟨I,U⟩:=cO I;obtain⟨y,⟨p3,e3⟩,I⟩:=aD I;subst e3;exact aJL M (eq_of_beq G) B L I (qELs M es U RT Z) (gG U)
 | .pcall f es,e,h,RT,Z=>by unfold bQ at h;obtain⟨⟨g,xs⟩,⟨p1,p2,rfl⟩,q⟩:=aD h;obtain⟨q,U⟩:=cO q;obtain⟨G,B,L,I⟩:=aEm q;exact aGF M (eq_of_beq G) B L (by simpa using I) (qELs M es U RT Z) (gG U)  | .comp k caps t c l' elt,e,h,RT,Z=>by obtain⟨el,tg,f,p,en,p2,scope,pos,rfl,O,g1,⟨f1,f2,f3⟩,⟨k1,k2⟩,g3⟩:=aBe h;refine aJM M (O.scope M) O.ndc O.tk k1 k2 f1 f2 (qEL M c f3 RT Z) (cY f3) λC s₀ H₀ ex=>?_;have W:=O.mc M C s₀ H₀ ex;exact⟨zZ W g1,λRT Z1=>qEL (l:=l') W elt g3 RT Z1⟩
theorem qELs{X:Cx}{Γ:Ct}{l:Nat}(M:Mc X P Γ n):(cs:ELs)->∀{es:List A2},chkELs Γ l cs es=true->∀(RT:Addr->Prop) (Z:Sg),PA X es (WLs X P n RT Y old l Z cs)
 | .nil,[],_,RT,Z=>aMW|.nil,_::_,h,_,_=>by cases h|.cons _ _,[],h,_,_=>by cases h|.cons c cs,e::es,h,RT,Z=>by obtain⟨B,G⟩:=cO (show(bQ Γ l c e&&chkELs Γ l cs es)=true from h);exact aJK (qEL M c B RT Z) (λZ=>qELs M cs G RT Z) (cY B)
end
end
section
variable {X:Cx} {P:Pg} {Γ:Ct} {n:Nat} {RT Y old:Addr->Prop} {Z:Sg} {pos:EJ} {l:Nat}
theorem aJN(M:Mc X P Γ n)(hx:bG Γ i x=true)(hk:PE X ix (WE X P n RT Y old Z ck))(he:PE X v (WE X P n RT Y old Z c))(U:aK ix=true):PS X (.Assign [.Subscript (.Name x p) ix p2] v pos) (wS X RT Y old Z (ex P (call P n) Z (.lset i ck c))):=by
 refine bC (oO he (yU (dG M hx) hk wF (by intro _;cases ix <;> first|rfl|cases U)) (by cases v <;> rfl) (by cases v <;> rfl)) λD ZV H t ⟨S,h⟩=>?_;have h:=OE.from (show OE X.K RT Y old H (O.from Z (ev P (call P n) Z c) λv=>O.from Z (ev P (call P n) Z ck) λW=>(match Z[i]?,W.d with
  | some (.lent ds),.int k=>(match ixN ds.length k with|some j=>if noL v.d then .next (Z.set i (.lent (ds.set j v.d))) else .bad|none=>.bad)
  | _,_=>.bad)) D from h)
 refine wE.one S h λv u H1 B t1 S1 r1=>?_;obtain⟨W,ek,B⟩:=(OE.from B).eq;cases e:Z[i]? with
 | none=>rw[e] at B;exact B.elim|some sl=>
  rw[e] at B;cases sl with
  | lent ds=>
   cases hd:W.d with
   | int k=>
    rw[hd] at B;have B:OE X.K RT Y old H (match ixN ds.length k with|some j=>if noL v.d then .next (Z.set i (.lent (ds.set j v.d))) else .bad|none=>.bad) D:=B;obtain⟨b,xs,h1,h2,h3,h4,h5⟩:=S.lx.at' i ds e;cases L:ixN ds.length k with
    | none=>rw[L] at B;exact B.elim|some j=>rw[L] at B;have B:OE X.K RT Y old H (if noL v.d then .next (Z.set i (.lent (ds.set j v.d))) else .bad) D:=B;split at B;rename_i hn;refine⟨.ref b,h1,S1,?_⟩;rw[ek];intro uk H2 t2 I;have G:=h5.length;refine⟨b,xs,k,j,rfl,(I.rv S1).int hd,I.1 _ _ (r1.1 _ _ h2),by rw[<-G,<-mB];exact L,λ_=>?_⟩;have s2:=r1.1.trans I.1;exact(show cE X.K RT Y old H (Z.set i (.lent (ds.set j v.d))) D.nx from B) RT ZV _ (Kp.upd s2 h3) aL ((S.grow s2 t2).mutA (lt:=true) (pa:=true) (pa':=true) e h1 ((h5.grow s2).set j (Rep.free _ _ hn ((r1.rv S).grow I.1))));exact B.elim
   | _=>rw[hd] at B;exact B.elim
  | _=>exact B.elim
theorem aGH{Z':Sg}{ZV:L2.St}{v:Vl}(S:Sx X.K RT Y old Z ZV H)(B:RoL X.K RT Y old Z' ZV l H H1 v u)(i:Nat):∃G,Sx X.K G Y old (Z'.set i v.slot) (ZV.set i (some u)) H1/\∀b,G b->RT b\/H b=none:=by by_cases M:v.fr=true;obtain⟨a,xs,ds,W,e2,I,L,U,r⟩:=B.fr M;rw[aBa M e2,W];exact⟨_,B.sx.putOwn U (λz=>S.trk a (.inl z) I (B.sx.tk a (by rw[L];simp))) (λz=>S.trk a (.inr (.inr z)) I (B.sx.tk a (by rw[L];simp))) L r,λb z=>z.imp id λz=>by rw[z];exact I⟩;rw[fR (by simpa using M)];exact⟨_,B.sx.setSh B.rv,aL⟩
theorem Kp.rtF(k:Kp (rtF RT Z ZV al) H H1):Kp RT H H1:=λa o e B=>k a o e λz=>B z.1
theorem aJO(M:Mc X P Γ n)(L:aZ Γ i x=true)(he:∀RT Z,PE X e (WL X P n RT Y old l Z c))(hs:fG e=false):PS X (.Assign [.Name x p] e pos) (wS X RT Y old Z (ex P (call P n) Z (.setL i l fz c))):=by
 unfold aZ at L;obtain⟨h1,I,h3⟩:=cL L;refine bC (lV (i:=i) M.nd (by rw[M.N];exact eq_of_beq h1) (M.loc I) (mO λRT=>mO (he RT)) (by cases e <;> first|rfl|cases hs) (M.st x I)) λD ZV H t ⟨S,h⟩=>?_;have h:=OE.from (show OE X.K RT Y old H (O.from Z (evl P (call P n) l (freeze Z fz) c) λr=>.next (r.2.set i r.1.slot)) D from h)
 refine⟨rtF RT Z ZV fz,freeze Z fz,S.frz fz,h.mono λr hr u H1 t1 U=>?_⟩;obtain⟨G,W,B⟩:=aGH (S.frz fz) U i;exact λ_=>(show cE X.K RT Y old H (r.2.set i r.1.slot) D.nx from hr) G _ H1 (Kp.rtF U.kp.kp) (λb z=>(B b z).imp (·.1) id) W
theorem aJP(M:Mc X P Γ n)(hc:fZ Γ i "append" e=some [a])(ha:PE X a (WL X P n RT Y old l Z c))(W:aK a=true):PS X (.Expr e pos) (wS X RT Y old Z (ex P (call P n) Z (.appL i l c))):=by obtain⟨x,p,ap,cp,rfl,hx,hl⟩:=iW hc;refine bC (iO (aDs CW Fz F0 rQ (dG M hx) (cI ha eQ (aA W)) rfl (by rw[aA W];rfl) hl (aA W) rfl)) λD ZV H t ⟨S,h⟩=>?_;have h:OE X.K RT Y old H (if (fJ Z i).isSome then O.from Z (evl P (call P n) l Z c) λr=>put r.2 i r.1.nr λds=>some (ds++[r.1.d]) else .bad) D:=h;split at h;rename_i U;obtain⟨⟨q5,L⟩,U⟩:=DD.mp U;have q0:=kU U;obtain⟨r,ee,h⟩:=(OE.from h).eq;obtain⟨b,xs,I,g2,g3,g4,g5⟩:=S.own i q5 L q0;refine⟨.ref b,I,.inl ⟨rfl,xs,SqL.of g2⟩,S,?_⟩;rw[ee];intro u H1 t1 G;obtain⟨pa,ds,ds',q1,q2,q3,q4,B⟩:=uO h;cases q3;obtain⟨b',q6,k1,k2,k3,k4,k5⟩:=G.sx.own i pa ds q1;rw[I] at k1;cases k1;have q7:=k5.length;refine⟨b,q6,u,rfl,rfl,k2,?_,λ_=>?_⟩;rw[lA,B1] at q4;have:=aAc;omega;exact kY G.sx (aI.refl H1) t1 q1 q2 I (((kX G.sx (aI.refl H1) q1 I k2).weak λc z=>z.imp id kW).append (.cons (Rep.weak G.rv λc z=>z.imp (·.1) uP) .nil)) (B.mono G.kp.kp aL);exact h.elim
theorem xT{v:Vl}{D:Ends}(h:OE X.K RT Y old H (nH v Z) D):∃cs,Z[(0:Nat)]? = some (.lent cs)/\nO X.K RT Y old H ⟨.tup [v.d,.err 0 cs],v.fr,v.pa,[]⟩ D.rt:=by unfold nH at h;split at h;rename_i cs e;exact⟨cs,e,h⟩;exact h.elim
theorem aEr(h:Y b):exB Y old true b:=.inl h
theorem aJQ(he:PE X e (WL X P n RT Y old 0 Z c)):PS X (.Return (some e) pos) (wS X RT Y old Z (ex P (call P n) Z (.retL c))):=by
 refine bC (tM he) λD ZV H t ⟨S,h⟩=>?_;have h:=OE.from (show OE X.K RT Y old H (O.from Z (evl P (call P n) 0 Z c) λr=>nH r.1 r.2) D from h)
 refine⟨S,h.mono λr W u H1 t1 B _=>?_⟩;obtain⟨cs,e0,W⟩:=xT W;refine W u H1 B.kp.kp t1 (.inr ?_);by_cases U:r.1.fr=true;obtain⟨a,ys,es,e1,e2,e3,e4,S2,rr⟩:=B.fr U;obtain⟨p,xs,h1,G,I,L,M⟩:=S2.lx.at' 0 cs e0;refine⟨r.1.d,cs,λb=>RT b\/b=a,p,xs,rfl,λb z=>z.imp id λz=>by rw[z];exact e3,I,L,G,M.weak λb z=>z.imp id aEr,?_⟩;rw[if_pos U];exact⟨a,ys,es,e1,e2,λz=>S.trk a (.inr (.inr z)) e3 (B.sx.tk a (by rw[e4];simp)),.inr rfl,e4,rr⟩;obtain⟨p,xs,h1,G,I,L,M⟩:=B.sx.lx.at' 0 cs e0;refine⟨r.1.d,cs,RT,p,xs,rfl,aL,I,L,G,M.weak λb z=>z.imp id aEr,?_⟩;rw[if_neg U];exact B.rv
theorem aGI(M:Mc X P Γ n)(hx:bG Γ i x=true):PS X (.Return (some (.Name x p)) pos) (wS X RT Y old Z (ex P (call P n) Z (.retvL i))):=by refine bC (tM (dG M hx)) λD ZV H t ⟨S,h⟩=>?_;have h:OE X.K RT Y old H (match Z[i]? with|some (.own pa ds)=>nH ⟨.lst ds,true,pa,[]⟩ Z|_=>.bad) D:=h;split at h;rename_i pa ds e;obtain⟨cs,B,hr⟩:=xT h;obtain⟨a,ys,W,h2,h3,h4,h5⟩:=S.own i pa ds e;obtain⟨p,xs,g1,G,I,L,U⟩:=S.lx.at' 0 cs B;exact⟨.ref a,W,λ_=>hr (.ref a) H (Kp.refl RT H) t (.inr ⟨.lst ds,cs,RT,p,xs,rfl,aL,I,L,G,U.weak λb z=>z.imp id aEr,by rw[if_pos rfl];exact⟨a,ys,ds,rfl,rfl,h4,h3,h2,h5⟩⟩)⟩;exact h.elim
theorem aJR(M:Mc X P Γ n)(W:PE X ea (WL X P n RT Y old 0 Z a))(hb:∀Z,PE X eb (WE X P n RT Y old Z b))(hp:aK eb=true)(hx:∀RT Z,PSs X xa (wS X RT Y old Z (exs P (call P n) Z x)))(hy:∀RT Z,PSs X xb (wS X RT Y old Z (exs P (call P n) Z y))) :
 PS X (.If (.Compare ea [o] [eb] p) xa xb pos) (wS X RT Y old Z (ex P (call P n) Z (.iffL o a b x y))):=by
 refine bC (aHz (aAD (gC (RT:=RT) (Y:=Y) (old:=old) M o) W (mO hb) (kP hp)) (iV hx) (iV hy)) λD ZV H t ⟨S,h⟩=>?_;have h:=OE.from (show OE X.K RT Y old H (O.from Z (evl P (call P n) 0 Z a) λr=>O.from r.2 (ev P (call P n) r.2 b) λz=>(match bY o r.1.d z.d with
  | some k=>if k then exs P (call P n) r.2 x else exs P (call P n) r.2 y|none=>.bad)) D from h)
 refine⟨S,h.mono λr hr u H1 t1 B=>⟨r.2,B.sx,(OE.from hr).mono λz hz uz U t2 G=>?_⟩⟩;have I:=B.sx.grow G.1 t2;have L:Kp RT H U:=B.kp.kp.trans (Kp.same G.1);split at hz;rename_i k hk;refine⟨r.2,ZV,r.1.nr,z,k,(B.rv.nr).grow G.1,G.rv B.sx,hk,k,rfl,?_⟩;cases k with
 | true=>rw[if_pos rfl] at hz ⊢;exact⟨RT,r.2,I,(OE.mono L aL hz).tkE⟩|false=>rw[if_neg bN] at hz ⊢;exact⟨RT,r.2,I,(OE.mono L aL hz).tkE⟩
 exact hz.elim
theorem aJS(M:Mc X P Γ n)(hx:hU Γ t tg=true)(hf:f=("range" : Str))(hg:bT Γ f=true)(W:PE X e (WL X P n RT Y old 0 Z c))(G:aK e=true)(U:∀RT Z,PSs X body (wS X RT Y old Z (exs P (call P n) Z b))) :
 PS X (.For tg (.Call (.Name f p) [e] [] p2) body [] pos) (wS X RT Y old Z (ex P (call P n) Z (.forL t c b))):=by
 subst hf;have hp:G5 (A1 X.prog X.w) X.A X.env X.xe:=by rw[M.xe];exact FU
 refine bC (aDd hp M.calm (lW (M.gl hg) (M.md.blt _ (by decide +kernel)) (cI W eQ (aA G)) (aA G)) (zZ M hx) (iV U) (fP rfl)) λL ZV H t0 ⟨S,h⟩=>?_;have h:=OE.tkE h;revert h;generalize tkE X.K L=D;intro h;have h:=OE.from (show OE X.K RT Y old H (O.from Z (evl P (call P n) 0 Z c) λr=>(match r.1.d with
  | .int j=>if aH j then cA (λZ x=>O.from Z (aT Z x t) λZ'=>exs P (call P n) Z' b) ((bX 0 j).map .cl) r.2 else .bad|_=>.bad)) D from h)
 refine⟨S,h.mono λr B u H1 t1 I=>?_⟩;cases hd:r.1.d with
 | int j=>rw[hd] at B;have B:OE X.K RT Y old H (if aH j then cA (λZ x=>O.from Z (aT Z x t) λZ'=>exs P (call P n) Z' b) ((bX 0 j).map .cl) r.2 else .bad) D:=B;split at B;rename_i hs;have hs:=fQ hs;refine⟨j,by rw[(I.rv.nr (Z:=r.2) (ZV:=ZV)).int hd],hs.1,hs.2,sP (xs:=((bX 0 j).map .cl,[])) I.sx I.kp.kp (uI ?_) B⟩;rw[gD];simp;exact B.elim|_=>rw[hd] at B;exact B.elim
end
section
variable {K:Fg}
theorem pT{ds:List D}{vs:List V}{Y:Addr->Prop}{B old:Addr->Prop}(U:∀a,Y a->old a)(L:∀a,old a->Od K H a)(t:Tk K H)(M:∀a,B a->RtO H a)(r:Reps K H (λb=>B b\/Y b) ds vs):Sx K B Y old ((ds.map λd=>Sl.sh true d)++Ae m Sl.dead) (vs.map some++Ae m none) H:=by
 have len:=r.length;have get:∀{i:Nat} {s:Sl},((ds.map λd=>Sl.sh true d)++Ae m Sl.dead)[i]? = some s->s=.dead\/∃d,s=.sh true d/\ds[i]? = some d:=λ{i s} e=>by by_cases hi:i<ds.length;rw[A4 (by simpa using hi),Ar,Af hi] at e;cases e;exact .inr ⟨ds[i],rfl,Af hi⟩;rw[Az (by simpa using hi),Cc] at e;split at e;cases e;exact .inl rfl;cases e
 exact {
  sh:=λi pa d e=>by
   rcases get e with z|⟨d',z,q⟩
   cases z;cases z;obtain⟨v,W,rv⟩:=r.get q;have hi:i<vs.length:=(Au.mp W).1;refine⟨v,?_,rv.weak λa z=>?_⟩;rw[A4 (by simpa using hi),Ar,W];rfl;rcases z with z|z|⟨z,_⟩
   exact .inl z;exact .inr z;cases z
  own:=λi pa ds' e=>by
   rcases get e with z|⟨d',z,q⟩
   cases z;cases z
  trk:=λa z q=>by rcases z with z|z|z;exact absurd q (M a z).ne;exact L a (U a z) q;exact L a z q
  yo:=U
  tk:=t
  rt:=M
  inj:=λi j pa pa' G I a e=>by
   rcases get e with z|⟨d',z,q⟩
   cases z;cases z
  len:=by rw[lA,lA,lM,lM,Be,Be,len]
  lx:={
   at':=λi ds' e=>by
    rcases get e with z|⟨d',z,q⟩
    cases z;cases z
   inj:=λi j G I a e=>by
    rcases get e with z|⟨d',z,q⟩
    cases z;cases z }
  dx:={
   at':=λi t e=>by
    rcases get e with z|⟨d',z,q⟩
    cases z;cases z
   inj:=λi j t t' a e=>by
    rcases get e with z|⟨d',z,q⟩
    cases z;cases z } }
theorem Sx.clean{RT Y old:Addr->Prop}{Z:Sg}{ZV:L2.St}(S:Sx K RT Y old Z ZV H)(I:ZV[z]? = some (some v))(r:Rep K H (λa=>RT a\/exB Y old false a) d v):Sx K RT Y old (Z.set z (.sh false d)) ZV H where
 sh:=λj pa d' e=>by
  rcases set_some e with⟨rfl,q,_⟩|⟨_,e⟩
  cases q;exact⟨v,I,r⟩;exact S.sh j pa d' e
 own:=λj pa ds e=>by
  rcases set_some e with⟨_,q,_⟩|⟨_,e⟩
  cases q;exact S.own j pa ds e
 trk:=S.trk
 yo:=S.yo
 tk:=S.tk
 rt:=S.rt
 inj:=λi j pa pa' ds ds' a B G=>by
  rcases set_some B with⟨_,q,_⟩|⟨_,B⟩
  cases q;rcases set_some G with⟨_,q,_⟩|⟨_,G⟩
  cases q;exact S.inj i j pa pa' ds ds' a B G
 len:=by rw[Ax];exact S.len
 lx:=S.lx.imp id (λj ds e=>by
  rcases set_some e with⟨_,q,_⟩|⟨_,e⟩
  cases q;exact⟨e,rfl⟩) (λ_ _ _ _ _ _ e=>e) (λ_ _ e z _=>⟨e,z⟩) (λ_ _ r=>r)
 dx:=S.dx.imp id (λj ds e=>by
  rcases set_some e with⟨_,q,_⟩|⟨_,e⟩
  cases q;exact⟨e,rfl⟩) (λ_ _ _ _ _ _ e=>e) (λ_ _ e _ z _=>⟨e,z⟩) λ_ _ r=>r
end
section
variable {X:Cx} {P:Pg} {Γ:Ct} {n:Nat} {RT Y old:Addr->Prop} {Z:Sg} {pos:EJ}
theorem aJT(M:Mc X P Γ n)(B:PSs X body (wS X RT Y old Z (exs P (call P n) Z b))) :
 PS X (.Try body (h0::hs) [] [] pos) (wS X RT Y old Z (ex P (call P n) Z (.tryN b))):=by
 intro pins s ZV H D I h;refine wpAny_Try_except (CC (B pins s ZV H D I h) (λf s1 q=>?_) λe s1 q=>?_);cases f with
 | next=>exact Ex q|_=>exact q
 rw[M.xe] at q;exact q.elim
end
section
variable {RT Y old:Addr->Prop} {Z:Sg} {K:Fg} {H H':Hp} {ZV:L2.St}
theorem Sx.putDct(S:Sx K RT Y old Z ZV H)(s:aI H H')(tk:Tk K H')(hn:H p=none)(ha:H' p=some o)(m:Mb o)(hd:DOb K H' p t)(i:Nat) :
 Sx K (λb=>RT b\/b=p) Y old (Z.set i (.dct t)) (ZV.set i (some (.ref p))) H':=by
 have hk:=tk p (by rw[ha];simp);have w:∀{pa:Bool} b,(RT b\/b=p)\/exB Y old pa b->b=p\/RT b\/exB Y old pa b:=λ{pa} b z=>by rcases z with(z|z)|z;exact .inr (.inl z);exact .inl z;exact .inr (.inr z)
 exact {
  sh:=λj pa d e=>by
   rcases set_some e with⟨_,z,_⟩|⟨B,e⟩
   cases z;obtain⟨v,U,W⟩:=S.sh j pa d e;exact⟨v,by rw[Ah B];exact U,((W.out hn hk).grow s).weak w⟩
  own:=λj pa ds e=>by
   rcases set_some e with⟨_,z,_⟩|⟨B,e⟩
   cases z;obtain⟨b,ys,U,W,h3,h4,h5⟩:=S.own j pa ds e;exact⟨b,ys,by rw[Ah B];exact U,s _ _ W,.inl h3,h4,((h5.out hn hk).grow s).weak w⟩
  trk:=λb z q=>by rcases z with(z|z)|z;exact S.trk b (.inl z) (s.free q);rw[z,ha] at q;cases q;exact S.trk b (.inr z) (s.free q)
  yo:=S.yo
  tk:=tk
  rt:=λb z=>by rcases z with z|z;exact(S.rt b z).grow s;rw[z];exact⟨o,ha,m⟩
  inj:=λj j' pa' q0 ds ds' a L G M I=>by
   rcases set_some L with⟨_,e,_⟩|⟨n1,L⟩
   cases e;rcases set_some G with⟨_,e,_⟩|⟨n2,G⟩
   cases e;rw[Ah n1] at M;rw[Ah n2] at I;exact S.inj j j' pa' q0 ds ds' a L G M I
  len:=by rw[Ax,Ax];exact S.len
  lx:=S.lx.imp id (λj ds e=>by
   rcases set_some e with⟨_,z,_⟩|⟨B,e⟩
   cases z;exact⟨e,Ah B⟩) (λ_ _ _ _ _ _ e=>e) (λ_ _ e z _=>⟨s _ _ e,.inl z⟩) (λ_ _ r=>((r.out hn hk).grow s).weak w)
  dx:={
   at':=λj t' e=>by
    rcases set_some e with⟨rfl,z,hl⟩|⟨B,e⟩
    cases z;exact⟨p,Ay (by rw[<-S.len];exact hl),.inr rfl,λz=>S.trk p (.inr (.inr z)) hn hk,hd⟩;obtain⟨a,U,W,h3,h4⟩:=S.dx.at' j t' e;exact⟨a,by rw[Ah B];exact U,.inl W,h3,h4.imp (λo q _ _=>s _ _ q) λ_ _ r=>aI.seqT s r⟩
   inj:=λj j' t1 t2 a L G M I=>by
    have fr:∀{j:Nat} {t:List (List Int)},Z[j]? = some (.dct t)->ZV[j]? = some (some (.ref p))->False:=λ{j t} e q=>by obtain⟨a',U,W,_⟩:=S.dx.at' j t e;rw[q] at U;cases U;exact S.trk p (.inl W) hn hk
    rcases set_some L with⟨rfl,e,hl⟩|⟨n1,L⟩
    rcases set_some G with⟨rfl,_,_⟩|⟨n2,G⟩
    rfl;rw[Ay (by rw[<-S.len];exact hl)] at M;cases M;rw[Ah n2] at I;exact(fr G I).elim;rw[Ah n1] at M;rcases set_some G with⟨rfl,e,hl⟩|⟨n2,G⟩
    rw[Ay (by rw[<-S.len];exact hl)] at I;cases I;exact(fr L M).elim;rw[Ah n2] at I;exact S.dx.inj j j' t1 t2 a L G M I } }
theorem Sx.mutD(S:Sx K RT Y old Z ZV H)(e:Z[i]? = some (.dct t))(ha:ZV[i]? = some (some (.ref a)))(L:H a=some o)(mo:Mb o)(q4:∀xs,o≠.lst xs)(q5:Mb o')(hd:DOb K (upd H a o') a t') :
 Sx K RT Y old (Z.set i (.dct t')) ZV (upd H a o'):=by
 obtain⟨a',G,I,q0,_⟩:=S.dx.at' i t e;rw[ha] at G;cases G;have kp:Kp (λb=>b=a) H (upd H a o'):=λb o q n=>by rw[upd_ne n];exact q
 have hR:∀b,b=a->RtO H b:=λb z=>⟨o,by rw[z];exact L,mo⟩
 have hl:∀{b:Addr} {ys:List V},H b=some (.lst ys)->b≠a:=λ{b ys} q z=>by rw[z,L] at q;cases q;exact q4 _ rfl
 have kr:∀{pa:Bool} {ds:List D} {xs:List V},Reps K H (λb=>RT b\/exB Y old pa b) ds xs->Reps K (upd H a o') (λb=>RT b\/exB Y old pa b) ds xs:=λr=>r.kp kp hR λb z=>.inl (by rw[z];exact I);exact {
  sh:=λj pb d q=>by
   rcases set_some q with⟨_,z,_⟩|⟨_,q⟩
   cases z;obtain⟨v,G,U⟩:=S.sh j pb d q;exact⟨v,G,U.kp kp hR λb z=>.inl (by rw[z];exact I)⟩
  own:=λj pb dd q=>by
   rcases set_some q with⟨_,z,_⟩|⟨_,q⟩
   cases z;obtain⟨b,ys,G,U,g3,g4,g5⟩:=S.own j pb dd q;exact⟨b,ys,G,kp b _ U (hl U),g3,g4,kr g5⟩
  trk:=λb z q=>by by_cases B:b=a;rw[B,aR] at q;cases q;rw[upd_ne B] at q;exact S.trk b z q
  yo:=S.yo
  tk:=λb z=>by by_cases B:b=a;rw[B];exact S.tk a (by rw[L];simp);rw[upd_ne B] at z;exact S.tk b z
  rt:=λb z=>by by_cases B:b=a;rw[B];exact⟨o',aR,q5⟩;unfold RtO;rw[upd_ne B];exact S.rt b z
  inj:=λj j' pa' W ds ds' b e1 e2 e3 e4=>by
   rcases set_some e1 with⟨_,e,_⟩|⟨n1,e1⟩
   cases e;rcases set_some e2 with⟨_,e,_⟩|⟨n2,e2⟩
   cases e;exact S.inj j j' pa' W ds ds' b e1 e2 e3 e4
  len:=by rw[Ax];exact S.len
  lx:=S.lx.imp id (λj ds q=>by
   rcases set_some q with⟨_,z,_⟩|⟨_,q⟩
   cases z;exact⟨q,rfl⟩) (λ_ _ _ _ _ _ e=>e) (λb xs q z _=>⟨kp b _ q (hl q),z⟩) (λ_ _ r=>kr r)
  dx:={
   at':=λj M q=>by
    rcases set_some q with⟨rfl,z,_⟩|⟨q3,q⟩
    cases z;exact⟨a,ha,I,q0,hd⟩;obtain⟨b,G,U,g3,g4⟩:=S.dx.at' j M q;have B:b≠a:=λz=>by subst z;exact q3 (S.dx.inj i j t M b e q ha G)
    exact⟨b,G,U,g3,g4.imp (λo q _ _=>kp b o q B) λb ks z=>kp.seqT hR z⟩
   inj:=λj j' t1 M b q1 q2=>by
    have get:∀{j:Nat} {M:List (List Int)},(Z.set i (.dct t'))[j]? = some (.dct M)->∃t3,Z[j]? = some (.dct t3):=λ{j M} q=>by
     rcases set_some q with⟨rfl,_,_⟩|⟨_,q⟩
     exact⟨t,e⟩;exact⟨M,q⟩
    obtain⟨_,z1⟩:=get q1;obtain⟨_,z2⟩:=get q2;exact S.dx.inj j j' _ _ b z1 z2 } }
end
theorem aBf{RT:Addr->Prop}(s:aI H H1)(h:RT b):Kp RT H (L2.upd H1 b o):=λc q e n=>by rw[L2.upd_ne λz=>n (by rw[z];exact h)];exact s _ _ e
theorem jU:∀(us xs:List KA),(us.foldl putS xs).map (·.1)=(us.map (·.1)).foldl putKs (xs.map (·.1))
 | [],_=>rfl|u::us,xs=>by rw[Bm,jU us,sD];rfl
theorem foldS_mem:∀(B ws:List KA) z,z∈B.foldl putS ws->z∈ws\/z∈B
 | [],_,_,h=>.inl h|y::B,ws,z,h=>by rcases foldS_mem B _ z h with q|q;rcases putS_mem q with q|q;exact .inl q;exact .inr (by rw[q];exact Ai);exact .inr (Ag _ q)
section
variable {K:Fg} {H:Hp} {ex:Addr->Prop}
theorem nP:∀{ds:List D} {ks:List (List Int)} {xs:List V},cP ds=some ks->Reps K H ex ds xs->∃us:List KA,us.map (·.1)=ks/\DT (aEk K H) xs us/\∀x∈us,SqT K H x.2 (x.1.map V.int)
 | [],ks,xs,e,r=>by cases e;rw[show xs=[] from r];exact⟨[],rfl,.nil,λx B=>by cases B⟩|d::ds,ks,xs,e,r=>by obtain⟨x,r',rfl,h1,h2⟩:=r;unfold cP at e;split at e;rename_i z;cases z;rename_i d' ds' z;cases z;split at e;rename_i k js L M;cases e;obtain⟨c,ys,rfl,I,q2⟩:=h1;obtain⟨y1,r1,rfl,U,y2,r2,rfl,W,g3⟩:=q2;obtain⟨b,rfl,G⟩:=mK L U;rw[show y2=.bl true from W,show r2=[] from g3] at I;obtain⟨us,u1,u2,u3⟩:=nP M h2;refine⟨(k,b)::us,by rw[mC,u1],.cons ⟨c,rfl,I,G⟩ u2,λx B=>?_⟩;rcases As.mp B with rfl|B;exact G;exact u3 x B;cases e;cases e
end
section
variable {X:Cx} {P:Pg} {Γ:Ct} {n:Nat} {RT Y old:Addr->Prop} {Z:Sg} {pos:EJ}
theorem aJU(M:Mc X P Γ n)(G:aZ Γ i x=true):PS X (.Assign [.Name x p] (.Dict [] [] p2) pos) (wS X RT Y old Z (ex P (call P n) Z (.dnew i))):=by unfold aZ at G;obtain⟨L,I,U⟩:=cL G;refine bC (lV (i:=i) M.nd (by rw[M.N];exact eq_of_beq L) (M.loc I) aGu rfl (M.st x I)) λD ZV H t ⟨S,h⟩=>?_;exact λq B t'=>(show cE X.K RT Y old H (Z.set i (.dct [])) D.nx from h) (λb=>RT b\/b=q) _ _ (Kp.same (aI.new B)) (λb z=>z.imp id λz=>by rw[z];exact B) (S.putDct (t:=[]) (aI.new B) t' B aR (.inr (.inr ⟨_,rfl⟩)) ⟨[],aR,rfl,λx G=>by cases G⟩ i)
theorem xU(M:Mc X P Γ n)(hf:f=("dict" : Str))(hg:bT Γ f=true)(hy:PE X y (WE X P n RT Y old Z c))(I:aK y=true) :
 PE X (.Call (.Name f p2) [y] [] pos) (λZV H Q=>Sx X.K RT Y old Z ZV H/\RE (ev P (call P n) Z c) λv=>∃ds ks,v.fr=true/\v.d=.lst ds/\cP ds=some ks/\∀q H',Tk X.K H'->aI H H'->H q=none->∀us:List KA,us.map (·.1)=ks->H' q=some (cT q (us.foldl putS []))->(∀x∈us,SqT X.K H' x.2 (x.1.map V.int))->Q (.ref q) H'):=by subst hf;refine(iP (aAa (by have:=M.units;omega) M.room.hd) (M.gl hg) (M.md.blt _ (by decide)) (by decide +kernel) (cI hy eQ (aA I)) (by decide) (by decide) (aA I) rfl).imp λZV H Q t ⟨S,h⟩=>?_;refine⟨S,h.mono λv ⟨ds,ks,U,W,e3,hq⟩ u H1 t1 r1=>?_⟩;have L:=r1.2;rw[if_pos U] at L;obtain⟨a,xs,ds',rfl,G,e5,e6,rr⟩:=L;rw[W] at G;cases G;obtain⟨us,u1,u2,u3⟩:=nP e3 rr;refine⟨a,xs,us,rfl,e6,u2,λq B t'=>?_⟩;exact hq q _ t' (r1.1.trans (aI.new B)) (r1.1.free B) us u1 aR λx hx=>aI.seqT (aI.new B) (u3 x hx)
theorem DOb.fold{K:Fg}{H:Hp}{q:Addr}{us xs:List KA}(h:H q=some (cT q (us.foldl putS xs)))(G:∀x∈us,SqT K H x.2 (x.1.map V.int))(I:∀x∈xs,SqT K H x.2 (x.1.map V.int)):DOb K H q ((us.map (·.1)).foldl putKs (xs.map (·.1))):=
 ⟨_,h,jU us xs,λx B=>(foldS_mem us xs x B).elim (I x) (G x)⟩
theorem aJV(M:Mc X P Γ n)(G:aZ Γ i x=true)(hf:f=("dict" : Str))(hg:bT Γ f=true)(hy:PE X y (WE X P n RT Y old Z c))(hp:aK y=true) :
 PS X (.Assign [.Name x p] (.Call (.Name f p2) [y] [] p3) pos) (wS X RT Y old Z (ex P (call P n) Z (.dset i c))):=by
 unfold aZ at G;obtain⟨h1,L,h3⟩:=cL G;refine bC (lV (i:=i) M.nd (by rw[M.N];exact eq_of_beq h1) (M.loc L) (xU M hf hg hy hp) rfl (M.st x L)) λD ZV H t ⟨S,h⟩=>?_;have h:=OE.from (show OE X.K RT Y old H (O.from Z (ev P (call P n) Z c) λv=>(match v.fr,v.d with
  | true,.lst ds=>(match cP ds with
   | some ks=>if ks.length<=1000 then .next (Z.set i (.dct (ks.foldl putKs []))) else .bad|none=>.bad)
  | _,_=>.bad)) D from h)
 refine⟨S,h.mono λv B=>?_⟩;split at B;rename_i ds e1 e2;cases I:cP ds with
 | none=>simp only[I] at B;exact B.elim|some ks=>
  simp only[I] at B;split at B;refine⟨ds,ks,e1,e2,I,λq H' t' W U us u1 u2 u3 _=>?_⟩;refine(show cE X.K RT Y old H (Z.set i (.dct (ks.foldl putKs []))) D.nx from B) (λb=>RT b\/b=q) _ _ (Kp.same W) (λb z=>z.imp id λz=>by rw[z];exact U) (S.putDct W t' U u2 (.inr (.inr ⟨_,rfl⟩)) ?_ i);rw[<-u1];exact DOb.fold u2 u3 λx G=>by cases G
  exact B.elim
 exact B.elim
theorem aJW(M:Mc X P Γ n)(hc:fZ Γ i "update" e=some [.Call (.Name f p2) [y] [] p3])(hf:f=("dict" : Str))(hg:bT Γ f=true)(hy:PE X y (WE X P n RT Y old Z c))(hp:aK y=true):PS X (.Expr e pos) (wS X RT Y old Z (ex P (call P n) Z (.dupd i c))):=by
 obtain⟨x,p,ap,cp,rfl,hx,hl⟩:=iW hc;have hu:=M.units;refine bC (iO (aGv (by omega) (dG M hx) (cI (xU (pos:=p3) M hf hg hy hp) eQ (aA (e:=.Call (.Name f p2) [y] [] p3) rfl)) rfl rfl hl (aA (e:=.Call (.Name f p2) [y] [] p3) rfl) rfl)) λD ZV H t ⟨S,h⟩=>?_;have h:=OE.from (show OE X.K RT Y old H (O.from Z (ev P (call P n) Z c) λv=>(match v.fr,v.d with
  | true,.lst ds=>(match gX Z i,cP ds with
   | some js,some ks=>if js.length<=1000/\ks.length<=1000/\jO (ks.foldl putKs [])=true then .next (Z.set i (.dct ((ks.foldl putKs []).foldl putKs js))) else .bad|_,_=>.bad)
  | _,_=>.bad)) D from h)
 obtain⟨v,ee,h⟩:=h.eq;split at h;rename_i ds f1 hd;cases L:gX Z i with
 | none=>simp only[L] at h;exact h.elim|some js=>
  cases W:cP ds with
  | none=>simp only[L,W] at h;exact h.elim|some ks=>
   simp only[L,W] at h;split at h;rename_i U;obtain⟨l1,l2,hh⟩:=U;obtain⟨b,g1,g2,g3,xs,G,g5,g6⟩:=S.dx.at' i _ (kT L);refine⟨.ref b,g1,b,xs,rfl,G,S,?_⟩;rw[ee];refine⟨ds,ks,f1,hd,W,λq H' t1 I hq us u1 u2 u3=>?_⟩;have nb:b≠q:=λz=>by rw[z,hq] at G;cases G
   have lx:xs.length<=1000:=by rw[<-lM (f:=λx:KA=>x.1),g5];exact l1
   have lu:us.length<=1000:=by rw[<-lM (f:=λx:KA=>x.1),u1];exact l2
   have lf:=mJ us [];have hk:(us.foldl putS []).map (·.1)=ks.foldl putKs []:=by rw[jU,u1];rfl
   have m0:∀x∈us.foldl putS [],SqT X.K H' x.2 (x.1.map V.int):=λx B=>(foldS_mem us [] x B).elim (λz=>by cases z) (u3 x);have m1:∀x∈xs,SqT X.K H' x.2 (x.1.map V.int):=λx B=>aI.seqT I (g6 x B);refine⟨q,us.foldl putS [],rfl,nb,I _ _ G,u2,m1,m0,?_,?_,λt'=>?_⟩;unfold jO at hh;have:=of_decide_eq_true hh;rw[<-hk,AJ] at this;exact this;rw[Bf];rw[lN] at lf;omega;have kp:Kp (λc=>c=b) H' (upd H' b (cT b ((us.foldl putS []).foldl putS xs))):=λc o q nn=>by rw[upd_ne nn];exact q
   have hR:∀c,c=b->RtO H' c:=λc z=>by subst z;exact⟨_,I _ _ G,.inr (.inr ⟨_,rfl⟩)⟩
   refine(show cE X.K RT Y old H (Z.set i (.dct ((ks.foldl putKs []).foldl putKs js))) D.nx from h) RT ZV _ (aBf I g2) aL
    ((S.grow I t1).mutD (kT L) g1 (I _ _ G) (.inr (.inr ⟨_,rfl⟩)) (λ_ z=>by cases z) (.inr (.inr ⟨_,rfl⟩)) ?_)
   rw[<-hk,<-g5];exact DOb.fold aR (λx B=>kp.seqT hR (m0 x B)) λx B=>kp.seqT hR (m1 x B);exact h.elim
 exact h.elim
theorem aJX(M:Mc X P Γ n)(G:bG Γ i x=true)(hk:PE X ek (WE X P n RT Y old Z k))(ha:PE X e (WE X P n RT Y old Z c))(q1:aK ek=true):PS X (.Assign [.Subscript (.Name x p) ek sp] e pos) (wS X RT Y old Z (ex P (call P n) Z (.dput i k c))):=by
 have hu:X.A.units+100<C5:=by have:=M.units;omega
 refine bC (oO ha (yU (dG M G) hk (aJq hu) (by intro _;cases ek <;> first|rfl|cases q1)) (by cases e <;> rfl) (by cases e <;> rfl)) λD ZV H t ⟨S,h⟩=>?_;have h:=OE.from (show OE X.K RT Y old H (O.from Z (ev P (call P n) Z c) λv=>O.from Z (ev P (call P n) Z k) λx=>(match v.d,gX Z i,nF x.d with
  | .bl true,some ks,some k=>if ks.length<=1000 then .next (Z.set i (.dct (putKs ks k))) else .bad|_,_,_=>.bad)) D from h)
 obtain⟨v,U,h⟩:=h.eq;obtain⟨y,ey,h⟩:=(OE.from h).eq;split at h;rename_i ks is hv e1 e2;split at h;rename_i q0;refine⟨S,?_⟩;rw[U];intro u H1 t1 r1;have hu:u=.bl true:=by have:=r1.rv S;unfold Rv at this;rw[hv] at this;exact this
 have L:=S.grow r1.1 t1;obtain⟨a,g1,g2,g3,xs,W,g5,g6⟩:=L.dx.at' i _ (kT e1);refine⟨.ref a,g1,L,?_⟩;rw[ey];intro u2 I t2 B;obtain⟨b,rfl,kb⟩:=mK e2 (B.rv L);have lx:xs.length<=1000:=by rw[<-lM (f:=λx:KA=>x.1),g5];exact q0
 refine⟨a,b,xs,is,rfl,rfl,hu,B.1 _ _ W,λx G=>aI.seqT B.1 (g6 x G),kb,by rw[Bf];omega,λt'=>?_⟩;have kp:Kp (λc=>c=a) I (upd I a (cT a (putS xs (is,b)))):=λc o q nn=>by rw[upd_ne nn];exact q
 have hR:∀c,c=a->RtO I c:=λc z=>by subst z;exact⟨_,B.1 _ _ W,.inr (.inr ⟨_,rfl⟩)⟩
 have hd:DOb X.K (upd I a (cT a (putS xs (is,b)))) a (putKs ks is):=⟨_,aR,by rw[sD,g5],λx G=>by
  rcases putS_mem G with z|z;exact kp.seqT hR (aI.seqT B.1 (g6 x z));rw[z];exact kp.seqT hR kb⟩
 exact(show cE X.K RT Y old H (Z.set i (.dct (putKs ks is))) D.nx from h) _ ZV _ (aBf (r1.1.trans B.1) g2) aL ((L.grow B.1 t2).mutD (kT e1) g1 (B.1 _ _ W) (.inr (.inr ⟨_,rfl⟩)) (λ_ z=>by cases z) (.inr (.inr ⟨_,rfl⟩)) hd);exact h.elim;exact h.elim
end
section
variable {P:Pg} {n:Nat} {Y old:Addr->Prop}
theorem aEs(h:hU Γ (.t is) tg=true):∃es k p,tg=.Tuple es k p:=by
 cases tg with
 | Tuple es k p=>exact⟨es,k,p,rfl⟩|_=>cases h
theorem aCz(h:hU Γ (.n i) tg=true):∃x p,tg=.Name x p/\aZ Γ i x=true:=by
 cases tg with
 | Name x p=>exact⟨x,p,rfl,h⟩|_=>cases h
theorem mP(h:fZ Γ i m c=some xs):fG c=false/\oY c=false:=by obtain⟨x,p,B,G,rfl,_⟩:=iW h;exact⟨rfl,rfl⟩
theorem aCA(h:aQ Γ c e=true)(B:fG e=true):∃k caps t it cond elt,c=.comp k caps t it cond elt:=by
 cases c with
 | comp k caps t it cond elt=>exact⟨k,caps,t,it,cond,elt,rfl⟩|c d=>rcases(C3 _ _).mp (show(oS (asC e) (eqC d)||oS (asN e) λx=>bT Γ x&&bO x&&oB (Γ.cns.lookup x) (eqK d))=true from h) with h|h;obtain⟨_,⟨_,_,rfl⟩,_⟩:=aD h;cases B;obtain⟨_,⟨_,rfl⟩,_⟩:=aD h;cases B
 | v i=>obtain⟨_,⟨_,rfl⟩,_⟩:=aD h;cases B|op o a b=>obtain⟨_,⟨_,rfl⟩,_⟩:=aD h;cases B|neg a=>obtain⟨_,⟨_,rfl⟩,_⟩:=aD h;cases B|nt a=>obtain⟨_,⟨_,rfl⟩,_⟩:=aD h;cases B|an a b=>obtain⟨_,rfl,_⟩:=aD h;cases B|orr a b=>obtain⟨_,rfl,_⟩:=aD h;cases B|ife t a b=>obtain⟨_,⟨_,rfl⟩,_⟩:=aD h;cases B|cmp o a b=>obtain⟨_,⟨_,rfl⟩,_⟩:=aD h;cases B|cmp2 G I a b c=>obtain⟨_,⟨_,rfl⟩,_⟩:=aD h;cases B|idx a b=>obtain⟨_,⟨_,rfl⟩,_⟩:=aD h;cases B|sli a lo hi=>obtain⟨_,⟨_,rfl⟩,_⟩:=aD h;cases B|tup es=>obtain⟨_,⟨_,_,rfl⟩,_⟩:=aD h;cases B|lst es=>obtain⟨_,⟨_,rfl⟩,_⟩:=aD h;cases B|call f es=>obtain⟨_,⟨_,_,rfl⟩,_⟩:=aD h;cases B|bi b es=>obtain⟨_,⟨_,_,rfl⟩,_⟩:=aD h;cases B|mth _ _ _=>cases h|isi a cs=>obtain⟨_,⟨_,_,rfl⟩,_⟩:=aD h;cases B|numset _=>cases h|tget _ _=>cases h|lzip _ _=>cases h|dic ks vs=>cases h|lix i k=>obtain⟨_,⟨_,rfl⟩,_⟩:=aD h;cases B|stp _ _=>cases h|sset a=>obtain⟨_,⟨_,_,rfl⟩,_⟩:=aD h;cases B|callP f es=>obtain⟨_,⟨_,_,rfl⟩,_⟩:=aD h;cases B|srtD i=>obtain⟨_,⟨_,_,rfl⟩,_⟩:=aD h;cases B|callC f a b c=>obtain⟨_,⟨_,_,rfl⟩,_⟩:=aD h;cases B|attr _ _=>cases h
theorem m1{f:A2->Bool}(h:(match fZ Γ i m c with|some [a]=>f a|_=>false)=true):∃a,fZ Γ i m c=some [a]/\f a=true:=by split at h;rename_i a q;exact⟨a,q,h⟩;cases h
theorem m0(h:(match fZ Γ i m c with|some []=>true|_=>false)=true):fZ Γ i m c=some []:=by split at h;rename_i q;exact q;cases h
abbrev QS(P:Pg)(n:Nat)(Y old:Addr->Prop)(c:S):Prop:=∀{X:Cx} {Γ:Ct},Mc X P Γ n->∀{st:Cu},cN Γ c st=true->∀(RT:Addr->Prop) (Z:Sg),PS X st (wS X RT Y old Z (ex P (call P n) Z c))
abbrev QSs(P:Pg)(n:Nat)(Y old:Addr->Prop)(c:Ss):Prop:=∀{X:Cx} {Γ:Ct},Mc X P Γ n->∀{st:List Cu},chkSs Γ c st=true->∀(RT:Addr->Prop) (Z:Sg),PSs X st (wS X RT Y old Z (exs P (call P n) Z c))
theorem aMY:QS P n Y old (.set t e):=λ{X Γ} M {st} h RT Z=>by
 delta cN at h;obtain⟨⟨tg,v⟩,⟨p,rfl⟩,g⟩:=aD h;clear h;obtain⟨h1,L,h3⟩:=cL g;clear g;cases t with
 | n i=>
  obtain⟨x,p,B,hx⟩:=aCz h1;have B:tg=.Name x p:=B;subst B;cases hc:fG v with
  | false=>exact aJF M hx (sE e M L RT Y old Z) hc|true=>obtain⟨k,caps,t,it,cond,elt,rfl⟩:=aCA L hc;obtain⟨el,tg,I,q0,scope,G,W,O,g1,g2,g3,g4,g5⟩:=aBb L;have W:v=.ListComp el [⟨tg,I,q0,0⟩] scope G:=W;subst W;refine aCy M hx (O.scope M) O.ndc O.tk (sI it M g3 RT Y old Z) (λC s₀ H₀ ex=>?_) (fP (jS g3));have U:=O.mc M C s₀ H₀ ex;exact⟨zZ U g2,λRT Y old Z1=>sTs cond U g1 g4 RT Y old Z1,λRT Y old Z1=>sE elt U g5 RT Y old Z1⟩
 | t is=>obtain⟨es,k,p,B⟩:=aEs h1;have B:tg=.Tuple es k p:=B;subst B;refine aJG M h1 (sE e M L RT Y old Z) ?_;have:(false||!oY v)=true:=h3;simpa using this
theorem aMZ:QS P n Y old (.mov i j):=λ{X Γ} M {st} h RT Z=>by delta cN at h;obtain⟨⟨tg,v⟩,⟨p,rfl⟩,g⟩:=aD h;clear h;obtain⟨x,⟨U,B⟩,g⟩:=aD g;obtain⟨y,⟨W,G⟩,g⟩:=aD g;have B:tg=.Name x U:=B;have G:v=.Name y W:=G;subst B G;obtain⟨I,L⟩:=cO g;exact aMS M I L
theorem aGJ:QS P n Y old (.setIx i k e):=λ{X Γ} M {st} h RT Z=>by delta cN at h;obtain⟨⟨tg,v⟩,⟨p,rfl⟩,g⟩:=aD h;clear h;obtain⟨⟨o,ix⟩,⟨W,B⟩,g⟩:=aD g;obtain⟨x,⟨p2,G⟩,g⟩:=aD g;have B:tg=.Subscript o ix W:=B;have G:o=.Name x p2:=G;subst B G;obtain⟨L,I,U⟩:=cL g;exact aGC M L (sE k M I RT Y old Z) (sE e M U RT Y old Z) (aJ I)
theorem aNa:QS P n Y old (.app i e):=λ{X Γ} M {st} h RT Z=>by delta cN at h;obtain⟨c,⟨p,rfl⟩,g⟩:=aD h;obtain⟨a,G,B⟩:=m1 (f:=λa=>aQ Γ e a) g;exact aMQ M G (sE e M B RT Y old Z) (aJ B)
theorem aNb:QS P n Y old (.ext i e):=λ{X Γ} M {st} h RT Z=>by delta cN at h;obtain⟨c,⟨p,rfl⟩,g⟩:=aD h;obtain⟨a,G,B⟩:=m1 (f:=λa=>aQ Γ e a) g;exact aMR M G (sE e M B RT Y old Z) (aJ B)
theorem aGK:QS P n Y old (.pop none i none):=λ{X Γ} M {st} h RT Z=>by delta cN at h;obtain⟨c,⟨p,rfl⟩,g⟩:=aD h;have B:=m0 (Γ:=Γ) (i:=i) (m:= "pop") (c:=c) g;exact aJH (aEq M B) (mP B).1
theorem aGL:QS P n Y old (.pop (some t) i none):=λ{X Γ} M {st} h RT Z=>by delta cN at h;obtain⟨⟨tg,c⟩,⟨p,rfl⟩,g⟩:=aD h;obtain⟨G,g⟩:=cO g;have B:=m0 g;exact aJI M G (aEq M B) (mP B).1 (mP B).2
theorem aNc:QS P n Y old (.ret e):=λ{X Γ} M {st} h RT Z=>by delta cN at h;obtain⟨r,⟨p,rfl⟩,g⟩:=aD h;clear h;obtain⟨v,B,g⟩:=xC g;subst B;exact aMP (sE e M g RT Y old Z)
theorem aJY:QS P n Y old (.retv i):=λ{X Γ} M {st} h RT Z=>by delta cN at h;obtain⟨r,⟨p,rfl⟩,g⟩:=aD h;clear h;obtain⟨v,G,g⟩:=xC g;subst G;obtain⟨x,⟨I,B⟩,g⟩:=aD g;have B:v=.Name x I:=B;subst B;exact aJE M g
theorem aJZ:QS P n Y old .retN:=λ{X Γ} M {st} h RT Z=>by
 delta cN at h;obtain⟨r,⟨p,rfl⟩,g⟩:=aD h;cases r with
 | none=>exact aJD|some _=>cases g
set_option smartUnfolding false in
theorem aNd(L:QSs P n Y old a)(U:QSs P n Y old b):QS P n Y old (.iff c a b):=λ{X Γ} M {st} h RT Z=>by delta cN at h;obtain⟨⟨t,x,y⟩,⟨p,rfl⟩,g⟩:=aD h;obtain⟨B,G,I⟩:=cL g;exact aPg (sT c M B RT Y old Z) (L M G) (U M I)
set_option smartUnfolding false in
theorem aNe(U:QSs P n Y old b):QS P n Y old (.for t it b):=λ{X Γ} M {st} h RT Z=>by delta cN at h;obtain⟨⟨tg,G,body⟩,⟨p,rfl⟩,g⟩:=aD h;obtain⟨I,B,L⟩:=cL g;exact aMT M I (sI it M B RT Y old Z) (U M L) (fP (jS B))
set_option smartUnfolding false in
theorem aNf(I:QSs P n Y old b):QS P n Y old (.whl c b):=λ{X Γ} M {st} h RT Z=>by delta cN at h;obtain⟨⟨t,body⟩,⟨p,rfl⟩,g⟩:=aD h;obtain⟨B,G⟩:=cO g;exact aMU M (λRT Z=>sT c M B RT Y old Z) (I M G)
theorem aNg:QS P n Y old .brk:=λ{X Γ} M {st} h RT Z=>by delta cN at h;obtain⟨_,⟨p,rfl⟩,_⟩:=aD h;exact aMM
theorem aNh:QS P n Y old .cnt:=λ{X Γ} M {st} h RT Z=>by delta cN at h;obtain⟨_,⟨p,rfl⟩,_⟩:=aD h;exact aMN
theorem aKa:QS P n Y old .pass:=λ{X Γ} M {st} h RT Z=>by delta cN at h;obtain⟨_,⟨p,rfl⟩,_⟩:=aD h;exact aJC
theorem aPi:QS P n Y old (.ex e):=λ{X Γ} M {st} h RT Z=>by delta cN at h;obtain⟨v,⟨p,rfl⟩,g⟩:=aD h;obtain⟨B,G⟩:=cO g;exact aPf (sE e M B RT Y old Z) (by simpa using G)
theorem aNi:QS P n Y old (.rse c k es):=by intro X Γ M st h RT Z;exact aMO
theorem kZ(z:∀Γ st,cN Γ c st=false):QS P n Y old c:=by intro X Γ M st h RT Z;rw[z] at h;cases h
set_option smartUnfolding false in
theorem aKb(B:QSs P n Y old b):QS P n Y old (.tryN b):=λ{X Γ} M {st} h RT Z=>by delta cN at h;obtain⟨r,⟨hd,hs,p,rfl⟩,g⟩:=aD h;exact aJT M (B M g RT Z)
theorem aKc:QS P n Y old (.dnew i):=λ{X Γ} M {st} h RT Z=>by delta cN at h;obtain⟨⟨tg,e⟩,I,g⟩:=aD h;clear h;obtain⟨p,rfl⟩:=I;obtain⟨x,⟨U,B⟩,g⟩:=aD g;have B:tg=.Name x U:=B;subst B;obtain⟨I,L⟩:=cO g;obtain⟨_,⟨W,G⟩,_⟩:=aD L;have G:e=.Dict [] [] W:=G;subst G;exact aJU M I
theorem aKd:QS P n Y old (.dset i c):=λ{X Γ} M {st} h RT Z=>by
 delta cN at h;obtain⟨⟨tg,e⟩,L,g⟩:=aD h;clear h;obtain⟨p,rfl⟩:=L;obtain⟨x,⟨p2,G⟩,g⟩:=aD g;have G:tg=.Name x p2:=G;subst G;obtain⟨L,U⟩:=cO g;obtain⟨⟨f,W⟩,⟨p3,p4,I⟩,U⟩:=aD U;have I:e=.Call (.Name f p3) W [] p4:=I;subst I;obtain⟨k1,k2,B⟩:=cL U;rcases W with _|⟨y,_|⟨_,_⟩⟩
 cases B;exact aJV M L (eq_of_beq k1) k2 (sE c M B RT Y old Z) (aJ B);cases B
theorem aKe:QS P n Y old (.dupd i c):=λ{X Γ} M {st} h RT Z=>by
 delta cN at h;obtain⟨e,⟨p,rfl⟩,g⟩:=aD h;cases I:fZ Γ i "update" e with
 | none=>rw[I] at g;cases g|some xs=>
  rw[I] at g;rcases xs with _|⟨a,_|⟨_,_⟩⟩
  cases g;obtain⟨⟨f,L⟩,⟨p3,p4,G⟩,U⟩:=aD g;have G:a=.Call (.Name f p3) L [] p4:=G;subst G;obtain⟨W,k2,B⟩:=cL U;rcases L with _|⟨y,_|⟨_,_⟩⟩
  cases B;exact aJW M I (eq_of_beq W) k2 (sE c M B RT Y old Z) (aJ B);cases B;cases g
theorem aKf:QS P n Y old (.dput i k e):=λ{X Γ} M {st} h RT Z=>by delta cN at h;obtain⟨⟨tg,v⟩,⟨p,rfl⟩,g⟩:=aD h;clear h;obtain⟨⟨o,ix⟩,⟨W,B⟩,g⟩:=aD g;obtain⟨x,⟨p2,G⟩,g⟩:=aD g;have B:tg=.Subscript o ix W:=B;have G:o=.Name x p2:=G;subst B G;obtain⟨L,I,U⟩:=cL g;exact aJX M L (sE k M I RT Y old Z) (sE e M U RT Y old Z) (aJ I)
theorem aKg:QS P n Y old (.lset i k e):=λ{X Γ} M {st} h RT Z=>by delta cN at h;obtain⟨⟨tg,v⟩,⟨p,rfl⟩,g⟩:=aD h;clear h;obtain⟨⟨o,ix⟩,⟨W,B⟩,g⟩:=aD g;obtain⟨x,⟨p2,G⟩,g⟩:=aD g;have B:tg=.Subscript o ix W:=B;have G:o=.Name x p2:=G;subst B G;obtain⟨L,I,U⟩:=cL g;exact aJN M L (sE k M I RT Y old Z) (sE e M U RT Y old Z) (aJ I)
theorem aKh:QS P n Y old (.setL i l fz e):=λ{X Γ} M {st} h RT Z=>by delta cN at h;obtain⟨⟨tg,v⟩,⟨p,rfl⟩,g⟩:=aD h;clear h;obtain⟨x,⟨U,B⟩,g⟩:=aD g;have B:tg=.Name x U:=B;subst B;obtain⟨G,I,L⟩:=cL g;exact aJO M G (qEL M e I) (by simpa using L)
theorem aKi:QS P n Y old (.appL i l e):=λ{X Γ} M {st} h RT Z=>by delta cN at h;obtain⟨c,⟨p,rfl⟩,g⟩:=aD h;obtain⟨a,G,B⟩:=m1 (f:=λa=>bQ Γ l e a) g;exact aJP M G (qEL M e B RT Z) (cY B)
theorem aKj:QS P n Y old (.retL e):=λ{X Γ} M {st} h RT Z=>by delta cN at h;obtain⟨r,⟨p,rfl⟩,g⟩:=aD h;clear h;obtain⟨v,B,g⟩:=xC g;subst B;exact aJQ (qEL M e g RT Z)
theorem aGM:QS P n Y old (.retvL i):=λ{X Γ} M {st} h RT Z=>by delta cN at h;obtain⟨r,⟨p,rfl⟩,g⟩:=aD h;clear h;obtain⟨v,G,g⟩:=xC g;subst G;obtain⟨x,⟨I,B⟩,g⟩:=aD g;have B:v=.Name x I:=B;subst B;exact aGI M g
set_option smartUnfolding false in
theorem aKk(hx:QSs P n Y old x)(hy:QSs P n Y old y):QS P n Y old (.iffL o a b x y):=λ{X Γ} M {st} h RT Z=>by
 delta cN at h;obtain⟨⟨t,u,v⟩,⟨p,rfl⟩,G⟩:=aD h;obtain⟨L,h2,h3⟩:=cL G;obtain⟨⟨l,os,U⟩,⟨p2,B⟩,g⟩:=aD L;clear L G h;have B:t=.Compare l os U p2:=B;subst B;rcases os with _|⟨o',_|⟨_,_⟩⟩
 cases g;rcases U with _|⟨z,_|⟨_,_⟩⟩
 cases g;obtain⟨g1,g2,I⟩:=cL g;have W:o=o':=eq_of_beq g1;subst W;exact aJR M (qEL M a g2 RT Z) (λZ=>sE b M I RT Y old Z) (aJ I) (hx M h2) (hy M h3);cases g;cases g
set_option smartUnfolding false in
theorem aKl(hb:QSs P n Y old b):QS P n Y old (.forL t e b):=λ{X Γ} M {st} h RT Z=>by
 delta cN at h;obtain⟨⟨tg,B,body⟩,⟨p,rfl⟩,L⟩:=aD h;obtain⟨h1,U,h3⟩:=cL L;obtain⟨⟨f,xs⟩,⟨p1,p2,I⟩,g⟩:=aD U;clear U L h;have I:B=.Call (.Name f p1) xs [] p2:=I;subst I;obtain⟨W,g2,G⟩:=cL g;rcases xs with _|⟨x,_|⟨_,_⟩⟩
 cases G;exact aJS M h1 (eq_of_beq W) g2 (qEL M e G RT Z) (cY G) (hb M h3);cases G
theorem aKm:QSs P n Y old (.cons .lend cs):=λ{X Γ} M {st} h RT Z=>gE (t:=λ_ _ _=>False) (λpins s ZV H D I L=>L.elim) λD ZV H t ⟨S,B⟩=>by have B:OE X.K RT Y old H (O.on (match Z[(0:Nat)]? with|some (.sh true (.err 0 cs))=>.next (Z.set 0 (.lent cs))|_=>.bad) λZ'=>exs P (call P n) Z' cs) D:=B;split at B;rename_i ds e;obtain⟨v,_,G⟩:=S.sh 0 true (.err 0 ds) e;exact G;exact B
theorem aNj:QSs P n Y old .nil:=λ{X Γ} M {st} h RT Z=>by
 cases st with
 | nil=>exact aML|cons _ _=>exact nf h
def aNk:S->Bool
 | .lend=>true|.cln _=>true|_=>false
theorem aNl(hs:QSs P n Y old cs):QSs P n Y old (.cons (.cln z) cs):=λ{X Γ} M {st} h RT Z=>gE (hs M (by unfold chkSs at h;exact h) RT Z) λD ZV H t ⟨S,B⟩=>by refine⟨S,?_⟩;have B:OE X.K RT Y old H (O.on (match Z[z]? with|some (.sh true (.err 2 [d]))=>.next (Z.set z (.sh false d))|_=>.next Z) λZ'=>exs P (call P n) Z' cs) D:=B;split at B;rename_i d e;obtain⟨v,_,G⟩:=S.sh z true (.err 2 [d]) e;exact G.elim;exact OE.tkE B
theorem aAd{Γ:Ct}{c:S}{cs:Ss}{st:List Cu}(B:aNk c=false)(h:chkSs Γ (.cons c cs) st=true):∃x xs,st=x::xs/\cN Γ c x=true/\chkSs Γ cs xs=true:=by
 cases st with
 | nil=>cases c <;> first|exact nf h|cases B
 | cons x xs=>
  have h:(cN Γ c x&&chkSs Γ cs xs)=true:=by cases c <;> first|exact h|cases B
  obtain⟨G,I⟩:=cO h;exact⟨x,xs,rfl,G,I⟩
theorem aKn(I:QS P n Y old c)(hs:QSs P n Y old cs)(L:aNk c=false):QSs P n Y old (.cons c cs):=λ{X Γ} M {st} h RT Z=>by obtain⟨x,xs,rfl,B,G⟩:=aAd L h;exact aJB (I M B) (hs M G)
theorem aGN(B:QS P n Y old c)(hs:QSs P n Y old cs):QSs P n Y old (.cons c cs):=by
 cases c with
 | lend=>exact aKm|cln z=>exact aNl hs|_=>exact aKn B hs rfl
mutual
theorem sS:(c:S)->QS P n Y old c
 | .set _ _=>aMY|.mov _ _=>aMZ|.setIx _ _ _=>aGJ|.app _ _=>aNa|.ext _ _=>aNb|.pop none _ none=>aGK|.pop none _ (some _)=>kZ λ_ _=>rfl|.pop (some _) _ none=>aGL|.pop (some _) _ (some _)=>kZ λ_ _=>rfl|.clr _=>kZ λ_ _=>rfl|.ins _ _ _=>kZ λ_ _=>rfl|.rev _=>kZ λ_ _=>rfl|.appCall _ _ _=>kZ λ_ _=>rfl|.ret _=>aNc|.retv _=>aJY|.retN=>aJZ|.iff _ a b=>aNd (sSs a) (sSs b)|.for _ _ b=>aNe (sSs b)|.whl _ b=>aNf (sSs b)|.brk=>aNg|.cnt=>aNh|.pass=>aKa|.ex _=>aPi|.rse _ _ _=>aNi|.try _ _=>kZ λ_ _=>rfl|.tryN b=>aKb (sSs b)|.dnew _=>aKc|.dset _ _=>aKd|.dupd _ _=>aKe|.dput _ _ _=>aKf|.lend=>kZ λ_ _=>rfl|.cln _=>kZ λ_ _=>rfl|.lset _ _ _=>aKg|.setL _ _ _ _=>aKh|.appL _ _ _=>aKi|.retL _=>aKj|.retvL _=>aGM|.iffL _ _ _ x y=>aKk (sSs x) (sSs y)|.forL _ _ b=>aKl (sSs b)
theorem sSs:(c:Ss)->QSs P n Y old c
 | .nil=>aNj|.cons c cs=>aGN (sS c) (sSs cs)
end
end
structure Tx where
 x:Str
 qual:Str
 st:Cu
 N:List Str
def sR(Γ:Ct)(F:Fn)(t:Tx):Bool:=
 t.N.length==F.ns&&decide (F.np<=F.ns)&&decide t.N.Nodup&&(bL t.st).kind==.function&&!(bL t.st).isCoroutine&&!(bL t.st).isGenerator &&
 ((t.N.take F.np).all λx=>(bL t.st).names.lookup x==some .local||(bL t.st).names.lookup x==some .cell)&&((bL t.st).names.all λp=>p.2 != .free) &&
 chkSs { Γ with N:=t.N,sc:=(bL t.st).names,fn:=true } F.body (iR t.st)
def iG(Γ:Ct):List Fn->List Tx->Bool
 | [],[]=>true|F::Fs,t::ts=>sR Γ F t&&iG Γ Fs ts|_,_=>false
theorem gH:∀{B:List Fn} {ts:List Tx},iG Γ B ts=true->∀{f:Nat} {t:Tx},ts[f]? = some t->∃F,B[f]? = some F/\sR Γ F t=true
 | [],[],_,_,_,e=>by simp at e|[],_::_,h,_,_,_=>by cases h|_::_,[],h,_,_,_=>by cases h|F::B,t::ts,h,0,t',e=>by
  obtain⟨G,I⟩:=cO (show(sR Γ F t&&iG Γ B ts)=true from h);have M:t=t':=by simpa using e
  subst M;exact⟨F,rfl,G⟩
 | F::B,t::ts,h,f+1,t',e=>by obtain⟨G,I⟩:=cO (show(sR Γ F t&&iG Γ B ts)=true from h);obtain⟨L,U,W⟩:=gH I (f:=f) (t:=t') (by simpa using e);exact⟨L,by simpa using U,W⟩
section
variable {prog:A3} {w:AG} {K:Fg} {mg:Str->Option Value} {base:Heap} {P:Pg} {Γ:Ct} {txs:List Tx}
structure Top (prog:A3) (w:AG) (K:Fg) (mg:Str->Option Value) (P:Pg) (Γ:Ct) (txs:List Tx):Prop where
 fn:∀(f:Nat) (t:Tx),txs[f]? = some t->∃fa fd,mg t.x=some (.ref fa)/\Fun K t.x t.qual t.st fa fd/\∀F,P.fns[f]? = some F->jG K fd (t.N.take F.np) []
 fns:∀(f:Nat) (x:Str),Γ.fns[f]? = some x->∃t,txs[f]? = some t/\t.x=x
 blt:∀x∈bltNames,mg x=none
 cns:∀(x:Str) (d:D),Γ.cns.lookup x=some d->∃u v,mg x=some u/\bJ v u/\∀H ex,Rep K H ex d v
 tab:∀(i:Nat) (x:Str),Γ.tbs[i]? = some x->∃a t,mg x=some (.ref a)/\P.tabs[i]? = some t/\xA prog w K a t
 chk:iG Γ P.fns txs=true
theorem aBg{k f:Nat}{F:Fn}(B:P.fns[f]? = some F){vs:List V}{H:Hp}{Q:VK}{E:XK}(h:spF K P (k+1) f vs H Q E):vs.length=F.np:=by obtain⟨ds,Y,_,r,I⟩:=h;obtain⟨x,e,_⟩:=I.eq;have e:gU P (call P k) f ds=.ok x:=e;unfold gU at e;rw[B] at e;have e:(if ds.length=F.np then _ else R.bad)=R.ok x:=e;split at e;rename_i G;rw[<-r.length];exact G;cases e
theorem aGO{k f:Nat}{F:Fn}(L:P.fns[f]? = some F){vs:List V}{H:Hp}{Q:VK}{E:XK}(h:spC K P (k+1) f vs H Q E):vs.length=F.np:=by obtain⟨_,G,I,d,W,u2,u,Y,U,rfl,_,_,_,_,M⟩:=h;obtain⟨res,B,_⟩:=M.eq;have B:gU P (call P k) f [G,I,.err 2 [d]]=.ok res:=B;unfold gU at B;rw[L] at B;dsimp only at B;split at B;rename_i e;exact e;cases B
theorem aBh{k f:Nat}{F:Fn}(B:P.fns[f]? = some F){vs:List V}{H:Hp}{Q:VK}{E:XK}(h:spL K P (k+1) f vs H Q E):vs.length=F.np:=by obtain⟨_,cs,ds,p,xs,us,Y,rfl,_,_,_,r,I⟩:=h;obtain⟨x,e,_⟩:=I.eq;have e:gU P (call P k) f (.err 0 cs::ds)=.ok x:=e;unfold gU at e;rw[B] at e;have e:(if (D.err 0 cs::ds).length=F.np then _ else R.bad)=R.ok x:=e;split at e;rename_i G;rw[<-G,lC,lC,r.length];cases e
theorem aGP{Y:Addr->Prop}(hY:∀a,Y a->Od K H a)(t:Tk K H)(hp:H p=some (.lst xs))(rc:Reps K H (λb=>b=p\/Y b) cs xs)(r:Reps K H (λb=>b=p\/Y b) ds us) :
 Sx K (λb=>b=p) Y (λb=>Od K H b) ((((D.err 0 cs::ds).map λd=>Sl.sh true d)++Ae m Sl.dead).set 0 (.lent cs)) (((V.ref p::us).map some)++Ae m none) H:=by
 have I:Sx K (λb=>b=p) Y (λb=>Od K H b) (((D.non::ds).map λd=>Sl.sh true d)++Ae m Sl.dead) (((V.non::us).map some)++Ae m none) H:=pT hY (λ_ z=>z) t (λa z=>.lst (xs:=xs) (by rw[z];exact hp)) (.cons rfl r);have U:∀{j:Nat},0≠j->(((V.ref p::us).map some)++Ae m none)[j]? = (((V.non::us).map some)++Ae m none)[j]? := λ{j} L=>by
  cases j with
  | zero=>exact absurd rfl L|succ j=>rfl
 have sl:∀{j:Nat} {s:Sl},((((D.err 0 cs::ds).map λd=>Sl.sh true d)++Ae m Sl.dead).set 0 (.lent cs))[j]? = some s->(j=0/\s=.lent cs)\/(0≠j/\(((D.non::ds).map λd=>Sl.sh true d)++Ae m Sl.dead)[j]? = some s):=λ{j s} e=>by
  cases j with
  | zero=>exact .inl ⟨rfl,(An e).symm⟩|succ j=>exact .inr ⟨by omega,e⟩
 have M:∀{j:Nat} {ds':List D},(((D.non::ds).map λd=>Sl.sh true d)++Ae m Sl.dead)[j]? = some (.lent ds')->False:=λ{j ds'} e=>by rcases AY.mp (mG e) with z|z;obtain⟨_,_,e⟩:=A0.mp z;cases e;cases List.eq_of_mem_replicate z
 exact {
  sh:=λj pa d e=>by
   rcases sl e with⟨_,z⟩|⟨L,e⟩
   cases z;rw[U L];exact I.sh j pa d e
  own:=λj pa d e=>by
   rcases sl e with⟨_,z⟩|⟨L,e⟩
   cases z;rw[U L];exact I.own j pa d e
  trk:=I.trk
  yo:=I.yo
  tk:=I.tk
  rt:=I.rt
  inj:=λi j pa pa' q0 q1 a B G W e4=>by
   rcases sl B with⟨_,z⟩|⟨h1,B⟩
   cases z;rcases sl G with⟨_,z⟩|⟨h2,G⟩
   cases z;rw[U h1] at W;rw[U h2] at e4;exact I.inj i j pa pa' q0 q1 a B G W e4
  len:=by rw[Ax];exact I.len
  lx:={
   at':=λj ds' e=>by
    rcases sl e with⟨rfl,z⟩|⟨L,e⟩
    cases z;exact⟨p,xs,rfl,hp,rfl,(λz=>by rw[hp] at z;cases z),rc.weak λb z=>z.imp id λz=>z.elim id λz=>by cases z.1⟩;exact(M e).elim
   inj:=λi j q0 q1 a B G W e4=>by
    rcases sl B with⟨rfl,_⟩|⟨h1,B⟩
    rcases sl G with⟨rfl,_⟩|⟨h2,G⟩
    rfl;exact(M G).elim;exact(M B).elim }
  dx:={
   at':=λj t e=>by
    rcases sl e with⟨_,z⟩|⟨L,e⟩
    cases z;rw[U L];exact I.dx.at' j t e
   inj:=λi j t t' a B G W e4=>by
    rcases sl B with⟨_,z⟩|⟨h1,B⟩
    cases z;rcases sl G with⟨_,z⟩|⟨h2,G⟩
    cases z;rw[U h1] at W;rw[U h2] at e4;exact I.dx.inj i j t t' a B G W e4 } }
theorem aEt(h:aAJ b=true):∃r,b=.cons .lend r:=by unfold aAJ at h;split at h;exact⟨_,rfl⟩;cases h
theorem aGQ(h:aFY z b=true):∃r,b=.cons (.cln z) r:=by unfold aFY at h;split at h;rw[eq_of_beq h];exact⟨_,rfl⟩;cases h
theorem aCB{Γ:Ct}{z:Nat}{cs:Ss}{st:List Cu}(h:chkSs Γ (.cons (.cln z) cs) st=true):chkSs Γ cs st=true:=by unfold chkSs at h;exact h
theorem aAe{Γ:Ct}{cs:Ss}{st:List Cu}(h:chkSs Γ (.cons .lend cs) st=true):chkSs Γ cs st=true:=by cases st <;> exact h
theorem aGR(h:aDy x=some (d,cs)):x=.tup [d,.err 0 cs]:=by unfold aDy at h;split at h;cases h;rfl;cases h
theorem aBi{t:Tx}{F:Fn}(w3:∀(f:Nat) (x:Str),Γ.fns[f]? = some x->∃fa fd ps,mg x=some (.ref fa)/\CQ K (.ref fa)=true/\jG K fd ps []/\nT prog w K mg base CX0 k fa fd ps (spA K P k f))
 (q4:∀x∈bltNames,mg x=none) (q5:∀(x:Str) (d:D),Γ.cns.lookup x=some d->∃u v,mg x=some u/\bJ v u/\∀H ex,Rep K H ex d v) (q7:∀(i:Nat) (x:Str),Γ.tbs[i]? = some x->∃a t,mg x=some (.ref a)/\P.tabs[i]? = some t/\xA prog w K a t) (h2:Fun K t.x t.qual t.st fa fd) (hF:P.fns[f]? = some F) (hc:sR Γ F t=true) :
 nT prog w K mg base CX0 (k+1) fa fd (t.N.take F.np) (spA K P (k+1) f):=by
 unfold sR at hc;simp only[bA,beq_iff_eq,AN,Dm,Bc,C3,bne_iff_ne,ne_eq] at hc;obtain⟨⟨⟨⟨⟨⟨⟨⟨c1,c2⟩,c3⟩,c4⟩,c5⟩,c6⟩,c7⟩,c8⟩,c9⟩:=hc;have lt:(t.N.take F.np).length=F.np:=by rw[Bl];omega
 have sc:nY t.N (t.N.take F.np) (bL t.st):=⟨c4,c5,c6,c3,by rw[lt],c7,c8⟩
 refine h2.ok sc (λvs H Q E h=>by rw[lt];exact h.elim (aBg hF) λh=>h.elim (aBh hF) (aGO hF)) λcdv A outer s H vs Q E hr h=>?_;have M:Mc (zB CX0 prog w K mg base t.N t.qual (bL t.st) fa cdv A outer s H E).nox P { Γ with N:=t.N,sc:=(bL t.st).names,fn:=true } k:={
  md:=⟨w3,q4,q5,q7⟩
  N:=rfl
  nd:=c3
  sc:=rfl
  calm:=rfl
  room:=hr
  xe:=rfl
  st:=λ_ _=>.inl rfl
  fk:=c4 }
 rcases h with h|h|h;have L:=aBg hF h;obtain⟨ds,Y,hY,r,W⟩:=h;obtain⟨res,B,W⟩:=W.eq;have B:gU P (call P k) f ds=.ok res:=B;unfold gU at B;rw[hF] at B;have B:(if ds.length=F.np then (match exs P (call P k) ((ds.map λd=>Sl.sh true d)++Ae (F.ns-F.np) Sl.dead) F.body with
  | .ret v=>R.ok (v.d,v.fr,v.pa)|.next _=>R.ok (.non,false,false)|.exc x _=>R.exc x|_=>R.bad) else R.bad)=R.ok res:=B
 have hdl:ds.length=F.np:=by rw[r.length];exact L
 rw[if_pos hdl] at B;refine⟨_,gE (t':=λD ZV H'=>Tk K H'->wS _ (λ_=>False) Y (λb=>Od K H b) ((ds.map λd=>Sl.sh true d)++Ae (F.ns-F.np) Sl.dead) (exs P (call P k) ((ds.map λd=>Sl.sh true d)++Ae (F.ns-F.np) Sl.dead) F.body) D ZV H') (sSs (Y:=Y) (old:=λb=>Od K H b) F.body M c9 (λ_=>False) ((ds.map λd=>Sl.sh true d)++Ae (F.ns-F.np) Sl.dead)) (λD ZV H' tk hw=>⟨(hw tk).1,OE.tkE (hw tk).2⟩),λtk=>⟨?_,?_⟩⟩;have e:L2.start t.N vs=vs.map some++Ae (F.ns-F.np) none:=by unfold L2.start;rw[L,c1]
 rw[e];exact pT hY (λ_ z=>z) tk (λ_ z=>z.elim) (r.weak λa z=>z.elim BL id);have same:∀{H':Hp},Kp (λ_=>False) H H'->aI H H':=λk b o e=>k b o e id;show OE K (λ_=>False) Y (λb=>Od K H b) H (exs P (call P k) ((ds.map λd=>Sl.sh true d)++Ae (F.ns-F.np) Sl.dead) F.body) _;cases q:exs P (call P k) ((ds.map λd=>Sl.sh true d)++Ae (F.ns-F.np) Sl.dead) F.body with
 | next Z'=>rw[q] at B;cases(show R.ok (D.non,false,false)=R.ok res from B);exact λq8 q9 H' kp sub S'=>W .non H' S'.tk (same kp) (show(if false=true then _ else _) from aII rfl)|ret v=>
  rw[q] at B;cases(show R.ok (v.d,v.fr,v.pa)=R.ok res from B);refine λu H' kp U rt=>W u H' U (same kp) ?_;replace rt:Rtv K Y (λb=>Od K H b) H' v u:=rt.resolve_right λ⟨_,_,R2,p,_,_,I,hR,ho,hx,_⟩=>(I p hR).elim id λq=>ho q (U p (by rw[hx];simp));unfold Rr;unfold Rtv at rt;cases G:v.fr with
  | true=>rw[G,if_pos rfl] at rt;obtain⟨a,xs,ds',e1,e2,e3,e4,rr⟩:=rt;exact aLG ⟨a,xs,ds',e1,e2,zU e3,e4,rr⟩|false=>rw[G,if_neg bN] at rt;exact aII rt
 | brk Z'=>rw[q] at B;cases B|cnt Z'=>rw[q] at B;cases B|exc e Z'=>rw[q] at B;cases B|bad=>rw[q] at B;cases B
 have L:=aBh hF h;obtain⟨hl,cs,ds,p,xs,us,Y,rfl,hY,hp,rc,r,W⟩:=h;unfold nG at hl;rw[hF] at hl;obtain⟨rest,hb⟩:=aEt (show aAJ F.body=true from hl);rw[hb] at c9;have c9:=aAe c9;obtain⟨res,B,W⟩:=W.eq;obtain⟨d,w6,eu,W⟩:=W;have B:gU P (call P k) f (.err 0 cs::ds)=.ok res:=B;unfold gU at B;rw[hF] at B;have B:(if (D.err 0 cs::ds).length=F.np then (match exs P (call P k) (((D.err 0 cs::ds).map λd=>Sl.sh true d)++Ae (F.ns-F.np) Sl.dead) F.body with
  | .ret v=>R.ok (v.d,v.fr,v.pa)|.next _=>R.ok (.non,false,false)|.exc x _=>R.exc x|_=>R.bad) else R.bad)=R.ok res:=B
 have hdl:(D.err 0 cs::ds).length=F.np:=by rw[lC,r.length,<-lC (a:=V.ref p)];exact L
 rw[if_pos hdl,hb] at B;have B:(match exs P (call P k) ((((D.err 0 cs::ds).map λd=>Sl.sh true d)++Ae (F.ns-F.np) Sl.dead).set 0 (.lent cs)) rest with
  | .ret v=>R.ok (v.d,v.fr,v.pa)|.next _=>R.ok (.non,false,false)|.exc x _=>R.exc x|_=>R.bad)=R.ok res:=B
 have S0:Tk K H->Sx K (λb=>b=p) Y (λb=>Od K H b) ((((D.err 0 cs::ds).map λd=>Sl.sh true d)++Ae (F.ns-F.np) Sl.dead).set 0 (.lent cs)) (((V.ref p::us).map some)++Ae (F.ns-F.np) none) H:=λtk=>aGP hY tk hp rc r;revert B S0;generalize (((D.err 0 cs::ds).map λd=>Sl.sh true d)++Ae (F.ns-F.np) Sl.dead).set 0 (.lent cs)=σ0;intro B S0;refine⟨_,gE (t':=λD ZV H'=>Tk K H'->wS _ (λb=>b=p) Y (λb=>Od K H b) σ0 (exs P (call P k) σ0 rest) D ZV H') (sSs (Y:=Y) (old:=λb=>Od K H b) rest M c9 (λb=>b=p) σ0) (λD ZV H' tk hw=>⟨(hw tk).1,OE.tkE (hw tk).2⟩),λtk=>⟨?_,?_⟩⟩;have e:L2.start t.N (V.ref p::us)=(V.ref p::us).map some++Ae (F.ns-F.np) none:=by unfold L2.start;rw[L,c1]
 rw[e];exact S0 tk;show OE K (λb=>b=p) Y (λb=>Od K H b) H (exs P (call P k) σ0 rest) _;cases q:exs P (call P k) σ0 rest with
 | next Z'=>rw[q] at B;cases(show R.ok (D.non,false,false)=R.ok res from B);cases eu|ret v=>
  rw[q] at B;cases(show R.ok (v.d,v.fr,v.pa)=R.ok res from B);have eu:=aGR eu;intro u H' kp U rt;rcases rt with rt|⟨d2,w7,R2,p2,w5,e2,I,hR,ho,hx,rr,hv⟩
  exfalso;unfold Rtv at rt;cases G:v.fr with
  | true=>rw[G,if_pos rfl] at rt;obtain⟨_,_,_,_,e3,_⟩:=rt;rw[show v.d=_ from eu] at e3;cases e3|false=>rw[G,if_neg bN,show v.d=_ from eu] at rt;obtain⟨_,_,_,_,x1,r1,_,_,x2,r2,_,z,_⟩:=rt;exact z
  rw[show v.d=_ from eu] at e2;cases e2;have w4:p2=p:=(I p2 hR).resolve_right λq=>ho q (U p2 (by rw[hx];simp));subst w4;refine W u H' R2 w5 U kp hR I hx rr ?_;show(if v.fr=true then _ else _);by_cases G:v.fr=true;rw[if_pos G] at hv ⊢;obtain⟨a,ys,es,v1,v2,v3,v4,v5,v6⟩:=hv;exact⟨a,ys,es,v1,v2,zU v3,v4,v5,v6⟩;rw[if_neg G] at hv ⊢;exact hv
 | brk Z'=>rw[q] at B;cases B|cnt Z'=>rw[q] at B;cases B|exc e Z'=>rw[q] at B;cases B|bad=>rw[q] at B;cases B
 obtain⟨hl,d1,d2,d,u1,u2,u,Y,Z0,rfl,hY,q1,q2,q3,W⟩:=h;unfold aCb at hl;rw[hF] at hl;obtain⟨rest,hb⟩:=aGQ (show aFY 2 F.body=true from hl);rw[hb] at c9;have c9:=aCB c9;obtain⟨res,B,W⟩:=W.eq;have B:gU P (call P k) f [d1,d2,.err 2 [d]]=.ok res:=B;unfold gU at B;rw[hF] at B;have q6:3=F.np:=by have q0:=B;dsimp only at q0;split at q0;rename_i e;exact e;cases q0
 have B:(if [d1,d2,D.err 2 [d]].length=F.np then (match exs P (call P k) (([d1,d2,D.err 2 [d]].map λd=>Sl.sh true d)++Ae (F.ns-F.np) Sl.dead) F.body with
  | .ret v=>R.ok (v.d,v.fr,v.pa)|.next _=>R.ok (.non,false,false)|.exc x _=>R.exc x|_=>R.bad) else R.bad)=R.ok res:=B
 rw[if_pos (show [d1,d2,D.err 2 [d]].length=F.np from q6),hb] at B;have B:(match exs P (call P k) ((([d1,d2,d].map λd=>Sl.sh true d)++Ae (F.ns-F.np) Sl.dead).set 2 (.sh false d)) rest with
  | .ret v=>R.ok (v.d,v.fr,v.pa)|.next _=>R.ok (.non,false,false)|.exc x _=>R.exc x|_=>R.bad)=R.ok res:=B
 have S0:Tk K H->Sx K (λ_=>False) Y (λb=>Od K H b/\¬ Z0 b) ((([d1,d2,d].map λd=>Sl.sh true d)++Ae (F.ns-F.np) Sl.dead).set 2 (.sh false d)) (([u1,u2,u].map some)++Ae (F.ns-F.np) none) H:=λtk=>(pT (ds:=[d1,d2,d]) (vs:=[u1,u2,u]) hY (λ_ z=>z.1) tk (λ_ z=>z.elim) ⟨u1,_,rfl,q1.weak λa z=>z.elim BL id,u2,_,rfl,q2.weak λa z=>z.elim BL id,u,_,rfl,q3.weak λa z=>z.elim BL (hY a),rfl⟩).clean (v:=u) rfl (q3.weak λa z=>z.elim BL λz=>z.elim (hY a) (·.2));revert B S0;generalize (([d1,d2,d].map λd=>Sl.sh true d)++Ae (F.ns-F.np) Sl.dead).set 2 (.sh false d)=σ0;intro B S0;refine⟨_,gE (t':=λD ZV H'=>Tk K H'->wS _ (λ_=>False) Y (λb=>Od K H b/\¬ Z0 b) σ0 (exs P (call P k) σ0 rest) D ZV H') (sSs (Y:=Y) (old:=λb=>Od K H b/\¬ Z0 b) rest M c9 (λ_=>False) σ0) (λD ZV H' tk hw=>⟨(hw tk).1,OE.tkE (hw tk).2⟩),λtk=>⟨?_,?_⟩⟩;have e:L2.start t.N [u1,u2,u]=[u1,u2,u].map some++Ae (F.ns-F.np) none:=by unfold L2.start;rw[<-q6,c1];rfl
 rw[e];exact S0 tk;have same:∀{H':Hp},Kp (λ_=>False) H H'->aI H H':=λk b o e=>k b o e id;show OE K (λ_=>False) Y (λb=>Od K H b/\¬ Z0 b) H (exs P (call P k) σ0 rest) _;cases q:exs P (call P k) σ0 rest with
 | next Z'=>rw[q] at B;cases(show R.ok (D.non,false,false)=R.ok res from B);exact λq8 q9 H' kp sub S'=>W .non H' S'.tk (same kp) rfl|ret v=>
  rw[q] at B;cases(show R.ok (v.d,v.fr,v.pa)=R.ok res from B);refine λu H' kp U rt=>W u H' U (same kp) ?_;replace rt:Rtv K Y (λb=>Od K H b/\¬ Z0 b) H' v u:=rt.resolve_right λ⟨_,_,R2,p,_,_,I,hR,ho,hx,_⟩=>(I p hR).elim id λq=>ho.1 q (U p (by rw[hx];simp));unfold Rtv at rt;cases G:v.fr with
  | true=>rw[G,if_pos rfl] at rt;obtain⟨a,xs,ds',e1,e2,e3,e4,rr⟩:=rt;show Rep K H' _ v.d u;rw[e2];exact⟨a,xs,e1,SqL.of e4,⟨λz=>e3 (z.elim (hY a) (·.2)),λ_=>e4⟩,rr.weak λb z=>.inr z⟩|false=>rw[G,if_neg bN] at rt;exact rt
 | brk Z'=>rw[q] at B;cases B|cnt Z'=>rw[q] at B;cases B|exc e Z'=>rw[q] at B;cases B|bad=>rw[q] at B;cases B
theorem aEu(T:Top prog w K mg P Γ txs):∀(k f:Nat) (x:Str),Γ.fns[f]? = some x->∃fa fd ps,mg x=some (.ref fa)/\CQ K (.ref fa)=true/\jG K fd ps []/\nT prog w K mg base CX0 k fa fd ps (spA K P k f)
 | 0,f,x,B=>by
  obtain⟨t,I,rfl⟩:=T.fns f x B;obtain⟨fa,fd,U,L,W⟩:=T.fn f t I;obtain⟨F,M,_⟩:=gH T.chk I;have no:∀vs H Q E,¬ spA K P 0 f vs H Q E:=λvs H Q E h=>by
   rcases h with⟨ds,Y,_,r,G⟩|⟨_,_,_,_,_,_,_,_,_,_,_,_,G⟩|⟨_,_,_,_,_,_,_,_,_,_,_,_,_,_,G⟩
   exact G;exact G;exact G
  exact⟨fa,fd,_,U,L.kp,W F M,λvs H Q E h=>absurd h (no vs H Q E),λA outer s H args us vs Q E _ _ _ _ h=>absurd h (no vs H Q E)⟩
 | k+1,f,x,B=>by obtain⟨t,I,rfl⟩:=T.fns f x B;obtain⟨fa,fd,U,L,W⟩:=T.fn f t I;obtain⟨F,M,hc⟩:=gH T.chk I;exact⟨fa,fd,_,U,L.kp,W F M,aBi (λf x B=>aEu T k f x B) T.blt T.cns T.tab L M hc⟩
theorem aKo(T:Top prog w K mg P Γ txs){t:Tx}{F:Fn}(M:txs[f]? = some t)(G:P.fns[f]? = some F)(I:Fun K t.x t.qual t.st fa fd)(k:Nat):nT prog w K mg base CX0 (k+1) fa fd (t.N.take F.np) (spF K P (k+1) f):=by obtain⟨U,B,L⟩:=gH T.chk M;rw[G] at B;cases B;have h:=aBi (aEu (base:=base) T k) T.blt T.cns T.tab I G L;exact⟨λvs H Q E q=>h.1 vs H Q E (.inl q),λA outer s H args us vs Q E a b c d q=>h.2 A outer s H args us vs Q E a b c d (.inl q)⟩
theorem aKp{ns:List Int}(M:aFU H)(G:SqL K H a (ns.map V.int))(h:∃fr pa,call P k f [.lst (ns.map D.int)]=.ok (.bl true,fr,pa)) :
 spF K P k f [.ref a] H (λv _=>v=.bl true) λ_ _ _=>False:=by
 obtain⟨fr,pa,e⟩:=h;have L:∀(ns:List Int),Reps K H (λ_=>False) (ns.map D.int) (ns.map V.int):=by
  intro ns
  induction ns with
  | nil=>exact .nil|cons i ns I=>exact .cons rfl I
 refine⟨[.lst (ns.map D.int)],λ_=>False,λ_ z=>z.elim,.cons ⟨a,_,rfl,G,⟨id,λz=>by obtain⟨_,_,z⟩:=z;exact z.elim⟩,L ns⟩ .nil,?_⟩;rw[e];intro u H' _ _ rr;unfold Rr at rr;cases fr with
 | true=>rw[if_pos rfl] at rr;obtain⟨_,_,_,_,B,_⟩:=rr;cases B|false=>rw[if_neg bN] at rr;exact rr
end
end Hp
end
namespace Hp
open PySem PySem.Spec PyProof.Rows L2
def ER(w:AG)(K:Fg)(e:Cs)(p:Str×D):Prop:=e.hash=KF w p.1/\(∃tk,e.key=.str p.1 tk)/\∃v,bJ v e.val/\∀(H:Hp) (ex:Addr->Prop),Rep K H ex p.2 v
theorem sU{K:Fg}{H:Hp}{ex:Addr->Prop}:∀xs:List Str,Reps K H ex (xs.map D.str) (xs.map V.str)
 | []=>rfl|x::xs=>⟨.str x,xs.map V.str,rfl,rfl,sU xs⟩
theorem aEv{K:Fg}{b:Addr}{od:Option Addr}{its:Array Value}{n:Nat}{sl:Array (Option Value)}(h:K.lookup b=some ⟨.type "tuple",od,.seq its n,sl⟩)(xs:List Str)(hz:its.size<=1000)(B:aS (xs.map V.str) its.toList) :
 ∀(H:Hp) (ex:Addr->Prop),Rep K H ex (.tup (xs.map D.str)) (.ref b):=λH ex=>
 ⟨b,xs.map V.str,rfl,.inr ⟨_,its,n,h,rfl,rfl,AI hz (by rw[Bf];decide),B⟩,sU xs⟩
theorem aEw{prog:A3}{w:AG}{K:Fg}:∀{es:List Cs} {t:List (Str×D)},DT (ER w K) es t->∃vs:List (Key×Value),(∀e∈es,∃k:Key,(fU prog w).is k e.key=true/\e.hash=(fU prog w).hash k) /\
 Pairs (fU prog w) es vs/\vs.map (·.1)=t.map (λp=>(BO p.1:Key)) /\
 ∀k:Str,(t.lookup k=none/\FO vs (BO k:Key)=none)\/∃d u v,t.lookup k=some d/\FO vs (BO k:Key)=some u/\bJ v u/\∀(H:Hp) (ex:Addr->Prop),Rep K H ex d v
 | _,_,.nil=>⟨[],λe G=>absurd G (by simp),.nil,rfl,λk=>.inl ⟨rfl,rfl⟩⟩
 | e::es,p::t,.cons ⟨h1,⟨tk,h2⟩,v,h3,h4⟩ r=>by
  obtain⟨vs,M,U,W,g4⟩:=aEw (prog:=prog) r;have I:vW (BO p.1:Key) e.key=true:=by rw[h2];exact aBO p.1 tk
  refine⟨(BO p.1,e.val)::vs,λL G=>?_,.cons I rfl U,by rw[mC,mC,W],λk=>?_⟩;rcases As.mp G with rfl|G;exact⟨BO p.1,I,h1⟩;exact M L G;by_cases B:k=p.1;subst B;refine .inr ⟨p.2,e.val,v,?_,?_,h3,h4⟩;obtain⟨a,b⟩:=p;simp[DS];simp[FO];have n1:(p::t).lookup k=t.lookup k:=by obtain⟨a,b⟩:=p;have:(k==a)=false:=beq_eq_false_iff_ne.mpr B;simp[DS,this]
  have n2:FO ((BO p.1,e.val)::vs) (BO k:Key)=FO vs (BO k:Key):=by unfold FO;have:decide ((BO p.1:Key)=BO k)=false:=Av λz=>B (Ii z).symm;rw[IF];simp only[this]
  rw[n1,n2];exact g4 k
theorem aKq{prog:A3}{w:AG}{K:Fg}{a:Addr}{es:Array Cs}{ep:Nat}{t:List (Str×D)}(hs:(a==CB)=false)(h:K.lookup a=some ⟨.type "dict",none,.dict es ep,#[]⟩)(hp:DT (ER w K) es.toList t)(G:(t.map (·.1)).Nodup):xA prog w K a t:=by
 obtain⟨vs,I,L,M,U⟩:=aEw (prog:=prog) hp;refine⟨hs,vs,λhh X=>⟨_,es,ep,X a _ h,⟨rfl,rfl,rfl⟩,rfl,λe W=>I e (by simpa using W),L,?_⟩,U⟩;rw[M];have e:t.map (λp=>(BO p.1:Key))=(t.map (·.1)).map BO:=by rw[AJ];rfl
 rw[e];unfold K5 at G ⊢;rw[C7];exact G.imp λB z=>B (Ii z)
end Hp
namespace Hh
open PySem PySem.W PySem.Calls PyProof.Rows
def go(st:G7->Jn->Option (G7×Jn))(ok:Jn->Bool)(n:Nat):G7->Jn->Option G7:=
 @Nat.rec (λ_=>G7->Jn->Option G7) (λ_ _=>none) (λ_ ih s t=>match KK t with
  | true=>some s|false=>match ok t with
   | false=>none|true=>match st s t with
    | some (s',t')=>ih s' t'|none=>none) n
theorem oP{G:String->Option BX}:∀(n:Nat) (s B:G7) (t:Jn),go (KL (JY G) p w) (JZ n₀ ann) n s t=some B->topRun G p w n₀ ann n s.abs t=some B.abs
 | 0,_,_,_,h=>by cases h|n+1,s,B,t,h=>by
  have h:(match KK t with
   | true=>some s|false=>match JZ n₀ ann t with
    | false=>none|true=>match KL (JY G) p w s t with
     | some (B,t')=>go (KL (JY G) p w) (JZ n₀ ann) n B t'|none=>none)=some B:=h
  unfold topRun;cases L:KK t with
  | true=>rw[L] at h;cases h;rfl|false=>
   rw[L] at h;cases I:JZ n₀ ann t with
   | false=>rw[I] at h;cases h|true=>
    rw[I] at h;cases hs:KL (JY G) p w s t with
    | none=>rw[hs] at h;cases h|some r=>obtain⟨M,U⟩:=r;rw[hs] at h;rw[stepT_spec hs];exact oP n _ _ _ h
noncomputable def bt(l:List Obj)(n:Nat):Nat->Nat->BT:=
 @Nat.rec (λ_=>Nat->Nat->BT) (λ_ _=>.nil) (λ_ ih a b=>match l[b]? with
  | some o=>.node o (ih (2*a) (a+b)) (ih (2*a) (2*a+b))|none=>.nil) n
noncomputable def aEx{α:Type}(p q:A3)(loose:List Str)(Xt:Ad->Bool)(Yf:Ad->α)(h0:Heap)(s:Ad):=
 ((JL (FV p.main.body) h0 s.heap&&Jo p s.heap&&Kv s&&Kw h0 s.heap),openSeen q loose (FV p.main.body) Xt true s,Yf s)
theorem aGS{p q:A3}{G:List Str}{W:Ad->Bool}{α:Type}{Yf:Ad->α}{Ya:AG->α}{N B:Nat}{M:Option Value}{I:KC->BT}{L:Life}(e:opening p=plainProg p.main.scope.names)(hN:Nat.ble 600 N=true)(f:∀s,JA p s=some s)
 (hb:∀P,absHeap (I P) B L=BV P) (hz:∀P:KC,((BV P).isNs Bu,(BV P).objs.size,(BV P).nsMap Bu "__annotations__")=(true,B,M))
 (h:∀(w:AG) (os:IM),(go (KL (JY Id) p w) (JZ B M) N ⟨I w.params,B,L,Jp [],Hl,Ie,os⟩ (KM p)).map (λs=>aEx p q G W Yf (BV w.params) s.abs)=some (true,Kx q G,Ya w)):KZ p q G W Yf Ya N:=λw=>by
 obtain⟨⟨hh,gs,d,k,os⟩,e1,e2⟩:=Bx.mp (boot_open e hN f w);simp only[CK] at e2;obtain⟨rfl,rfl,rfl,rfl⟩:=e2;obtain⟨s,g1,U⟩:=Bx.mp (h w os);have r:=oP N _ _ _ g1;have r:topRun Id p w B M N ⟨BV w.params,Jp [],Hl,Ie,os⟩ (KM p)=some s.abs:=by rw[<-hb];exact r
 have z:=hz w.params;simp only[CK] at z;obtain⟨z1,z2,z3⟩:=z;unfold aEx at U;simp only[CK] at U;obtain⟨l1,l2,l3⟩:=U;have t:KN Id p w N ⟨BV w.params,Jp [],Hl,Ie,os⟩=some s.abs:=by unfold KN;dsimp only;rw[z1,z2,z3,r];show(match JL (FV p.main.body) (BV w.params) s.abs.heap&&Jo p s.abs.heap&&Kv s.abs&&Kw (BV w.params) s.abs.heap with|true=>_|false=>_)=_;rw[l1]
 unfold openEnds;rw[e1];show(KN Id p w N _).map _=_;rw[t];exact congrArg some (Kh l2 l3)
def T0(P:KC):BT:=bt (BV P).objs.toList 5 1 0
theorem aKr:∀P,absHeap (T0 P) 11 {}=BV P:=λP=>by kernel_rfl
theorem aGT:∀P:KC,((BV P).isNs Bu,(BV P).objs.size,(BV P).nsMap Bu "__annotations__")=(true,11,some (.ref 6)):=λP=>by kernel_rfl
abbrev aNm:=@PySem.W.Fast.tw10156331382660048174
abbrev qOk:=@PySem.W.Fast.tw6613529449190102663
abbrev aPj:=@PySem.W.Fast.tw11892475500146522536
abbrev aPk:=@PySem.W.Fast.tw14364793385576792824
abbrev aNn:=@PySem.W.Fast.tw4187177175401517315
abbrev aNo:=@PySem.W.Fast.tw5923862056798008813
def aNp{α:Type}(p q:A3)(loose:List Str)(Yf:Ad->α)(N:Nat)(w:AG)(os:IM):=
 (go (aNm (aPj aPk) p w) (qOk 11 (some (.ref 6))) N ⟨T0 w.params,11,{},Jp [],Hl,Ie,os⟩ (KM p)).map λs=>((JL (aNo p.main.body) (BV w.params) s.abs.heap&&Jo p s.abs.heap&&Kv s.abs&&Kw (BV w.params) s.abs.heap),aNn q loose (aNo p.main.body) (λ_=>true) true s.abs,Yf s.abs)
theorem aKs{p q:A3}{B:List Str}{α:Type}{I:Ad->α}{G:AG->α}{N:Nat}(e:opening p=plainProg p.main.scope.names)(L:Nat.ble 600 N=true)(f:∀s,JA p s=some s)
 (h:∀w os,aNp p q B I N w os=some (true,Kx q B,G w)):KZ p q B (λ_=>true) I G N:=by refine aGS e L f aKr aGT λw os=>?_;unfold aEx;rw[GR,Hm,GS,GT,Hn,Ho];exact h w os
end Hh
namespace Hh
open PySem PySem.W PySem.Calls PyProof.Rows L2 Hp
def jV(h:Heap):Aq:=(A9 h.objs.size).filterMap λa=>(h.get? a).map λo=>(a,o)
theorem pU{α:Type}(f:Nat->Option α)(a:Nat):∀n,((A9 n).filterMap λi=>(f i).map λo=>(i,o)).lookup a=if a<n then f a else none
 | 0=>rfl|n+1=>by
  rw[List.range_succ,Ge,List.lookup_append,pU f a n];by_cases h:a<n;rw[if_pos h,if_pos (Br h)];cases q:f a with
  | some o=>rfl|none=>
   have B:(a==n)=false:=beq_eq_false_iff_ne.mpr (Aw h);cases G:f n with
   | none=>simp[G]|some o=>simp[G,DS,B]
  rw[if_neg h];by_cases e:a=n;subst e;rw[if_pos (Bz _)];cases q:f a with
  | none=>simp[q]|some o=>simp[q,DS]
  rw[if_neg (by omega)];have B:(a==n)=false:=beq_eq_false_iff_ne.mpr e;cases G:f n with
  | none=>simp[G]|some o=>simp[G,DS,B]
theorem cM(h:Heap)(a:Addr):(jV h).lookup a=h.get? a:=by
 unfold jV;rw[pU];by_cases q:a<h.objs.size;rw[if_pos q];rw[if_neg q];cases e:h.get? a with
 | none=>rfl|some o=>exact absurd (Am e) q
theorem aBj{h h':Heap}(k:∀b o,h.get? b=some o->h'.get? b=some o):(jV h).In h':=λa o e=>k a o (by rw[<-cM];exact e)
def mQ(h:Heap)(x:Str):Option (Option Value):=match h.get? Bu with
 | some ⟨_,_,.dict es _,_⟩=>(match es.toList.find? (λe=>match e.key with|.str y _=>HL y x|_=>false) with
  | some e=>some (some e.val)|none=>if es.toList.any (·.refKey) then none else some none)
 | _=>none
theorem aEy(v:Value)(x:Str):v.isStr x=(match v with|.str y _=>HL y x|_=>false):=by
 cases v with
 | str y t=>show(y==x)=HL y x;rw[Bool.eq_iff_iff,beq_iff_eq,Ka]|_=>rfl
theorem gI(h:Heap)(x:Str):nsIn (jV h) Bu x=mQ h x:=by unfold nsIn mQ;rw[cM];simp only[aEy];rfl
noncomputable def pV(h:Heap)(cd:Value):Option Str:=match cd with
 | .ref c=>(match h.get? c with
  | some ⟨_,_,.fields vs,_⟩=>(match vs.toList with|_::.str n _::_=>some n|_=>none)
  | _=>none)
 | _=>none
theorem aCC(e:pV h cd=some q):codeIn (jV h) cd q=true:=by unfold pV at e;unfold codeIn;split at e;rename_i c;simp only[cM];split at e;rename_i vs _ B;rw[B];split at e;rename_i a n t r G;cases e;simp only[G,beq_self_eq_true];cases e;cases e;cases e
abbrev Pin:=Str×Str×G6×FuncBody×Dp×Addr×List (Str×Addr)×Value×Addr×Option Str
def aAf(h:Heap)(x:Str):Option Pin:=match mQ h x with
 | some (some (.ref a))=>(match h.get? a with
  | some ⟨_,_,.func fd,_⟩=>some (fd.name,fd.qualname,fd.params,fd.body,fd.scope,fd.globals,fd.closure,fd.defaults,fd.builtins,pV h fd.code)|_=>none)
 | _=>none
def cJ(s:Cu):Str:=match s with|.FunctionDef x _ _ _ _ _ _ _ _ _=>x|_=>⟨#[]⟩
def aEz(st:Cu):Pin:=(cJ st,cJ st,iQ st,.stmts (iR st),bL st,Bu,[],.none,GV,some (cJ st))
theorem aGU{h:Heap}{st:Cu}(e:aAf h (cJ st)=some (aEz st)):∃fa fd,nsIn (jV h) Bu (cJ st)=some (some (.ref fa))/\Fun (jV h) (cJ st) (cJ st) st fa fd:=by unfold aAf at e;split at e;rename_i a L;split at e;rename_i c d fd sl B;obtain⟨n,qn,ps,b,sc,g,W,df,M,doc,pm,an,G,ct,U⟩:=fd;unfold aEz at e;simp only[C9,CK] at e;obtain⟨rfl,rfl,rfl,rfl,rfl,rfl,rfl,rfl,rfl,I⟩:=e;refine⟨a,_,by rw[gI];exact L,⟨⟨c,d,M,doc,pm,an,G,ct,sl,rfl,by rw[cM];exact B,aCC I⟩,?_⟩⟩;unfold keepIn;simp only[cM,B];cases e;cases e
theorem xV{α:Type}{x:Str}{u:α}:∀{ps:List Str} {us:List α},ps.Nodup->ps.length=us.length->(x,u)∈ps.zip us->(ps.zip us).lookup x=some u
 | [],_,_,_,h=>by simp at h|p::ps,[],_,h,_=>by simp at h|p::ps,v::us,hn,hl,h=>by rw[Ba] at h ⊢;obtain⟨B,G⟩:=AZ.mp hn;rcases As.mp h with h|h;cases h;simp[DS];have I:x∈ps:=(Ez h).1;have:(x==p)=false:=beq_eq_false_iff_ne.mpr λz=>B (z▸I);simp only[DS,this];exact xV G (by simpa using hl) h
theorem aEA{α:Type}(L:List (Str×α)):∀{ps:List Str} {us:List α},ps.length=us.length->(∀p∈ps.zip us,L.lookup p.1=some p.2)->(ps.filterMap λn=>(L.lookup n).map (n,·))=ps.zip us
 | [],_,_,_=>by simp|p::ps,[],h,_=>by simp at h|p::ps,v::us,hl,h=>by rw[Ba,Cj,h (p,v) (by simp),aEA L (ps:=ps) (us:=us) (by simpa using hl) λq B=>h q (by rw[Ba];exact Ag _ B)];rfl
theorem aEB{α:Type}(L:List (Str×α)):∀{ps:List Str} {us:List α},ps.length=us.length->(∀p∈ps.zip us,L.lookup p.1=some p.2)->(ps.filter λn=>(L.lookup n).isNone)=[]
 | [],_,_,_=>by simp|p::ps,[],h,_=>by simp at h|p::ps,v::us,hl,h=>by rw[List.filter_cons,h (p,v) (by simp),aEB L (ps:=ps) (us:=us) (by simpa using hl) λq B=>h q (by rw[Ba];exact Ag _ B)];rfl
def iX(a:G6)(ps:List Str):Bool:=match a with|⟨[],as,none,[],[],none,[]⟩=>decide (as.map (·.arg)=ps)&&decide ps.Nodup|_=>false
theorem pW{x q:Str}{a:G6}{b:List Cu}{sc:Dp}{kV doc pm:Value}{an:Option Addr}{cdv ct:Value}{ps:List Str}{us:List Value}(h:iX a ps=true)(B:us.length=ps.length) :
 IS (fnOf x q a b sc .none kV doc pm an cdv ct) ⟨us,[]⟩=pure (ps.zip us):=by
 unfold iX at h;split at h;rename_i as;obtain⟨G,I⟩:=Bool.and_eq_true_iff.mp h;have G:=of_decide_eq_true G;have I:=of_decide_eq_true I;have z:∀p∈ps.zip us,(ps.zip us).lookup p.1=some p.2:=λp W=>xV I B.symm W;have L:=aEB (ps.zip us) B.symm z;have M:=aEA (ps.zip us) B.symm z;unfold IS;have U:∀s:Value,s=.none->(JJ s)=pure none:=λs e=>by subst e;rfl
 simp only[mN,Dg,G,U,Gy,pure_bind,B,gt_iff_lt,AC,decide_false,Gh,Eh,lN,Nat.zero_sub,List.drop_nil,EE,AF,L,Ek,CI,D4,List.zip_nil_right,AH,M,if_false,bF];cases h
def xW(s:Cu):Bool:=match s with|.FunctionDef _ _ _ _ _ _ _ _ _ _=>true|_=>false
def aEC:D->Value->Bool
 | .int i,.int j _=>decide (i=j)|.str a,.str b _=>HL a b|.non,.none=>true|.bl a,.bool b=>a==b|_,_=>false
def aAg(h:Heap)(c:Str×D):Bool:=match mQ h c.1 with|some (some u)=>aEC c.2 u|_=>false
def lB:Value->Option Str
 | .str x _=>some x|_=>none
abbrev aED:=Int×Option Str×Option (Value×List (Option Str))
noncomputable def oF(h:Heap)(e:Cs):aED:=(e.hash,lB e.key,match e.val with
 | .ref b=>(match h.get? b with
  | some ⟨c,_,.seq its _,_⟩=>some (c,its.toList.map lB)|_=>none)
 | _=>none)
def uS(h:Heap)(x:Str):Option (Bool×Value×Option Addr×Array (Option Value)×List aED):=match mQ h x with
 | some (some (.ref a))=>(match h.get? a with
  | some ⟨c,d,.dict es _,sl⟩=>some (a==CB,c,d,sl,es.toList.map (oF h))|_=>none)
 | _=>none
def uT(w:AG)(p:Str×List Str):aED:=(KF w p.1,some p.1,some (.type "tuple",p.2.map some))
def aAh(w:AG)(t:List (Str×List Str)):Option (Bool×Value×Option Addr×Array (Option Value)×List aED):=some (false,.type "dict",none,#[],t.map (uT w))
def aCD(t:List (Str×List Str)):List (Str×D):=t.map λp=>(p.1,.tup (p.2.map D.str))
theorem aBk:∀{us:List Value} {xs:List Str},us.map lB=xs.map some->aS (xs.map V.str) us
 | [],[],_=>.nil|[],_::_,h=>by cases h|_::_,[],h=>by cases h|u::us,x::xs,h=>by rw[mC,mC] at h;obtain⟨B,G⟩:=JB h;refine .cons ?_ (aBk G);unfold lB at B;split at B;cases B;exact⟨_,rfl⟩;cases B
theorem aKt{p:Str×List Str}(q:oF h e=uT w p)(U:p.2.length<=1000):ER w (jV h) e (p.1,.tup (p.2.map D.str)):=by unfold oF uT at q;simp only[CK] at q;obtain⟨q1,G,B⟩:=q;refine⟨q1,?_,?_⟩;unfold lB at G;split at G;rename_i y tk I;exact⟨tk,by rw[I];exact congrArg (λz=>JC z tk) (An G)⟩;cases G;split at B;rename_i b I;split at B;rename_i c d its n sl W;have B:=An B;simp only[CK] at B;obtain⟨M,L⟩:=B;subst M;have hz:=congrArg Ik L;rw[lM,lM] at hz;exact⟨.ref b,by rw[I];rfl,aEv (by rw[cM];exact W) p.2 (by rw[<-A6,hz];exact U) (aBk L)⟩;cases B;cases B
theorem sV:∀{es:List Cs} {t:List (Str×List Str)},es.map (oF h)=t.map (uT w)->(∀p∈t,p.2.length<=1000)->DT (ER w (jV h)) es (aCD t)
 | [],[],_,_=>.nil|[],_::_,q,_=>by cases q|_::_,[],q,_=>by cases q|e::es,p::t,q,hl=>by rw[mC,mC] at q;obtain⟨B,G⟩:=JB q;exact .cons (aKt B (hl p (Ai ..))) (sV G λL I=>hl L (Ag _ I))
def aBl(t:List (Str×List Str)):Bool:=(t.all λp=>decide (p.2.length<=1000))&&decide (t.map (·.1)).Nodup
theorem aEE(e:uS h x=aAh w t)(ok:aBl t=true):∃a,nsIn (jV h) Bu x=some (some (.ref a))/\xA prog w (jV h) a (aCD t):=by unfold aBl at ok;rw[bA,Bc] at ok;unfold uS aAh at e;split at e;rename_i a I;split at e;rename_i c d es ep sl L;have e:=An e;simp only[CK] at e;obtain⟨B,rfl,rfl,rfl,G⟩:=e;refine⟨a,(gI h x).trans I,aKq B (by rw[cM];exact L) (sV G λp M=>of_decide_eq_true (ok.1 p M)) ?_⟩;unfold aCD;rw[AJ];exact of_decide_eq_true ok.2;cases e;cases e
structure Sn where
 cns:List (Str×D)
 tbs:List (Str×List (Str×List Str))
abbrev aHV:=List (Option Pin)×List (Option (Option Value))×Bool×List (Option (Bool×Value×Option Addr×Array (Option Value)×List aED))
def iY(p:A3)(n:Sn)(h:Heap):aHV:=
 ((p.main.body.filter xW).map (λst=>aAf h (cJ st)),bltNames.map (mQ h),n.cns.all (aAg h),n.tbs.map (λq=>uS h q.1))
def mR(p:A3)(n:Sn)(w:AG):aHV:=
 ((p.main.body.filter xW).map (λst=>some (aEz st)),bltNames.map (λ_=>some none),true,n.tbs.map (λq=>aAh w q.2))
def xX(p:A3)(i:Nat):Cu:=p.main.body.getD i (.Pass ⟨0,0,0,0⟩)
def nX(p:A3)(c:Nat×List Str):Tx:=⟨cJ (xX p c.1),cJ (xX p c.1),xX p c.1,c.2⟩
theorem aKu{p:A3}(h:xW (xX p i)=true):xX p i∈p.main.body:=by
 unfold xX at h ⊢;rw[AU] at h ⊢;cases e:p.main.body[i]? with
 | none=>rw[e] at h;cases h|some s=>exact mG e
theorem aGV{c:Str×D}(e:aAg h c=true):∃u v,nsIn (jV h) Bu c.1=some (some u)/\bJ v u/\∀H ex,Rep (jV h) H ex c.2 v:=by unfold aAg at e;split at e;rename_i u B;obtain⟨x,d⟩:=c;have e:aEC d u=true:=e;unfold aEC at e;split at e;cases of_decide_eq_true e;exact⟨_,.int _,(gI _ _).trans B,⟨_,rfl⟩,λ_ _=>rfl⟩;cases Ka.mp e;exact⟨_,.str _,(gI _ _).trans B,⟨_,rfl⟩,λ_ _=>rfl⟩;exact⟨_,.non,(gI _ _).trans B,rfl,λ_ _=>rfl⟩;cases eq_of_beq e;exact⟨_,.bl _,(gI _ _).trans B,rfl,λ_ _=>rfl⟩;cases e;cases e
theorem aKv{prog p:A3}{w:AG}{M h:Heap}{mg:Str->Option Value}{P:Pg}{Γ:Ct}{ix:List (Nat×List Str)}{n:Sn}(S:iY p n M=mR p n w)(k:∀b o,M.get? b=some o->h.get? b=some o)(G:h.Ns Bu mg)
 (hi:(ix.all λc=>xW (xX p c.1))=true) (h1:Γ.fns=(ix.map (nX p)).map (·.x)) (h2:Γ.cns=n.cns) (h3:Γ.tbs=n.tbs.map (·.1)) (h4:P.tabs=n.tbs.map λq=>aCD q.2) (h5:(n.tbs.all λq=>aBl q.2)=true)
 (hb:((P.fns.zip (ix.map (nX p))).all λq=>iX (iQ q.2.st) (q.2.N.take q.1.np))=true) (chk:iG Γ P.fns (ix.map (nX p))=true) :
 Top prog w (jV M) mg P Γ (ix.map (nX p)):=by
 unfold iY mR at S;simp only[CK] at S;obtain⟨s1,s2,s3,s4⟩:=S;have X:=aBj k;exact {
  fn:=λf t U=>by rw[Ar] at U;obtain⟨c,W,rfl⟩:=Bx.mp U;have hd:=Bc.mp hi c (mG W);obtain⟨fa,fd,L,I⟩:=aGU (Fo.mp s1 _ (Df.mpr ⟨aKu hd,hd⟩));refine⟨fa,fd,mg_of X G L,I,λF hF=>I.binds λkV doc pm an cdv ct us hl=>pW (Bc.mp hb (F,nX p c) (mG (i:=f) ?_)) hl⟩;rw[BP];exact⟨hF,by rw[Ar,W];rfl⟩
  fns:=λf x B=>by rw[h1,Ar] at B;obtain⟨t,U,rfl⟩:=Bx.mp B;exact⟨t,U,rfl⟩
  blt:=λx B=>mg_none_of X G ((gI M x).trans (Fo.mp s2 x B))
  cns:=λx d B=>by rw[h2] at B;obtain⟨u,v,L,I⟩:=aGV (Bc.mp s3 _ (B6 B));exact⟨u,v,mg_of X G L,I⟩
  tab:=λi x B=>by rw[h3,Ar] at B;obtain⟨q,hq,rfl⟩:=Bx.mp B;have hm:=mG hq;obtain⟨a,L,I⟩:=aEE (prog:=prog) (Fo.mp s4 q hm) (Bc.mp h5 q hm);exact⟨a,aCD q.2,mg_of X G L,by rw[h4,Ar,hq];rfl,I⟩
  chk:=chk }
theorem aEF{l:II}{XP:(Str->Option Value)->Heap->Prop}{YP:AG->Heap->Prop}{d:DefRec}{sp:Aq->Sp}(hn:l.most=some n)(W:n<=sizeLine)(M:d.params.defaults=[])(hr:jM k FI)
 (F:∀(w:AG) (mg:Str->Option Value) (fa:Addr) (h:Heap),YP w h->h.Ns Bu mg->mg d.name=some (.ref fa)->∃K:Aq,K.In h/\∃fd:Et,(∀(s:Ad) (u:Value),JM s fd ⟨[u],[]⟩ [(x,u)])/\∀base:Heap,K.In base->base.Ns Bu mg->nT l.prog w K mg base CX0 k fa fd [x] (sp K))
 (q0:∀(K:Aq) (H:Hp) (a:Addr) (ns:List Int),ns.length<=n->aFU H->SqL K H a (ns.map V.int)->sp K [.ref a] H (λv _=>v=.bl true) λ_ _ _=>False):PySem.W.WalkO q loose XP YP l.row.toRowW d [] (λf vs=>IZ f vs):=by refine Att.attach_call hn M λw s₀ q1 mg mb fa o pm cd doc a vs ns G Y ho hd q2 U L I B hg=>?_;obtain⟨K,KX,fd,hb,hF⟩:=F w mg fa _ Y G.T.g U;exact aDt KX G.T.g G.T.b G.T.builtins G.T.nolimit hg L I (AI B W) hr hF hb (λH hO hS=>q0 K H a ns B hO hS) λ_ _ _ z=>z
def lst(p:A3):Cu:=p.main.body.getLastD (.Pass ⟨0,0,0,0⟩)
def sW(p:A3):A3:={ p with main:={ p.main with body:=[lst p] } }
def uU(p:A3):List Str:=(p.main.scope.names.map (·.1)).filter λx=>!(HL x (cJ (lst p)))
def aKw(s:Cu):EJ:=match s with|.FunctionDef _ _ _ _ _ _ _ _ _ p=>p|_=>⟨0,0,0,0⟩
def jW(p:A3):DefRec:=⟨cJ (lst p),iQ (lst p),iR (lst p),bL (lst p),aKw (lst p)⟩
theorem aKx{l:II}{P:Pg}{n:Sn}{ix:List (Nat×List Str)}{k f N:Nat}{x:Str}{sl:List Str}(W:l.row.wellSaid=true)(U:KZ l.prog (sW l.prog) (uU l.prog) (λ_=>true) (λs=>iY l.prog n s.heap) (λw=>mR l.prog n w) N)
 (M:defOf (sW l.prog) l.name=some (jW l.prog,[])) (hp:l.prog.theDef l.name=some ((jW l.prog).params,(jW l.prog).body,(jW l.prog).scope)) (hk:kwWritten? (jW l.prog).params.kwonlyargs (jW l.prog).params.kw_defaults=some []) (q3:(!l.writes||([]:WRecords).isEmpty)=true)
 (ok:(chainsOk (sW l.prog)&&opensWell l.prog&&(frees l.row.toRowW&&l.row.within.isEmpty))=true) (hb:l.prog.bare) (hw:l.row.toRowW.promised) (hn:l.most=some 63) (q0:(jW l.prog).params.defaults=[])
 (hi:(ix.all λc=>xW (xX l.prog c.1))=true) (L:((P.fns.zip (ix.map (nX l.prog))).all λq=>iX (iQ q.2.st) (q.2.N.take q.1.np))=true) (chk:iG ⟨[],[],(ix.map (nX l.prog)).map (·.x),n.cns,[],true,n.tbs.map (·.1)⟩ P.fns (ix.map (nX l.prog))=true)
 (h4:P.tabs=n.tbs.map λq=>aCD q.2) (h5:(n.tbs.all λq=>aBl q.2)=true) (hr:jM (k+1) FI) (hx:(ix.map (nX l.prog))[f]? = some ⟨cJ (lst l.prog),cJ (lst l.prog),lst l.prog,x::sl⟩) (q2:(P.fns[f]?).map (·.np)=some 1)
 (pure:∀ns:List Int,ns.length<=63->∃fr pa,Hp.call P (k+1) f [.lst (ns.map D.int)]=.ok (.bl true,fr,pa)):l.row.Holds:=by refine holds_open (XP:=λ_ _=>True) (YP:=λw h=>∃B,iY l.prog n B=mR l.prog n w/\∀b o,B.get? b=some o->h.get? b=some o) U (λw s e=>⟨s.heap,e,λ_ _ z=>z⟩) (λw h h' ⟨B,e,k⟩ k'=>⟨B,e,λb o z=>k' b o (k b o z)⟩) (λ_ _=>trivial) (λ_ _ _ _ _=>trivial) M hp hk (λ_ _=>recFacts_nil rfl) q3 W ok hb hw ?_;obtain⟨F,hF,I⟩:=Bx.mp q2;refine aEF (sp:=λK=>spF K P (k+1) f) (x:=x) hn (by decide) q0 hr (λw mg fa h ⟨B,e,kk⟩ G q1=>?_) λK H a ns hl hO hS=>aKp hO hS (pure ns hl);have T:=aKv (prog:=l.prog) (w:=w) (P:=P) (Γ:=⟨[],[],(ix.map (nX l.prog)).map (·.x),n.cns,[],true,n.tbs.map (·.1)⟩) e kk G hi rfl rfl rfl h4 h5 L chk;obtain⟨q4,fd,g1,g2,g3⟩:=T.fn f _ hx;have e:=q1.symm.trans g1;cases e;have b:=g3 F hF;refine⟨jV B,aBj kk,fd,λs u=>?_,λbase _ _=>?_⟩;obtain⟨oc,od,kV,doc,pm,an,cdv,ct,osl,rfl,lk,q5⟩:=g2.ex;refine .of_eq ((pW (ps:=[x]) ?_ rfl).trans rfl);have:=Bc.mp L (F,_) (mG (i:=f) (BP.mpr ⟨hF,hx⟩));rw[I] at this;exact this;have:=aKo (base:=base) T hx hF g2 k;rw[I] at this;exact this
end Hh
namespace Hp
open PySem (Str Operator CmpOp)
section
variable {P:Pg} {W:Caller} {Z:Sg}
@[simp] theorem aC {α B:Type} (a:α) (f:α->R B):((R.ok a:R α) >>= f)=f a:=id rfl
@[simp] theorem xY {α:Type} (x:R α):R.iff true x=x:=id rfl
@[simp] theorem aPR {α:Type} (x:α):R.of (some x)=.ok x:=id rfl
@[simp] theorem aG {α:Type} (a:α) (f:α->O):O.from Z (.ok a) f=f a:=id rfl
@[simp] theorem aAi (f:Sg->O):(O.next Z).on f=f Z:=id rfl
@[simp] theorem nQ (v:Vl) (f:Sg->O):(O.ret v).on f=.ret v:=id rfl
@[simp] theorem eB (d:D):ev P W Z (.c d)=.ok (.cl d):=id rfl
@[simp] theorem eI (i:Nat):ev P W Z (.v i)=bV Z i:=id rfl
@[simp] theorem iH (o:Operator) (a b:E):ev P W Z (.op o a b)=(ev P W Z a >>= λx=>ev P W Z b >>= λy=>opD o x y):=id rfl
@[simp] theorem aPl (a:E):ev P W Z (.neg a)=(ev P W Z a >>= λx=>match x.d with|.int i=>.ok (.cl (.int (-i)))|_=>.bad):=id rfl
@[simp] theorem aNq (a:E):ev P W Z (.nt a)=(ev P W Z a >>= λx=>fF x >>= λk=>.ok (.cl (.bl (!k)))):=id rfl
@[simp] theorem aNr (a b:E):ev P W Z (.an a b)=(ev P W Z a >>= λx=>match x.d with|.bl true=>ev P W Z b|.bl false=>.ok (.cl (.bl false))|_=>.bad):=id rfl
@[simp] theorem aKy (a b:E):ev P W Z (.orr a b)=(ev P W Z a >>= λx=>match x.d with|.bl true=>.ok (.cl (.bl true))|.bl false=>ev P W Z b|_=>.bad):=id rfl
@[simp] theorem aKz (t a b:E):ev P W Z (.ife t a b)=(tst P W Z t >>= λx=>if x then ev P W Z a else ev P W Z b):=id rfl
@[simp] theorem aKA (o:CmpOp) (a b:E):ev P W Z (.cmp o a b)=(ev P W Z a >>= λx=>ev P W Z b >>= λy=>match bY o x.d y.d with|some k=>.ok (.cl (.bl k))|none=>.bad):=id rfl
@[simp] theorem aOe (o o':CmpOp) (a b c:E):ev P W Z (.cmp2 o o' a b c)=(ev P W Z a >>= λx=>ev P W Z b >>= λy=>match bY o x.d y.d with
 | some true=>ev P W Z c >>= λz=>(match bY o' y.d z.d with|some k=>.ok (.cl (.bl k))|none=>.bad)
 | some false=>.ok (.cl (.bl false))|none=>.bad):=id rfl
@[simp] theorem dR (a b:E):ev P W Z (.idx a b)=(ev P W Z a >>= λx=>ev P W Z b >>= λy=>bH x y):=id rfl
@[simp] theorem aEG (es:Es):ev P W Z (.tup es)=(evs P W Z es >>= λvs=>.ok (rV vs)):=id rfl
@[simp] theorem jX (es:Es):ev P W Z (.lst es)=(evs P W Z es >>= λvs=>.ok (oV vs)):=id rfl
@[simp] theorem eJ (f:Nat) (es:Es):ev P W Z (.call f es)=(evs P W Z es >>= λvs=>W f (vs.map (·.d)) >>= λr=>.ok (cS vs r)):=id rfl
@[simp] theorem jI (b:Bi) (es:Es):ev P W Z (.bi b es)=(evs P W Z es >>= λvs=>biD b vs):=id rfl
@[simp] theorem aPm (m:Mt) (o:E) (es:Es):ev P W Z (.mth m o es)=(ev P W Z o >>= λx=>evs P W Z es >>= λB=>mtD m x B):=id rfl
@[simp] theorem aPn (a:E) (cs:List Cl):ev P W Z (.isi a cs)=(ev P W Z a >>= λx=>match isI cs P x.d with|some k=>.ok (.cl (.bl k))|none=>.bad):=id rfl
@[simp] theorem aGW (a:E) (h:E):ev P W Z (.sli a .nil (.cons h .nil))=(ev P W Z a >>= λx=>ev P W Z h >>= λh=>match h.d with|.int h=>.iff (aH h) (eG x none (some h))|_=>.bad):=by
 show(ev P W Z a >>= λx=>evs P W Z .nil >>= λl=>evs P W Z (.cons h .nil) >>= λh=>_)=_;cases ev P W Z a with
 | ok x=>
  show(evs P W Z (.cons h .nil) >>= λh=>_)=(ev P W Z h >>= λh=>_)
  show((ev P W Z h >>= λx=>evs P W Z .nil >>= λxs=>R.ok (x::xs)) >>= λh=>_)=_;cases ev P W Z h <;> rfl
 | exc e=>rfl|bad=>rfl
theorem uV(k:Nat)(caps:List Nat)(t:T)(it:It)(cond:Es)(elt:E):ev P W Z (.comp k caps t it cond elt)=(walk P W Z it >>= λxs=>
 dD (λx=>aT (Ae k .dead++caps.map λi=>((freeze Z xs.2)[i]?).getD .dead) x t >>= λZ1=>tsts P W Z1 cond >>= λk=>if k then (ev P W Z1 elt >>= λy=>.ok (some y)) else .ok none) xs.1 >>= λvs=>
 .iff (decide (vs.length<=lim)) (.ok (kC k caps xs.2 vs))):=rfl
@[simp] theorem aLb (a:E):ev P W Z (.numset a)=(ev P W Z a >>= λx=>match x.d with
 | .lst ds=>(match tZ ds with|some ks=>.iff (decide (ds.length<=1000)) (.ok (.cl (.int (aDv ks).length)))|none=>.bad)
 | _=>.bad):=id rfl
@[simp] theorem bD:evs P W Z .nil=.ok []:=id rfl
@[simp] theorem aF (e:E) (es:Es):evs P W Z (.cons e es)=(ev P W Z e >>= λx=>evs P W Z es >>= λxs=>.ok (x::xs)):=id rfl
@[simp] theorem mS (a:E):tst P W Z (.nt a)=(tst P W Z a >>= λx=>.ok (!x)):=id rfl
@[simp] theorem aKB (a b:E):tst P W Z (.an a b)=(tst P W Z a >>= λx=>if x then tst P W Z b else .ok false):=id rfl
@[simp] theorem aBm (a b:E):tst P W Z (.orr a b)=(tst P W Z a >>= λx=>if x then .ok true else tst P W Z b):=id rfl
@[simp] theorem aPO (d:D):tst P W Z (.c d)=fF (.cl d):=id rfl
@[simp] theorem aPP (i:Nat):tst P W Z (.v i)=(bV Z i >>= λx=>fF x):=id rfl
@[simp] theorem fA (o:CmpOp) (a b:E):tst P W Z (.cmp o a b)=(ev P W Z a >>= λx=>ev P W Z b >>= λy=>match bY o x.d y.d with|some k=>.ok k|none=>.bad):=id rfl
@[simp] theorem aEH (o o':CmpOp) (a b c:E):tst P W Z (.cmp2 o o' a b c)=(ev P W Z a >>= λx=>ev P W Z b >>= λy=>match bY o x.d y.d with
 | some true=>ev P W Z c >>= λz=>(match bY o' y.d z.d with|some k=>.ok k|none=>.bad)
 | some false=>.ok false|none=>.bad):=id rfl
@[simp] theorem iI (f:Nat) (es:Es):tst P W Z (.call f es)=(evs P W Z es >>= λvs=>W f (vs.map (·.d)) >>= λr=>fF (cS vs r)):=id rfl
@[simp] theorem aOf (a:E) (cs:List Cl):tst P W Z (.isi a cs)=(ev P W Z a >>= λx=>match isI cs P x.d with|some k=>.ok k|none=>.bad):=id rfl
@[simp] theorem aOg (a b:E):tst P W Z (.idx a b)=(ev P W Z a >>= λx=>ev P W Z b >>= λy=>bH x y >>= λz=>fF z):=id rfl
@[simp] theorem aEI:tsts P W Z .nil=.ok true:=id rfl
@[simp] theorem aCE (e:E) (es:Es):tsts P W Z (.cons e es)=(tst P W Z e >>= λx=>if x then tsts P W Z es else .ok false):=id rfl
@[simp] theorem pX (a b:E):walk P W Z (.rng a b)=(ev P W Z a >>= λx=>ev P W Z b >>= λy=>match x.d,y.d with|.int i,.int j=>.iff (aH i&&aH j) (.ok ((bX i j).map .cl,[]))|_,_=>.bad):=id rfl
@[simp] theorem iJ (e:E):walk P W Z (.seq e)=(ev P W Z e >>= λx=>match x.d with
 | .lst ds=>.ok (items x ds,x.al)|.tup ds=>.ok (items x ds,x.al)|.str a=>.iff (decide (a.length<=lim)) (.ok (a.cps.toList.map λn=>.cl (.str ⟨#[n]⟩),[]))|_=>.bad):=id rfl
@[simp] theorem aEJ (a b:E):walk P W Z (.zip a b)=(ev P W Z a >>= λx=>ev P W Z b >>= λy=>match jN x.d,jN y.d with
 | some as,some bs=>.ok (items ⟨.non,false,x.pa||y.pa,x.al++y.al⟩ (jD as bs),x.al++y.al)|_,_=>.bad):=id rfl
@[simp] theorem eS (t:T) (e:E):ex P W Z (.set t e)=O.from Z (ev P W Z e) λv=>O.from Z (aT (freeze Z v.al) v t) .next:=id rfl
@[simp] theorem aKC (i:Nat) (e:E):ex P W Z (.app i e)=O.from Z (ev P W Z e) λv=>put Z i v λds=>some (ds++[v.d]):=id rfl
@[simp] theorem aEK (i:Nat) (e:E):ex P W Z (.ext i e)=O.from Z (ev P W Z e) λv=>match oW v with|some (v',ds')=>put Z i v' λds=>some (ds++ds')|none=>.bad:=id rfl
@[simp] theorem aPo (i:Nat):ex P W Z (.clr i)=put Z i (.cl .non) λ_=>some []:=id rfl
@[simp] theorem xZ (i:Nat) (k e:E):ex P W Z (.setIx i k e)=O.from Z (ev P W Z e) λv=>O.from Z (ev P W Z k) λB=>match B.d with
 | .int k=>put Z i v λds=>(match ixN ds.length k with|some j=>some (ds.set j v.d)|none=>none)
 | _=>.bad:=id rfl
@[simp] theorem iK (e:E):ex P W Z (.ret e)=O.from Z (ev P W Z e) .ret:=id rfl
@[simp] theorem aW (c:E) (a b:Ss):ex P W Z (.iff c a b)=O.from Z (tst P W Z c) λk=>if k then exs P W Z a else exs P W Z b:=id rfl
theorem uW(t:T)(it:It)(b:Ss):ex P W Z (.for t it b)=O.from Z (walk P W Z it) λxs=>cA (λZ x=>O.from Z (aT Z x t) λZ'=>exs P W Z' b) xs.1 (freeze Z xs.2):=rfl
@[simp] theorem aPp (i j:Nat):ex P W Z (.mov i j)=(match Z[j]? with
 | some (.own pa ds)=>if i=j then .bad else .next ((Z.set j .dead).set i (.own pa ds))|some (.sh pa d)=>.next (Z.set i (.sh (pa&&!noL d) d))|_=>.bad):=id rfl
@[simp] theorem aOh (i:Nat):ex P W Z (.retv i)=(match Z[i]? with|some (.own pa ds)=>.ret ⟨.lst ds,true,pa,[]⟩|_=>O.from Z (bV Z i) .ret):=id rfl
@[simp] theorem aNs (i:Nat) (k:E):ex P W Z (.pop none i (some k))=O.from Z (ev P W Z k >>= λv=>match v.d with|.int k=>.iff (aH k) (.ok (some k))|_=>.bad) λk=>O.from Z (hG Z i k) λr=>.next r.2:=id rfl
@[simp] theorem eK:exs P W Z .nil=.next Z:=id rfl
@[simp] theorem bI (s:S) (ss:Ss):exs P W Z (.cons s ss)=(ex P W Z s).on λZ'=>exs P W Z' ss:=id rfl
end
theorem aN{P:Pg}{F:Fn}{ds:List D}(B:P.fns[f]? = some F)(G:ds.length=F.np){v:Vl}
 (h:exs P W ((ds.map λd=>Sl.sh true d)++Ae (F.ns-F.np) Sl.dead) F.body=.ret v):gU P W f ds=.ok (v.d,v.fr,v.pa):=by unfold gU;rw[B];simp only[G,if_true,h]
theorem pY{f:Sg->Vl->O}:∀(xs:List Vl) (I:Nat->Sg->Prop) (Z:Sg),I 0 Z->(∀(i:Nat) (h:i<xs.length) (Z:Sg),I i Z->∃Z',f Z xs[i]=.next Z'/\I (i+1) Z')->∃Z',cA f xs Z=.next Z'/\I xs.length Z'
 | [],I,Z,h0,_=>⟨Z,rfl,h0⟩
 | x::xs,I,Z,h0,hs=>by
  obtain⟨Z1,B,M⟩:=hs 0 (by simp) Z h0;obtain⟨G,L,U⟩:=pY xs (λi=>I (i+1)) Z1 M λi h Z W=>by have:=hs (i+1) (by simpa using h) Z W;simpa using this
  refine⟨G,?_,by simpa using U⟩;have B:f Z x=.next Z1:=by simpa using B
  unfold cA;rw[B];exact L
theorem pZ{f:Vl->R (Option Vl)}{g:Vl->Vl}:∀{xs:List Vl},(∀x∈xs,f x=.ok (some (g x)))->dD f xs=.ok (xs.map g)
 | [],_=>rfl|x::xs,h=>by have G:=h x Ai;have I:=pZ (f:=f) (g:=g) (xs:=xs) λy L=>h y (Ag _ L);show(f x >>= λy=>dD f xs >>= λB=>(match y with|some y=>R.ok (y::B)|none=>R.ok B))=_;rw[G,I];rfl
theorem qB(n:Nat):(bX 0 (n:Int)).map Vl.cl=(A9 n).map λ(k:Nat)=>Vl.cl (.int (k:Int)):=by unfold bX;rw[AJ];simp
theorem aGX{caps:List Nat}{xs:List Vl}(g:Vl->Vl)(U:walk P W Z it=.ok (xs,al))(M:xs.length<=lim)
 (L:∀x∈xs,∃Z1,aT (Ae k .dead++caps.map λi=>((freeze Z al)[i]?).getD .dead) x t=.ok Z1/\ev P W Z1 elt=.ok (g x)):ev P W Z (.comp k caps t it .nil elt)=.ok (kC k caps al (xs.map g)):=by
 rw[uV,U,aC,pZ (g:=g) λx hx=>by
  obtain⟨Z1,G,I⟩:=L x hx;show(aT _ x t >>= λZ1=>_)=_;rw[G];show(ev P W Z1 elt >>= λy=>R.ok (some y))=_;rw[I];rfl]
 have B:decide ((xs.map g).length<=lim)=true:=Ao (by rw[lM];exact M);rw[aC,B,xY]
theorem eC{xs:List Vl}(I:Nat->Sg->Prop)(U:walk P W Z it=.ok (xs,al))(L:I 0 (freeze Z al))
 (hs:∀(i:Nat) (h:i<xs.length) (Z:Sg),I i Z->∃Z1 Z',aT Z xs[i] t=.ok Z1/\exs P W Z1 b=.next Z'/\I (i+1) Z'):∃Z',ex P W Z (.for t it b)=.next Z'/\I xs.length Z':=by rw[uW,U];refine pY xs I _ L λi h Z M=>?_;obtain⟨Z1,Z',B,G,h'⟩:=hs i h Z M;refine⟨Z',?_,h'⟩;show O.from Z (aT Z xs[i] t) _=_;rw[B];exact G
theorem uX:aH 0=true:=by decide
theorem gJ{n:Nat}(B:n<=1000000):aH (n:Int)=true:=by unfold aH;rw[bA,AN,AN];exact⟨HM (b:=0) (by decide) (Hq n),Int.lt_of_le_of_lt (b:=1000000) (by omega) (by decide)⟩
theorem aAj{P:Pg}{W:Caller}{Z:Sg}{a:E}{v:Vl}{n:Nat}(h:ev P W Z a=.ok v)(hd:v.d=.int n)(B:n<=1000000):walk P W Z (.rng (.c (.int 0)) a)=.ok ((A9 n).map λ(k:Nat)=>Vl.cl (.int (k:Int)),[]):=by rw[pX,h,eB,aC,aC,hd,<-qB];show R.iff (aH 0&&aH (n:Int)) _=_;rw[uX,gJ B];rfl
theorem sX{vs:List Vl}(h:noLs (vs.map (·.d))=true):kC k caps al vs=⟨.lst (vs.map (·.d)),true,false,[]⟩:=by unfold kC;rw[if_pos h]
end Hp
namespace HpS
open Hp PySem
def box(b:Str×Int):D:=.tup [.str b.1,.int b.2]
def aB(bs:List (Str×Int)):List D:=bs.map box
def aE(is:List Int):D:=.tup (is.map D.int)
structure aEL (bs:List (Str×Int)):Prop where
 few:bs.length<=5
 one:∀b∈bs,1<=b.2/\b.2<=7
 room:(bs.map λb=>b.2+1).foldl (·*·) 1<=24
def dB(bs:List (Str×Int)):Int:=(bs.map λb=>b.2+1).foldl (·*·) 1
theorem eT:∀is:List Int,noLs (is.map D.int)=true
 | []=>rfl|i::is=>by simp[noLs,noL,eT is]
@[simp] theorem aP (is:List Int):noL (aE is)=true:=by simp[aE,noL,eT]
@[simp] theorem oG (b:Str×Int):noL (box b)=true:=by simp[box,noL,noLs]
theorem iL:∀ss:List (List Int),noLs (ss.map aE)=true
 | []=>rfl|s::ss=>by simp[noLs,iL ss]
theorem yA(bs:List (Str×Int)):items v (aB bs)=bs.map λb=>Vl.cl (box b):=by simp[items,aB,Vl.sub,Fp]
theorem lD:∀(xs:List Int) (a:Int),1<=a->(∀x∈xs,1<=x)->a<=xs.foldl (·*·) a
 | [],a,_,_=>Int.le_refl _|x::xs,a,ha,h=>by
  have G:=h x Ai;have B:a<=a*x:=by have:=Int.mul_le_mul_of_nonneg_left G (show 0<=a by omega);omega
  exact HM B (lD xs (a*x) (by omega) λy I=>h y (Ag _ I))
theorem lE(bs:List (Str×Int))(h:∀b∈bs,1<=b.2)(i:Nat):1<=dB (bs.take i)/\dB (bs.take i)<=dB bs:=by
 have pos:∀(l:List (Str×Int)),(∀b∈l,1<=b.2)->∀x∈l.map (λb=>b.2+1),1<=x:=λl I x L=>by obtain⟨b,B,rfl⟩:=A0.mp L;have:=I b B;omega
 have e:bs=bs.take i++bs.drop i:=(Ec i bs).symm;have G:1<=dB (bs.take i):=lD _ 1 (by omega) (pos _ λb B=>h b (Bw B));refine⟨G,?_⟩;have:dB bs=((bs.drop i).map λb=>b.2+1).foldl (·*·) (dB (bs.take i)):=by
  unfold dB
  conv=>lhs;rw[e,Bd,CA]
 rw[this];exact lD _ _ G (pos _ λb B=>h b (G1 B))
theorem aCF{bs:List (Str×Int)}(h:i<bs.length):dB (bs.take (i+1))=dB (bs.take i)*(bs[i].2+1):=by rw[Bp h];unfold dB;rw[Bd,CA];rfl
noncomputable def uY:Fn:=⟨1,6,
 (.cons (.set (.n 1) (.lst (.cons (.tup .nil) .nil)))
 (.cons (.for (.t [2,3]) (.seq (.v 0))
  (.cons (.set (.n 4) (.lst .nil))
  (.cons (.for (.n 5) (.seq (.v 1))
   (.cons (.ext 4 (.comp 1 [5] (.n 0) (.rng (.c (.int 0)) (.op .Add (.v 3) (.c (.int 1)))) .nil (.op .Add (.v 1) (.tup (.cons (.v 0) .nil)))))
   .nil))
  (.cons (.mov 1 4)
  .nil))))
 (.cons (.retv 1)
 .nil)))⟩
def cR(b:List Int)(top:Int):List (List Int):=(A9 (top+1).toNat).map λ(h:Nat)=>b++[(h:Int)]
def extend(found:List (List Int))(top:Int):List (List Int):=found.flatMap λb=>cR b top
def standsL(bs:List (Str×Int)):List (List Int):=bs.foldl (λfound b=>extend found b.2) [[]]
theorem dH{bs:List (Str×Int)}(h:i<bs.length):standsL (bs.take (i+1))=extend (standsL (bs.take i)) bs[i].2:=by rw[Bp h];unfold standsL;rw[CA];rfl
theorem aAk(found:List (List Int))(top:Int):(extend found top).length=found.length*(top+1).toNat:=by
 induction found with
 | nil=>simp[extend]|cons b r B=>unfold extend at B ⊢;rw[List.flatMap_cons,lA,B,lC,Hz];simp[cR];omega
theorem qC{bs:List (Str×Int)}(h:aEL bs):∀i,i<=bs.length->((standsL (bs.take i)).length:Int)=dB (bs.take i)/\∀s∈standsL (bs.take i),s.length=i
 | 0,_=>by simp[standsL,dB]|i+1,hi=>by
  have B:i<bs.length:=by omega
  obtain⟨G,I⟩:=qC h i (by omega);obtain⟨M,U⟩:=h.one bs[i] (AO B);rw[dH B,aCF B,aAk];refine⟨?_,λs hs=>?_⟩;rw[DL,G,CM (by omega)];obtain⟨b,L,hs⟩:=El.mp hs;obtain⟨k,_,rfl⟩:=A0.mp hs;rw[lA,I b L];rfl
theorem aNt{bs:List (Str×Int)}(h:aEL bs)(i:Nat)(hi:i<=bs.length):(standsL (bs.take i)).length<=24:=by have G:=(qC h i hi).1;have I:=(lE bs (λb B=>(h.one b B).1) i).2;have L:dB bs<=24:=h.room;omega
theorem nR{found:List (List Int)}(h:j<found.length):(found.take (j+1)).flatMap (λb=>cR b top)=(found.take j).flatMap (λb=>cR b top)++cR found[j] top:=by rw[Bp h,GE];simp
theorem aGY{found:List (List Int)}(j:Nat):((found.take j).flatMap λb=>cR b top).length<=(extend found top).length:=by
 have e:found=found.take j++found.drop j:=(Ec j found).symm;unfold extend
 conv=>rhs;rw[e,GE,lA]
 omega
theorem uZ(ss:List (List Int)):items v (ss.map aE)=ss.map λs=>Vl.cl (aE s):=by simp[items,Vl.sub,Fp]
theorem aEM(n:Nat){b:List Int}(W:1<=top)(G:top<=7)(M:b.length<=10) :
 ev P (call P n) [s0,s1,s2,.sh false (.int top),s4,.sh false (aE b)] (.comp 1 [5] (.n 0) (.rng (.c (.int 0)) (.op .Add (.v 3) (.c (.int 1)))) .nil (.op .Add (.v 1) (.tup (.cons (.v 0) .nil))))=.ok ⟨.lst ((cR b top).map aE),true,false,[]⟩:=by
 have I:walk P (call P n) [s0,s1,s2,.sh false (.int top),s4,.sh false (aE b)] (.rng (.c (.int 0)) (.op .Add (.v 3) (.c (.int 1))))=.ok ((A9 (top+1).toNat).map λ(k:Nat)=>Vl.cl (.int (k:Int)),[]):=by refine aAj (v:=.cl (.int (top+1))) ?_ ?_ (by omega);simp[bV,Sl.val,opD,Vl.cl,noL];show D.int (top+1)=D.int ((top+1).toNat:Int);rw[CM (by omega)]
 rw[aGX (λv=>match v.d with|.int k=>.cl (aE (b++[k]))|_=>.cl .non) I];have e:(((A9 (top+1).toNat).map λ(k:Nat)=>Vl.cl (.int (k:Int))).map λv=>(match v.d with|.int k=>Vl.cl (aE (b++[k]))|_=>Vl.cl .non)).map (·.d)=(cR b top).map aE:=by simp[cR,Vl.cl,Fp]
 rw[sX (by rw[e];exact iL _),e];simp only[lM,Ce];unfold lim;omega;intro y L;obtain⟨k,U,rfl⟩:=A0.mp L;have B:b.length+1<=lim:=by unfold lim;omega
 refine⟨[.sh false (.int k),.sh false (aE b)],?_,?_⟩;simp[aT,Vl.cl,Vl.slot,freeze];simp[bV,Sl.val,Vl.cl,opD,rV,aU,bR,aE,noL,B,eT]
theorem aCG{P:Pg}(hF:P.fns[f]? = some uY)(n:Nat)(h:aEL bs):call P (n+1) f [.lst (aB bs)]=.ok (.lst ((standsL bs).map aE),true,false):=by
 obtain⟨Z',e,hI⟩:=eC (P:=P) (W:=call P n) (Z:=[.sh true (.lst (aB bs)),.own false [.tup []],.dead,.dead,.dead,.dead]) (t:=.t [2,3]) (it:=.seq (.v 0))
  (b:=.cons (.set (.n 4) (.lst .nil)) (.cons (.for (.n 5) (.seq (.v 1)) (.cons (.ext 4 (.comp 1 [5] (.n 0) (.rng (.c (.int 0)) (.op .Add (.v 3) (.c (.int 1)))) .nil (.op .Add (.v 1) (.tup (.cons (.v 0) .nil))))) .nil)) (.cons (.mov 1 4) .nil)))
  (xs:=bs.map λb=>Vl.cl (box b)) (al:=[])
  (λi Z=>∃s2 s3 s4 s5,Z=[.sh true (.lst (aB bs)),.own false ((standsL (bs.take i)).map aE),s2,s3,s4,s5])
  (by simp[bV,Sl.val,yA]) ⟨_,_,_,_,rfl⟩ (λi hi Z I=>by
   obtain⟨s2,s3,s4,s5,rfl⟩:=I;have B:i<bs.length:=by simpa using hi
   obtain⟨g2,g3⟩:=h.one bs[i] (AO B);have L:=aNt h (i+1) B;rw[dH B] at L;obtain⟨_,M⟩:=qC h i (by omega);have q2:=h.few;obtain⟨Z2,e2,hJ⟩:=eC (P:=P) (W:=call P n) (Z:=[.sh true (.lst (aB bs)),.own false ((standsL (bs.take i)).map aE),.sh false (.str bs[i].1),.sh false (.int bs[i].2),.own false [],s5]) (t:=.n 5) (it:=.seq (.v 1))
    (b:=.cons (.ext 4 (.comp 1 [5] (.n 0) (.rng (.c (.int 0)) (.op .Add (.v 3) (.c (.int 1)))) .nil (.op .Add (.v 1) (.tup (.cons (.v 0) .nil))))) .nil)
    (xs:=(standsL (bs.take i)).map λs=>Vl.cl (aE s)) (al:=[1])
    (λj Z=>∃s5,Z=[.sh true (.lst (aB bs)),.sh false (.lst ((standsL (bs.take i)).map aE)),.sh false (.str bs[i].1),.sh false (.int bs[i].2),.own false ((((standsL (bs.take i)).take j).flatMap λb=>cR b bs[i].2).map aE),s5])
    (by simp[bV,Sl.val,uZ]) ⟨_,by simp[freeze,Sl.freeze];rfl⟩ (λj hj Z I=>by
     obtain⟨s5,rfl⟩:=I;have G:j<(standsL (bs.take i)).length:=by simpa using hj
     have hb:(standsL (bs.take i))[j].length<=10:=by rw[M _ (AO G)];omega
     have hc:=aEM (P:=P) n (s0:=.sh true (.lst (aB bs))) (s1:=.sh false (.lst ((standsL (bs.take i)).map aE))) (s2:=.sh false (.str bs[i].1)) (s4:=.own false ((((standsL (bs.take i)).take j).flatMap λb=>cR b bs[i].2).map aE)) (b:=(standsL (bs.take i))[j]) g2 g3 hb;have q0:=aGY (found:=standsL (bs.take i)) (top:=bs[i].2) (j+1);rw[nR G,lA] at q0;have U:((((standsL (bs.take i)).take j).flatMap λb=>cR b bs[i].2).map aE++(cR (standsL (bs.take i))[j] bs[i].2).map aE).length<=lim:=by rw[lA,lM,lM];unfold lim;omega
     refine⟨[.sh true (.lst (aB bs)),.sh false (.lst ((standsL (bs.take i)).map aE)),.sh false (.str bs[i].1),.sh false (.int bs[i].2),.own false ((((standsL (bs.take i)).take j).flatMap λb=>cR b bs[i].2).map aE),.sh false (aE (standsL (bs.take i))[j])],
      [.sh true (.lst (aB bs)),.sh false (.lst ((standsL (bs.take i)).map aE)),.sh false (.str bs[i].1),.sh false (.int bs[i].2),.own false ((((standsL (bs.take i)).take (j+1)).flatMap λb=>cR b bs[i].2).map aE),.sh false (aE (standsL (bs.take i))[j])],?_,?_,⟨_,rfl⟩⟩
     simp[aT,Vl.cl,Vl.slot];rw[bI,aEK,hc,aG];show(match oW ⟨.lst ((cR (standsL (bs.take i))[j] bs[i].2).map aE),true,false,[]⟩ with|some (v',ds')=>put _ 4 v' λds=>some (ds++ds')|none=>.bad).on _=_;simp only[oW,iL,Bool.true_or,if_true];unfold put;simp only[freeze,fJ,gS,gZ];rw[if_pos U];simp[nR G])
   obtain⟨q1,rfl⟩:=hJ;refine⟨[.sh true (.lst (aB bs)),.own false ((standsL (bs.take i)).map aE),.sh false (.str bs[i].1),.sh false (.int bs[i].2),s4,s5],[.sh true (.lst (aB bs)),.own false ((standsL (bs.take (i+1))).map aE),.sh false (.str bs[i].1),.sh false (.int bs[i].2),.dead,q1],?_,?_,⟨_,_,_,_,rfl⟩⟩;simp[aT,box,Vl.cl,Vl.sub,noL,Vl.slot];have et:(standsL (bs.take i)).take ((standsL (bs.take i)).map λs=>Vl.cl (aE s)).length=standsL (bs.take i):=by simp
   rw[et] at e2;simp[oV,aU,bR,aT,freeze,Vl.slot,e2,dH B,extend])
 obtain⟨s2,s3,s4,s5,rfl⟩:=hI;have et:bs.take (bs.map λb=>Vl.cl (box b)).length=bs:=by simp
 rw[et] at e;refine aN (F:=uY) hF rfl (v:=⟨.lst ((standsL bs).map aE),true,false,[]⟩) ?_;simp[uY,oV,rV,aU,bR,aT,freeze,Vl.slot,e]
end HpS
namespace Hp
open PySem (Str)
@[simp] theorem aOi (d:D):(⟨d,false,false,[]⟩:Vl)=.cl d:=id rfl
@[simp] theorem cH (d:D):(Vl.cl d).d=d:=id rfl
@[simp] theorem aPQ (d:D):(Vl.cl d).fr=false:=id rfl
@[simp] theorem aHW (d:D):(Vl.cl d).pa=false:=id rfl
@[simp] theorem jJ (d:D):(Vl.cl d).al=[]:=id rfl
@[simp] theorem bS (d:D):(Vl.cl d).slot=.sh false d:=by cases d <;> rfl
@[simp] theorem aBn (ds:List D) (pa:Bool) (al:List Nat):(⟨.lst ds,true,pa,al⟩:Vl).slot=.own pa ds:=id rfl
@[simp] theorem aV (i:Nat) (d:D):Sl.val i (.sh false d)=.ok (.cl d):=id rfl
@[simp] theorem iZ (i:Nat) (pa:Bool) (k:Int):Sl.val i (.sh pa (.int k))=.ok (.cl (.int k)):=by cases pa <;> rfl
@[simp] theorem aOj (i:Nat) (pa:Bool) (k:Str):Sl.val i (.sh pa (.str k))=.ok (.cl (.str k)):=by cases pa <;> rfl
@[simp] theorem aPq (i:Nat) (pa:Bool) (k:Bool):Sl.val i (.sh pa (.bl k))=.ok (.cl (.bl k)):=by cases pa <;> rfl
@[simp] theorem aOk (i:Nat) (pa:Bool):Sl.val i (.sh pa .non)=.ok (.cl .non):=by cases pa <;> rfl
@[simp] theorem gK (i:Nat) (ds:List D):Sl.val i (.sh true (.lst ds))=.ok ⟨.lst ds,false,true,[]⟩:=id rfl
theorem bE(i:Nat)(pa:Bool)(h:noL d=true):Sl.val i (.sh pa d)=.ok (.cl d):=by unfold Sl.val;simp[h]
@[simp] theorem lF (i:Nat) (pa:Bool) (ds:List D):Sl.val i (.own pa ds)=.ok ⟨.lst ds,false,pa,[i]⟩:=id rfl
@[simp] theorem eE (Z:Sg) (v:Vl) (i:Nat):aT Z v (.n i)=.ok (Z.set i v.slot):=id rfl
@[simp] theorem bU (Z:Sg):freeze Z []=Z:=id rfl
@[simp] theorem aAl (b:Bool):fF (.cl (.bl b))=.ok b:=id rfl
@[simp] theorem mT (args:List Vl) (d:D):cS args (d,false,false)=.cl d:=id rfl
@[simp] theorem aPr (args:List Vl) (d:D):cS args (d,true,false)=⟨d,true,false,[]⟩:=id rfl
@[simp] theorem vA (a b:D):bY .Eq a b=eqD a b:=id rfl
@[simp] theorem aKD (a b:D):bY .NotEq a b=(eqD a b).map (!·):=id rfl
@[simp] theorem qD (a b:Int):bY .Lt (.int a) (.int b)=some (decide (a<b)):=id rfl
@[simp] theorem aAm (a b:Int):bY .Gt (.int a) (.int b)=some (decide (b<a)):=id rfl
@[simp] theorem aEN (a b:Int):bY .LtE (.int a) (.int b)=some (decide (a<=b)):=id rfl
@[simp] theorem aPs (a b:Int):bY .GtE (.int a) (.int b)=some (decide (b<=a)):=id rfl
theorem aGZ(n:Nat)(a b:Int):eqF (n+1) (.int a) (.int b)=some (a==b):=rfl
theorem aHa(n:Nat)(a b:List D):eqF (n+1) (.tup a) (.tup b)=eF n a b:=zG n a b
@[simp] theorem aBo (a b:Int):eqD (.int a) (.int b)=some (a==b):=id rfl
@[simp] theorem aBp (a b:Str):eqD (.str a) (.str b)=some (a==b):=id rfl
@[simp] theorem aPt (a b:Bool):eqD (.bl a) (.bl b)=some (a==b):=id rfl
@[simp] theorem aOl (P:Pg) (k:Int):isI [.tInt] P (.int k)=some true:=id rfl
@[simp] theorem aNu (P:Pg) (k:Int):isI [.tBool] P (.int k)=some false:=id rfl
@[simp] theorem aOm (P:Pg) (k:Str):isI [.tStr] P (.str k)=some true:=id rfl
@[simp] theorem aOn (P:Pg) (k:List D):isI [.tTuple] P (.tup k)=some true:=id rfl
@[simp] theorem aOo (P:Pg) (k:List D):isI [.tList] P (.lst k)=some true:=id rfl
@[simp] theorem aPu (P:Pg) (k:Bool):isI [.tBool] P (.bl k)=some true:=id rfl
@[simp] theorem add_int (i j:Int):opD .Add (.cl (.int i)) (.cl (.int j))=.ok (.cl (.int (i+j))):=id rfl
@[simp] theorem sub_int (i j:Int):opD .Sub (.cl (.int i)) (.cl (.int j))=.ok (.cl (.int (i-j))):=id rfl
theorem mul_int(h:rT i j=true):opD .Mult (.cl (.int i)) (.cl (.int j))=.ok (.cl (.int (i*j))):=by show R.iff (rT i j) _=_;rw[h];rfl
theorem vB(h:wH j=true):opD .FloorDiv (.cl (.int i)) (.cl (.int j))=.ok (.cl (.int (i / j))):=by show R.iff (wH j) _=_;rw[h];rfl
theorem aBq(h:0<j):opD .Mod (.cl (.int i)) (.cl (.int j))=.ok (.cl (.int (i % j))):=by show R.iff (decide (0<j)) _=_;rw[Ao h];rfl
@[simp] theorem oH (ds:List D) (fr pa:Bool) (al:List Nat):biD .len [⟨.lst ds,fr,pa,al⟩]=.ok (.cl (.int ds.length)):=id rfl
@[simp] theorem aOp (ds:List D):biD .len [.cl (.tup ds)]=.ok (.cl (.int ds.length)):=id rfl
@[simp] theorem aNv (ds:List D):biD .len [.cl (.lst ds)]=.ok (.cl (.int ds.length)):=id rfl
end Hp
namespace HpS
open Hp PySem
section
variable {P:Pg} {W:Caller} {Z Z':Sg}
theorem cs(h:ex P W Z s=.next Z')(r:exs P W Z' ss=o):exs P W Z (.cons s ss)=o:=by rw[bI,h,aAi,r]
theorem dM(h:ev P W Z e=.ok (.cl d)):ex P W Z (.set (.n i) e)=.next (Z.set i (.sh false d)):=by rw[eS,h,aG,jJ,bU,eE,aG,bS]
theorem cV(h:ev P W Z e=.ok v):exs P W Z (.cons (.ret e) ss)=.ret v:=by rw[bI,iK,h];rfl
theorem dJ(h:tst P W Z c=.ok false):ex P W Z (.iff c a .nil)=.next Z:=by rw[aW,h];rfl
theorem gR(h:tst P W Z c=.ok true)(r:exs P W Z a=.ret v):exs P W Z (.cons (.iff c a b) ss)=.ret v:=by rw[bI,aW,h,aG,if_pos rfl,r];rfl
theorem aY(h:ev P W Z a=.ok x)(k:ev P W Z b=.ok y)(e:bH x y=.ok z):ev P W Z (.idx a b)=.ok z:=by rw[dR,h,aC,k,aC,e]
theorem aX(h:ev P W Z a=.ok (.cl (.str w)))(q:(w==x)=b):tst P W Z (.cmp .Eq a (.c (.str x)))=.ok b:=by rw[fA,h,aC,eB,aC,cH,cH,vA,aBp,q]
theorem aHX(h:ev P W Z a=.ok (.cl (.str w)))(q:(w==x)=b):ev P W Z (.cmp .Eq a (.c (.str x)))=.ok (.cl (.bl b)):=by rw[aKA,h,aC,eB,aC,cH,cH,vA,aBp,q]
theorem cW{x y z:Vl}(B:ev P W Z a=.ok x)(G:ev P W Z b=.ok y)(I:ev P W Z c=.ok z)(L:W f [x.d,y.d,z.d]=.ok (d,false,false)):ev P W Z (.call f (.cons a (.cons b (.cons c .nil))))=.ok (.cl d):=by
 have e:evs P W Z (.cons a (.cons b (.cons c .nil)))=.ok [x,y,z]:=by rw[aF,B,aC,aF,G,aC,aF,I,aC,bD];rfl
 rw[eJ,e,aC,show [x,y,z].map (·.d)=[x.d,y.d,z.d] from rfl,L];rfl
theorem v0_(h:noL d=true):ev P W (.sh true d::r) (.v 0)=.ok (.cl d):=bE 0 true h
theorem v1_(h:noL d=true):ev P W (s::.sh true d::r) (.v 1)=.ok (.cl d):=bE 1 true h
theorem v2_(h:noL d=true):ev P W (s::t::.sh true d::r) (.v 2)=.ok (.cl d):=bE 2 true h
theorem qF(h:tst P W Z t=.ok k)(r:(if k then ev P W Z a else ev P W Z b)=.ok v):ev P W Z (.ife t a b)=.ok v:=by rw[aKz,h,aC,r]
theorem aPv(h:ev P W Z a=.ok (.cl (.bl k))):ev P W Z (.nt a)=.ok (.cl (.bl !k)):=by rw[aNq,h];rfl
theorem aPw(B:ev P W Z a=.ok (.cl (.bl x)))(G:ev P W Z b=.ok (.cl (.bl y))):ev P W Z (.an a b)=.ok (.cl (.bl (x&&y))):=by rw[aNr,B,aC];cases x;rfl;exact G
theorem aNw(B:ev P W Z a=.ok (.cl (.bl x)))(G:ev P W Z b=.ok (.cl (.bl y))):ev P W Z (.orr a b)=.ok (.cl (.bl (x||y))):=by rw[aKy,B,aC];cases x;exact G;rfl
theorem qG(h:ev P W Z a=.ok x)(k:ev P W Z b=.ok y)(e:opD o x y=.ok z):ev P W Z (.op o a b)=.ok z:=by rw[iH,h,aC,k,aC,e]
theorem yB(h:ev P W Z a=.ok x)(e:biD b [x]=.ok z):ev P W Z (.bi b (.cons a .nil))=.ok z:=by
 have B:evs P W Z (.cons a .nil)=.ok [x]:=by rw[aF,h];rfl
 rw[jI,B,aC,e]
end
end HpS
namespace Hp
open PySem (Str)
theorem lG{α:Type}{g:α->D}(B:∀t,noL (g t)=true):∀ts:List α,noLs (ts.map g)=true
 | []=>rfl|t::ts=>by rw[mC,noLs,B t,lG B ts];rfl
theorem qH{α:Type}{F:Vl->R (Option Vl)}{f:α->Vl}{g:α->D}{p:α->Bool}:∀{ts:List α},(∀t∈ts,F (f t)=.ok (if p t then some (.cl (g t)) else none))->dD F (ts.map f)=.ok ((ts.filter p).map λt=>.cl (g t))
 | [],_=>rfl|t::ts,h=>by
  have I:=h t Ai;have L:=qH (F:=F) (f:=f) (g:=g) (p:=p) (ts:=ts) λy M=>h y (Ag _ M);show(F (f t) >>= λy=>dD F (ts.map f) >>= λG=>(match y with|some y=>R.ok (y::G)|none=>R.ok G))=_;rw[I,L];cases B:p t with
  | true=>rw[List.filter_cons_of_pos B];rfl|false=>rw[List.filter_cons_of_neg (by rw[B];exact bN)];rfl
theorem aBr{α:Type}{g:α->D}(B:∀t,noL (g t)=true){k:Nat}{caps al:List Nat}(ts:List α):kC k caps al (ts.map λt=>Vl.cl (g t))=⟨.lst (ts.map g),true,false,[]⟩:=by
 have e:(ts.map λt=>Vl.cl (g t)).map (·.d)=ts.map g:=by rw[AJ];rfl
 rw[sX (by rw[e];exact lG B ts),e]
theorem aAn{P:Pg}{W:Caller}{Z:Sg}{k:Nat}{caps al:List Nat}{T:T}{it:It}{elt:E}{α:Type}{ts:List α}(f:α->Vl)(g:α->D)(ng:∀t,noL (g t)=true)(hw:walk P W Z it=.ok (ts.map f,al))(U:ts.length<=lim)
 (L:∀t∈ts,∃Z1,aT (Ae k .dead++caps.map λi=>((freeze Z al)[i]?).getD .dead) (f t) T=.ok Z1/\ev P W Z1 elt=.ok (.cl (g t))):ev P W Z (.comp k caps T it .nil elt)=.ok ⟨.lst (ts.map g),true,false,[]⟩:=by
 rw[uV,hw,aC,qH (f:=f) (g:=g) (p:=λ_=>true) λt ht=>by
  obtain⟨Z1,G,I⟩:=L t ht;show(aT _ (f t) T >>= λZ1=>_)=_;rw[G];show(ev P W Z1 elt >>= λy=>R.ok (some y))=_;rw[I];rfl]
 have M:ts.filter (λ_=>true)=ts:=List.filter_eq_self.mpr λ_ _=>rfl;have B:decide ((ts.map λt=>Vl.cl (g t)).length<=lim)=true:=Ao (by rw[lM];exact U);rw[aC,M,B,xY,aBr ng]
theorem aEO{P:Pg}{W:Caller}{Z:Sg}{k:Nat}{caps al:List Nat}{T:T}{it:It}{c elt:E}{α:Type}{ts:List α}(f:α->Vl)(g:α->D)(p:α->Bool)(ng:∀t,noL (g t)=true)(hw:walk P W Z it=.ok (ts.map f,al))(U:ts.length<=lim)
 (M:∀t∈ts,∃Z1,aT (Ae k .dead++caps.map λi=>((freeze Z al)[i]?).getD .dead) (f t) T=.ok Z1/\tst P W Z1 c=.ok (p t)/\ev P W Z1 elt=.ok (.cl (g t))):ev P W Z (.comp k caps T it (.cons c .nil) elt)=.ok ⟨.lst ((ts.filter p).map g),true,false,[]⟩:=by
 rw[uV,hw,aC,qH (f:=f) (g:=g) (p:=p) λt ht=>by
  obtain⟨Z1,G,I,L⟩:=M t ht;show(aT _ (f t) T >>= λZ1=>_)=_;rw[G];show(tsts P W Z1 (.cons c .nil) >>= λk=>if k then (ev P W Z1 elt >>= λy=>R.ok (some y)) else R.ok none)=_;rw[aCE,I,aC];cases hp:p t with
  | true=>rw[if_pos rfl,aEI,aC,if_pos rfl,L];rfl|false=>rfl]
 have B:decide (((ts.filter p).map λt=>Vl.cl (g t)).length<=lim)=true:=Ao (by rw[lM];exact AI (List.length_filter_le _ _) U);rw[aC,B,xY,aBr ng]
theorem jA{α:Type}{v:Vl}{g:α->D}(B:∀t,noL (g t)=true)(ts:List α):items v (ts.map g)=ts.map λt=>Vl.cl (g t):=by unfold items;rw[AJ];refine DB λt _=>?_;show Vl.sub v (g t)=_;unfold Vl.sub;rw[if_pos (B t)]
theorem vC{a b:D}(B:noL a=true)(G:noL b=true):noL (.tup [a,b])=true:=by simp[noL,noLs,B,G]
@[simp] theorem aOq {P:Pg} {W:Caller} {Z:Sg} (a b:E):ev P W Z (.lzip a b)=(ev P W Z a >>= λx=>ev P W Z b >>= λy=>match jN x.d,jN y.d with
 | some as,some bs=>.iff (decide (as.length<=lim)) (.ok (aHG x y (jD as bs)))|_,_=>.bad):=id rfl
end Hp
namespace Hp
section
variable {P:Pg} {W:Caller} {Z:Sg} {l:Nat}
theorem aHb(d:D):noAl (.cl d) Z=.ok (.cl d,Z):=id rfl
theorem aHY(a:E):evl P W l Z (.e a)=(ev P W Z a >>= λx=>noAl x Z):=id rfl
theorem aKE(o:PySem.Operator)(a b:EL):evl P W l Z (.op o a b)=(evl P W l Z a >>= λx=>evl P W l x.2 b >>= λy=>opD o x.1.nr y.1.nr >>= λz=>noAl z y.2):=id rfl
theorem vD(a b:EL):evl P W l Z (.idx a b)=(evl P W l Z a >>= λx=>evl P W l x.2 b >>= λy=>bH x.1.nr y.1.nr >>= λz=>noAl z y.2):=id rfl
theorem vE(es:ELs):evl P W l Z (.tup es)=(evls' P W l Z es >>= λr=>.ok (⟨.tup (r.1.map (·.d)),false,aU r.1,[]⟩,r.2)):=id rfl
theorem gL(e:EL)(es:ELs):evls' P W l Z (.cons e es)=(evl P W l Z e >>= λx=>evls' P W l x.2 es >>= λr=>.ok (x.1::r.1,r.2)):=id rfl
theorem eL(i l:Nat)(fz:List Nat)(e:EL):ex P W Z (.setL i l fz e)=O.from Z (evl P W l (freeze Z fz) e) λr=>.next (r.2.set i r.1.slot):=id rfl
theorem aBs(i l:Nat)(e:EL):ex P W Z (.appL i l e)=if (fJ Z i).isSome then O.from Z (evl P W l Z e) λr=>put r.2 i r.1.nr λds=>some (ds++[r.1.d]) else .bad:=id rfl
theorem vF(e:EL):ex P W Z (.retL e)=O.from Z (evl P W 0 Z e) λr=>nH r.1 r.2:=id rfl
theorem aBt(o:PySem.CmpOp)(a:EL)(b:E)(x y:Ss):ex P W Z (.iffL o a b x y)=O.from Z (evl P W 0 Z a) λr=>O.from r.2 (ev P W r.2 b) λz=>match bY o r.1.d z.d with|some k=>if k then exs P W r.2 x else exs P W r.2 y|none=>.bad:=id rfl
theorem aEP(d:D)(c:List D)(r:Sg):nH (.cl d) (.lent c::r)=.ret (.cl (.tup [d,.err 0 c])):=id rfl
theorem qJ{vs:List Vl}(I:nG P f=true)(B:evls' P W 0 (.lent c::r) es=.ok (vs,.lent c1::r1))(G:W f (.err 0 c1::vs.map (·.d))=.ok (.tup [d,.err 0 c2],false,false)) :
 evl P W 0 (.lent c::r) (.call f es)=.ok (.cl d,.lent c2::r1):=by show R.iff ((bK (.lent c::r) 0).isSome&&nG P f) (evls' P W 0 (.lent c::r) es >>= λr=>_)=_;rw[I,B];show(W f (.err 0 c1::vs.map (·.d)) >>= λq=>_)=_;rw[G];rfl
theorem mU{vs:List Vl}(B:bK Z l=some z)(M:nG P f=true)(I:evls' P W l Z es=.ok (vs,Z1))(G:bK Z1 l=some (pa,cs))(L:W f (.err 0 cs::vs.map (·.d))=.ok (.tup [d,.err 0 cs'],fr,pr)) :
 evl P W l Z (.call f es)=.ok (⟨d,fr,pr&&(pa||aU vs),[]⟩,bZ Z1 l (pa||aU vs) cs'):=by
 show R.iff ((bK Z l).isSome&&nG P f) (evls' P W l Z es >>= λr=>(match bK r.2 l with
  | some (pa,cs)=>W f (.err 0 cs::r.1.map (·.d)) >>= λq=>fX r.2 l pa r.1 q|none=>.bad))=_
 rw[B,M,I];show(match bK Z1 l with
  | some (pa,cs)=>W f (.err 0 cs::vs.map (λv:Vl=>v.d)) >>= λq=>fX Z1 l pa vs q|none=>.bad)=_
 rw[G];show(W f (.err 0 cs::vs.map (·.d)) >>= λq=>fX Z1 l pa vs q)=_;rw[L];rfl
theorem aKF{x y z:Vl}(h:evl P W l Z a=.ok (x,Z1))(B:evl P W l Z1 b=.ok (y,Z2))(G:bH x.nr y.nr=.ok z)(I:z.al=[]):evl P W l Z (.idx a b)=.ok (z,Z2):=by rw[vD,h,aC,B,aC];show(bH x.nr y.nr >>= λz=>noAl z Z2)=_;rw[G,aC];unfold noAl;rw[I];rfl
theorem qK{f:Sg->Vl->R (Vl×Sg)}(I:Nat->List D->Sg->Prop):∀(N a:Nat) (ds:List D) (Z:Sg),I a ds Z ->
 (∀i Z ds,a<=i->i<a+N->I i ds Z->∃y Z',f Z (.cl (.int (i:Int)))=.ok (y,Z')/\y.pa=false/\I (i+1) (ds++[y.d]) Z') ->
 ∃vs Z',dE f ((Iv a N).map λ(k:Nat)=>Vl.cl (.int (k:Int))) Z=.ok (vs,Z')/\aU vs=false/\vs.length=N/\I (a+N) (ds++vs.map (·.d)) Z'
 | 0,a,ds,Z,h,_=>⟨[],Z,rfl,rfl,rfl,by rw[mN,AH];exact h⟩
 | N+1,a,ds,Z,h,hs=>by obtain⟨y,Z1,B,p1,L⟩:=hs a Z ds (Ak _) (by omega) h;obtain⟨vs,Z',G,p2,U,M⟩:=qK I N (a+1) (ds++[y.d]) Z1 L λi Z ds ha hb=>hs i Z ds (by omega) (by omega);refine⟨y::vs,Z',?_,?_,by rw[lC,U],?_⟩;rw[F6,mC];show(f Z (Vl.cl (.int (a:Int))) >>= λy=>dE f _ y.2 >>= λr=>R.ok (y.1::r.1,r.2))=_;rw[B,aC,G];rfl;show(y.pa||aU vs)=false;rw[p1,p2];rfl;rw[show a+(N+1)=a+1+N by omega];simpa using M
theorem yC{k l' N:Nat}{caps:List Nat}{t:T}{n elt:EL}{B:Sg}(I:Nat->List D->Sg->Prop)(hn:evl P W l Z n=.ok (.cl (.int (N:Int)),B))(hN:N<=1000000)(h0:I 0 [] B)
 (hs:∀i Z ds,i<N->I i ds Z->∃Z1 y G z pa cs,aT (chB k caps Z) (.cl (.int (i:Int))) t=.ok Z1/\evl P W l' Z1 elt=.ok (y,G)/\y.pa=false/\bK Z l=some z/\bK G l'=some (pa,cs)/\I (i+1) (ds++[y.d]) (bZ Z l pa cs)) :
 ∃ds Z',evl P W l Z (.comp k caps t n l' elt)=.ok (⟨.lst ds,true,false,[]⟩,Z')/\I N ds Z':=by
 let f:Sg->Vl->R (Vl×Sg):=λZ x=>aT (chB k caps Z) x t >>= λZ1=>evl P W l' Z1 elt >>= λy=>(match bK Z l,bK y.2 l' with
  | some _,some (pa,cs)=>R.ok (y.1,bZ Z l pa cs)|_,_=>.bad)
 obtain⟨vs,Z',L,p1,l1,h1⟩:=qK (f:=f) I N 0 [] B h0 λi Z ds _ hi hI=>by
  obtain⟨Z1,y,G,z,pa,cs,M,U,g3,g4,g5,g6⟩:=hs i Z ds (by omega) hI;refine⟨y,bZ Z l pa cs,?_,g3,g6⟩;show(aT (chB k caps Z) _ t >>= λZ1=>evl P W l' Z1 elt >>= λy=>(match bK Z l,bK y.2 l' with
   | some _,some (pa,cs)=>R.ok (y.1,bZ Z l pa cs)|_,_=>.bad))=_
  rw[M,aC,U,aC];show(match bK Z l,bK G l' with
   | some _,some (pa,cs)=>R.ok (y,bZ Z l pa cs)|_,_=>.bad)=_
  rw[g4,g5]
 refine⟨vs.map (·.d),Z',?_,by simpa using h1⟩;show(evl P W l Z n >>= λr=>(match r.1.d with
  | .int j=>R.iff (aH j) (dE f ((bX 0 j).map .cl) r.2 >>= λq=>R.iff (decide (q.1.length<=lim)) (.ok (Vl.mk (.lst (q.1.map (·.d))) true (aU q.1) [],q.2)))|_=>.bad))=_
 rw[hn,aC];show R.iff (aH (N:Int)) (dE f ((bX 0 (N:Int)).map .cl) B >>= λq=>R.iff (decide (q.1.length<=lim)) (.ok (Vl.mk (.lst (q.1.map (·.d))) true (aU q.1) [],q.2)))=_;rw[gJ hN,qB,List.range_eq_range',L];show R.iff (decide (vs.length<=lim)) (.ok (Vl.mk (.lst (vs.map (·.d))) true (aU vs) [],Z'))=_;rw[l1,p1,Ao (by unfold lim;omega)];rfl
theorem dI{F:Fn}{ds:List D}(B:P.fns[f]? = some F)(G:F.body=.cons .lend b)(I:ds.length+1=F.np){v:Vl}
 (h:exs P W (.lent c::((ds.map λd=>Sl.sh true d)++Ae (F.ns-F.np) Sl.dead)) b=.ret v):gU P W f (.err 0 c::ds)=.ok (v.d,v.fr,v.pa):=by refine aN (ds:=.err 0 c::ds) B I (v:=v) ?_;rw[G];exact h
end
end Hp
namespace Hp
open PySem (Str Operator CmpOp)
section
variable {P:Pg} {W:Caller} {Z:Sg}
@[simp] theorem aOr (a l:E):ev P W Z (.sli a (.cons l .nil) .nil)=(ev P W Z a >>= λx=>ev P W Z l >>= λl=>match l.d with|.int l=>.iff (aH l) (eG x (some l) none)|_=>.bad):=by
 show(ev P W Z a >>= λx=>evs P W Z (.cons l .nil) >>= λl=>evs P W Z .nil >>= λh=>_)=_;cases ev P W Z a with
 | ok x=>
  show((ev P W Z l >>= λx=>evs P W Z .nil >>= λxs=>R.ok (x::xs)) >>= λl=>_)=(ev P W Z l >>= λl=>_)
  cases ev P W Z l <;> rfl
 | exc e=>rfl|bad=>rfl
@[simp] theorem aOs (a l h:E):ev P W Z (.sli a (.cons l .nil) (.cons h .nil))=(ev P W Z a >>= λx=>ev P W Z l >>= λl=>ev P W Z h >>= λh=>match l.d,h.d with|.int l,.int h=>.iff (aH l&&aH h) (eG x (some l) (some h))|_,_=>.bad):=by
 show(ev P W Z a >>= λx=>evs P W Z (.cons l .nil) >>= λl=>evs P W Z (.cons h .nil) >>= λh=>_)=_;cases ev P W Z a with
 | ok x=>
  show((ev P W Z l >>= λx=>evs P W Z .nil >>= λxs=>R.ok (x::xs)) >>= λl=>_)=(ev P W Z l >>= λl=>_)
  cases ev P W Z l with
  | ok l=>
   show((ev P W Z h >>= λx=>evs P W Z .nil >>= λxs=>R.ok (x::xs)) >>= λh=>_)=(ev P W Z h >>= λh=>_)
   cases ev P W Z h <;> rfl
  | exc e=>rfl|bad=>rfl
 | exc e=>rfl|bad=>rfl
end
theorem fB{n k:Nat}(h:k<n):ixN n (k:Int)=some k:=by unfold ixN;rw[if_pos (Hq k),if_pos (by omega)];simp
def num(c:Int):Nat->Int
 | 0=>c % 2147483647+48271|k+1=>(num c k*num c k+48271*num c k+(k:Int)) % 2147483647
def aNx(b:Str×Int):D:=.tup [.str b.1,.int b.2]
@[simp] theorem aNy (b:Str×Int):noL (aNx b)=true:=by simp[aNx,noL,noLs]
end Hp
namespace HpS
open Hp PySem
inductive Sm where
 | num (n:Int)|box (k:Nat)|aft (k:Nat)|two (p:Bool) (a b:Sm)
def qL(p:Bool):Str:=if p then "plus" else "minus"
noncomputable def Sm.d:Sm->D
 | .num n=>.tup [.str "number",.int n]|.box k=>.tup [.str "box",.int k]|.aft k=>.tup [.str "after",.int k]|.two p a b=>.tup [.str (qL p),a.d,b.d]
def Sm.sz:Sm->Nat
 | .two _ a b=>1+a.sz+b.sz|_=>1
def Sm.val(ah be:List Int):Sm->Int
 | .num n=>n|.box k=>ah.getD k 0|.aft k=>be.getD k 0|.two p a b=>if p then a.val ah be+b.val ah be else a.val ah be-b.val ah be
def Sm.wf(c:Nat)(pl:Bool):Sm->Prop
 | .num n=>0<=n/\n<=99|.box k=>k<c|.aft k=>k<c/\pl=false|.two _ a b=>a.wf c pl/\b.wf c pl
theorem Sm.noL:∀s:Sm,Hp.noL s.d=true
 | .num _=>rfl|.box _=>rfl|.aft _=>rfl|.two _ a b=>by simp[Sm.d,Hp.noL,noLs,a.noL,b.noL]
theorem eM(h:Hp.noL d=true):Vl.sub v d=.cl d:=by unfold Vl.sub;rw[if_pos h]
theorem iM(x:D)(r:List D)(h:Hp.noL x=true):bH (.cl (.tup (x::r))) (.cl (.int 0))=.ok (.cl x):=by have:ixN (x::r).length 0=some 0:=fB (k:=0) (by simp);unfold bH;simp only[cH,this,gZ,eM h]
theorem fI(x y:D)(r:List D)(h:Hp.noL y=true):bH (.cl (.tup (x::y::r))) (.cl (.int 1))=.ok (.cl y):=by have:ixN (x::y::r).length 1=some 1:=fB (k:=1) (by simp);unfold bH;simp only[cH,this,gZ,gS,eM h]
theorem aAo(x y z:D)(r:List D)(h:Hp.noL z=true):bH (.cl (.tup (x::y::z::r))) (.cl (.int 2))=.ok (.cl z):=by have:ixN (x::y::z::r).length 2=some 2:=fB (k:=2) (by simp);unfold bH;simp only[cH,this,gZ,gS,eM h]
theorem vG{is:List Int}(h:k<is.length):bH (.cl (aE is)) (.cl (.int (k:Int)))=.ok (.cl (.int (is.getD k 0))):=by
 unfold bH aE;have B:(is.map D.int).length=is.length:=by simp
 have e:(is.map D.int)[k]? = some (.int (is.getD k 0)):=by simp[h]
 simp only[cH,B,fB h,e,Vl.sub,Hp.noL,if_true]
noncomputable def mV(f:Nat):Fn:=⟨3,6,
 (.cons (.set (.n 3) (.idx (.v 0) (.c (.int 0))))
 (.cons (.iff (.cmp .Eq (.v 3) (.c (.str "number")))
  (.cons (.ret (.idx (.v 0) (.c (.int 1))))
  .nil)
  .nil)
 (.cons (.iff (.cmp .Eq (.v 3) (.c (.str "box")))
  (.cons (.ret (.idx (.v 1) (.idx (.v 0) (.c (.int 1)))))
  .nil)
  .nil)
 (.cons (.iff (.cmp .Eq (.v 3) (.c (.str "after")))
  (.cons (.ret (.idx (.v 2) (.idx (.v 0) (.c (.int 1)))))
  .nil)
  .nil)
 (.cons (.set (.n 4) (.call f (.cons (.idx (.v 0) (.c (.int 1))) (.cons (.v 1) (.cons (.v 2) .nil)))))
 (.cons (.set (.n 5) (.call f (.cons (.idx (.v 0) (.c (.int 2))) (.cons (.v 1) (.cons (.v 2) .nil)))))
 (.cons (.ret (.ife (.cmp .Eq (.v 3) (.c (.str "plus"))) (.op .Add (.v 4) (.v 5)) (.op .Sub (.v 4) (.v 5))))
 .nil)))))))⟩
theorem aNz:(("number" : Str) == "number")=true:=by decide +kernel
theorem aNA:(("box" : Str) == "number")=false:=by decide +kernel
theorem aNB:(("box" : Str) == "box")=true:=by decide +kernel
theorem aPx:(("after" : Str) == "number")=false:=by decide +kernel
theorem aPy:(("after" : Str) == "box")=false:=by decide +kernel
theorem aPz:(("after" : Str) == "after")=true:=by decide +kernel
theorem aNC:∀p,(qL p == "number")=false:=by decide +kernel
theorem aND:∀p,(qL p == "box")=false:=by decide +kernel
theorem aPA:∀p,(qL p == "after")=false:=by decide +kernel
theorem aNE:∀p,(qL p == "plus")=p:=by decide +kernel
theorem iN{P:Pg}(G:P.fns[f]? = some (mV f)){ah be:List Int}(M:ah.length=c)(U:be.length=c)(I:Hp.noL bd=true)(B:pl=false->bd=aE be) :
 ∀(s:Sm) (n:Nat),s.wf c pl->call P (n+s.sz) f [s.d,aE ah,bd]=.ok (.int (s.val ah be),false,false)
 | .num k,n,w=>by refine aN (F:=mV f) G rfl (v:=.cl (.int k)) ?_;exact cs (dM (aY (v0_ rfl) rfl (iM _ _ rfl))) (gR (aX rfl aNz) (cV (aY (v0_ rfl) rfl (fI _ _ _ rfl))))|.box k,n,w=>by have w:k<c:=w;refine aN (F:=mV f) G rfl (v:=.cl (.int (ah.getD k 0))) ?_;exact cs (dM (aY (v0_ rfl) rfl (iM _ _ rfl))) (cs (dJ (aX rfl aNA)) (gR (aX rfl aNB) (cV (aY (v1_ (aP _)) (aY (v0_ rfl) rfl (fI _ _ _ rfl)) (vG (by omega))))))|.aft k,n,w=>by obtain⟨w1,w2⟩:k<c/\pl=false:=w;have e:=B w2;subst e;refine aN (F:=mV f) G rfl (v:=.cl (.int (be.getD k 0))) ?_;exact cs (dM (aY (v0_ rfl) rfl (iM _ _ rfl))) (cs (dJ (aX rfl aPx)) (cs (dJ (aX rfl aPy)) (gR (aX rfl aPz) (cV (aY (v2_ (aP _)) (aY (v0_ rfl) rfl (fI _ _ _ rfl)) (vG (by omega)))))))|.two p a b,n,w=>by
  obtain⟨w1,w2⟩:a.wf c pl/\b.wf c pl:=w;have L:=iN G M U I B a (n+b.sz) w1;have W:=iN G M U I B b (n+a.sz) w2;rw[show n+b.sz+a.sz=n+a.sz+b.sz by omega] at L;have e:n+Sm.sz (.two p a b)=n+a.sz+b.sz+1:=by show n+(1+a.sz+b.sz)=_;omega
  rw[e];refine aN (F:=mV f) G rfl (v:=.cl (.int (Sm.val ah be (.two p a b)))) ?_;refine cs (dM (aY (v0_ (Sm.noL _)) rfl (iM _ _ rfl))) (cs (dJ (aX rfl (aNC p))) (cs (dJ (aX rfl (aND p))) (cs (dJ (aX rfl (aPA p))) (cs (dM (cW (aY (v0_ (Sm.noL _)) rfl (fI _ _ _ a.noL)) (v1_ (aP _)) (v2_ I) L)) (cs (dM (cW (aY (v0_ (Sm.noL _)) rfl (aAo _ _ _ _ b.noL)) (v1_ (aP _)) (v2_ I) W)) (cV (qF (aX rfl (aNE p)) ?_)))))));cases p <;> rfl
inductive Cn where
 | yes|cmp (i:Bool) (a b:Sm)|nt (c:Cn)|two (p:Bool) (a b:Cn)
def mW(i:Bool):Str:=if i then "is" else "less"
def fS(p:Bool):Str:=if p then "both" else "either"
noncomputable def Cn.d:Cn->D
 | .yes=>.tup [.str "yes"]|.cmp i a b=>.tup [.str (mW i),a.d,b.d]|.nt c=>.tup [.str "not",c.d]|.two p a b=>.tup [.str (fS p),a.d,b.d]
def Cn.sz:Cn->Nat
 | .yes=>1|.cmp _ a b=>1+a.sz+b.sz|.nt c=>1+c.sz|.two _ a b=>1+a.sz+b.sz
def Cn.hold(ah be:List Int):Cn->Bool
 | .yes=>true|.cmp i a b=>if i then a.val ah be==b.val ah be else decide (a.val ah be<b.val ah be)|.nt c=>!c.hold ah be|.two p a b=>if p then a.hold ah be&&b.hold ah be else a.hold ah be||b.hold ah be
def Cn.wf(c:Nat)(pl:Bool):Cn->Prop
 | .yes=>True|.cmp _ a b=>a.wf c pl/\b.wf c pl|.nt x=>x.wf c pl|.two _ a b=>a.wf c pl/\b.wf c pl
theorem Cn.noL:∀s:Cn,Hp.noL s.d=true
 | .yes=>rfl|.cmp _ a b=>by simp[Cn.d,Hp.noL,noLs,a.noL,b.noL]|.nt c=>by simp[Cn.d,Hp.noL,noLs,c.noL]|.two _ a b=>by simp[Cn.d,Hp.noL,noLs,a.noL,b.noL]
noncomputable def qM(v f:Nat):Fn:=⟨3,6,
 (.cons (.set (.n 3) (.idx (.v 0) (.c (.int 0))))
 (.cons (.iff (.cmp .Eq (.v 3) (.c (.str "yes")))
  (.cons (.ret (.c (.bl true)))
  .nil)
  .nil)
 (.cons (.iff (.cmp .Eq (.v 3) (.c (.str "not")))
  (.cons (.ret (.nt (.call f (.cons (.idx (.v 0) (.c (.int 1))) (.cons (.v 1) (.cons (.v 2) .nil))))))
  .nil)
  .nil)
 (.cons (.iff (.cmp .Eq (.v 3) (.c (.str "both")))
  (.cons (.ret (.an (.call f (.cons (.idx (.v 0) (.c (.int 1))) (.cons (.v 1) (.cons (.v 2) .nil)))) (.call f (.cons (.idx (.v 0) (.c (.int 2))) (.cons (.v 1) (.cons (.v 2) .nil))))))
  .nil)
  .nil)
 (.cons (.iff (.cmp .Eq (.v 3) (.c (.str "either")))
  (.cons (.ret (.orr (.call f (.cons (.idx (.v 0) (.c (.int 1))) (.cons (.v 1) (.cons (.v 2) .nil)))) (.call f (.cons (.idx (.v 0) (.c (.int 2))) (.cons (.v 1) (.cons (.v 2) .nil))))))
  .nil)
  .nil)
 (.cons (.set (.n 4) (.call v (.cons (.idx (.v 0) (.c (.int 1))) (.cons (.v 1) (.cons (.v 2) .nil)))))
 (.cons (.set (.n 5) (.call v (.cons (.idx (.v 0) (.c (.int 2))) (.cons (.v 1) (.cons (.v 2) .nil)))))
 (.cons (.ret (.ife (.cmp .Eq (.v 3) (.c (.str "is"))) (.cmp .Eq (.v 4) (.v 5)) (.cmp .Lt (.v 4) (.v 5))))
 .nil))))))))⟩
theorem aNF:(("yes" : Str) == "yes")=true:=by decide +kernel
theorem aNG:(("not" : Str) == "yes")=false:=by decide +kernel
theorem aNH:(("not" : Str) == "not")=true:=by decide +kernel
theorem aNI:∀p,(mW p == "yes")=false:=by decide +kernel
theorem aPB:∀p,(mW p == "not")=false:=by decide +kernel
theorem aPC:∀p,(mW p == "both")=false:=by decide +kernel
theorem aPD:∀p,(mW p == "either")=false:=by decide +kernel
theorem aNJ:∀p,(mW p == "is")=p:=by decide +kernel
theorem aKG:∀p,(fS p == "yes")=false:=by decide +kernel
theorem aKH:∀p,(fS p == "not")=false:=by decide +kernel
theorem aHc:∀p,(fS p == "both")=p:=by decide +kernel
theorem aPE:∀p,(fS p == "either")=!p:=by decide +kernel
theorem lH{P:Pg}(M:P.fns[v]? = some (mV v))(L:P.fns[f]? = some (qM v f)){ah be:List Int}(U:ah.length=c)(W:be.length=c)(B:Hp.noL bd=true)(G:pl=false->bd=aE be) :
 ∀(s:Cn) (n:Nat),s.wf c pl->call P (n+s.sz) f [s.d,aE ah,bd]=.ok (.bl (s.hold ah be),false,false)
 | .yes,n,w=>by refine aN (F:=qM v f) L rfl (v:=.cl (.bl true)) ?_;exact cs (dM (aY (v0_ rfl) rfl (iM _ _ rfl))) (gR (aX rfl aNF) (cV rfl))|.cmp i a b,n,w=>by
  obtain⟨w1,w2⟩:a.wf c pl/\b.wf c pl:=w;have I:=iN M U W B G a (n+b.sz) w1;have c2:=iN M U W B G b (n+a.sz) w2;rw[show n+b.sz+a.sz=n+a.sz+b.sz by omega] at I;have e:n+Cn.sz (.cmp i a b)=n+a.sz+b.sz+1:=by show n+(1+a.sz+b.sz)=_;omega
  rw[e];refine aN (F:=qM v f) L rfl (v:=.cl (.bl (Cn.hold ah be (.cmp i a b)))) ?_;refine cs (dM (aY (v0_ (Cn.noL _)) rfl (iM _ _ rfl))) (cs (dJ (aX rfl (aNI i))) (cs (dJ (aX rfl (aPB i))) (cs (dJ (aX rfl (aPC i))) (cs (dJ (aX rfl (aPD i))) (cs (dM (cW (aY (v0_ (Cn.noL _)) rfl (fI _ _ _ a.noL)) (v1_ (aP _)) (v2_ B) I)) (cs (dM (cW (aY (v0_ (Cn.noL _)) rfl (aAo _ _ _ _ b.noL)) (v1_ (aP _)) (v2_ B) c2)) (cV (qF (aX rfl (aNJ i)) ?_))))))));cases i <;> rfl
 | .nt x,n,w=>by
  have I:=lH M L U W B G x n w;have e:n+Cn.sz (.nt x)=n+x.sz+1:=by show n+(1+x.sz)=_;omega
  rw[e];refine aN (F:=qM v f) L rfl (v:=.cl (.bl (Cn.hold ah be (.nt x)))) ?_;exact cs (dM (aY (v0_ (Cn.noL _)) rfl (iM _ _ rfl))) (cs (dJ (aX rfl aNG)) (gR (aX rfl aNH) (cV (aPv (cW (aY (v0_ (Cn.noL _)) rfl (fI _ _ _ x.noL)) (v1_ (aP _)) (v2_ B) I)))))
 | .two p a b,n,w=>by
  obtain⟨w1,w2⟩:a.wf c pl/\b.wf c pl:=w;have I:=lH M L U W B G a (n+b.sz) w1;have c2:=lH M L U W B G b (n+a.sz) w2;rw[show n+b.sz+a.sz=n+a.sz+b.sz by omega] at I;have e:n+Cn.sz (.two p a b)=n+a.sz+b.sz+1:=by show n+(1+a.sz+b.sz)=_;omega
  rw[e];refine aN (F:=qM v f) L rfl (v:=.cl (.bl (Cn.hold ah be (.two p a b)))) ?_;refine cs (dM (aY (v0_ (Cn.noL _)) rfl (iM _ _ rfl))) (cs (dJ (aX rfl (aKG p))) (cs (dJ (aX rfl (aKH p))) ?_));cases p with
  | true=>exact gR (aX rfl (aHc true)) (cV (aPw (cW (aY (v0_ (Cn.noL _)) rfl (fI _ _ _ a.noL)) (v1_ (aP _)) (v2_ B) I) (cW (aY (v0_ (Cn.noL _)) rfl (aAo _ _ _ _ b.noL)) (v1_ (aP _)) (v2_ B) c2)))|false=>exact cs (dJ (aX rfl (aHc false))) (gR (aX rfl (aPE false)) (cV (aNw (cW (aY (v0_ (Cn.noL _)) rfl (fI _ _ _ a.noL)) (v1_ (aP _)) (v2_ B) I) (cW (aY (v0_ (Cn.noL _)) rfl (aAo _ _ _ _ b.noL)) (v1_ (aP _)) (v2_ B) c2))))
end HpS
namespace K77
open Hp
noncomputable def f0:Hp.Fn:=⟨3,6,
 (.cons (.set (.n 3) (.idx (.v 0) (.c (.int 0))))
 (.cons (.iff (.cmp .Eq (.v 3) (.c (.str "number")))
  (.cons (.ret (.idx (.v 0) (.c (.int 1))))
  .nil)
  .nil)
 (.cons (.iff (.cmp .Eq (.v 3) (.c (.str "box")))
  (.cons (.ret (.idx (.v 1) (.idx (.v 0) (.c (.int 1)))))
  .nil)
  .nil)
 (.cons (.iff (.cmp .Eq (.v 3) (.c (.str "after")))
  (.cons (.ret (.idx (.v 2) (.idx (.v 0) (.c (.int 1)))))
  .nil)
  .nil)
 (.cons (.set (.n 4) (.call 0 (.cons (.idx (.v 0) (.c (.int 1))) (.cons (.v 1) (.cons (.v 2) .nil)))))
 (.cons (.set (.n 5) (.call 0 (.cons (.idx (.v 0) (.c (.int 2))) (.cons (.v 1) (.cons (.v 2) .nil)))))
 (.cons (.ret (.ife (.cmp .Eq (.v 3) (.c (.str "plus"))) (.op .Add (.v 4) (.v 5)) (.op .Sub (.v 4) (.v 5))))
 .nil)))))))⟩
noncomputable def f1:Hp.Fn:=⟨3,6,
 (.cons (.set (.n 3) (.idx (.v 0) (.c (.int 0))))
 (.cons (.iff (.cmp .Eq (.v 3) (.c (.str "yes")))
  (.cons (.ret (.c (.bl true)))
  .nil)
  .nil)
 (.cons (.iff (.cmp .Eq (.v 3) (.c (.str "not")))
  (.cons (.ret (.nt (.call 1 (.cons (.idx (.v 0) (.c (.int 1))) (.cons (.v 1) (.cons (.v 2) .nil))))))
  .nil)
  .nil)
 (.cons (.iff (.cmp .Eq (.v 3) (.c (.str "both")))
  (.cons (.ret (.an (.call 1 (.cons (.idx (.v 0) (.c (.int 1))) (.cons (.v 1) (.cons (.v 2) .nil)))) (.call 1 (.cons (.idx (.v 0) (.c (.int 2))) (.cons (.v 1) (.cons (.v 2) .nil))))))
  .nil)
  .nil)
 (.cons (.iff (.cmp .Eq (.v 3) (.c (.str "either")))
  (.cons (.ret (.orr (.call 1 (.cons (.idx (.v 0) (.c (.int 1))) (.cons (.v 1) (.cons (.v 2) .nil)))) (.call 1 (.cons (.idx (.v 0) (.c (.int 2))) (.cons (.v 1) (.cons (.v 2) .nil))))))
  .nil)
  .nil)
 (.cons (.set (.n 4) (.call 0 (.cons (.idx (.v 0) (.c (.int 1))) (.cons (.v 1) (.cons (.v 2) .nil)))))
 (.cons (.set (.n 5) (.call 0 (.cons (.idx (.v 0) (.c (.int 2))) (.cons (.v 1) (.cons (.v 2) .nil)))))
 (.cons (.ret (.ife (.cmp .Eq (.v 3) (.c (.str "is"))) (.cmp .Eq (.v 4) (.v 5)) (.cmp .Lt (.v 4) (.v 5))))
 .nil))))))))⟩
noncomputable def f2:Hp.Fn:=⟨3,7,
 (.cons (.iff (.nt (.call 1 (.cons (.idx (.v 1) (.c (.int 0))) (.cons (.v 2) (.cons (.c .non) .nil)))))
  (.cons (.ret (.c .non))
  .nil)
  .nil)
 (.cons (.set (.n 3) (.bi .list (.cons (.v 2) .nil)))
 (.cons (.for (.t [4,5]) (.seq (.idx (.v 1) (.c (.int 1))))
  (.cons (.set (.n 6) (.call 0 (.cons (.v 5) (.cons (.v 2) (.cons (.c .non) .nil)))))
  (.cons (.iff (.nt (.cmp2 .LtE .LtE (.c (.int 0)) (.v 6) (.idx (.idx (.v 0) (.v 4)) (.c (.int 1)))))
   (.cons (.ret (.c .non))
   .nil)
   .nil)
  (.cons (.setIx 3 (.v 4) (.v 6))
  .nil))))
 (.cons (.ret (.bi .tuple (.cons (.v 3) .nil)))
 .nil))))⟩
noncomputable def f3:Hp.Fn:=⟨2,3,
 (.cons (.iff (.cmp .Lt (.v 1) (.bi .len (.cons (.v 0) .nil)))
  (.cons (.ret (.idx (.v 0) (.v 1)))
  .nil)
  .nil)
 (.cons (.set (.n 2) (.c (.int 0)))
 (.cons (.iff (.cmp .Gt (.bi .len (.cons (.v 0) .nil)) (.c (.int 0)))
  (.cons (.set (.n 2) (.idx (.v 0) (.op .Mod (.op .Add (.op .Mult (.v 1) (.c (.int 7))) (.c (.int 3))) (.bi .len (.cons (.v 0) .nil)))))
  .nil)
  .nil)
 (.cons (.ret (.op .Add (.op .Add (.op .Add (.op .Mult (.v 2) (.c (.int 31))) (.op .Mult (.op .Mult (.v 1) (.v 1)) (.c (.int 7919)))) (.op .Mult (.c (.int 101)) (.v 1))) (.c (.int 17))))
 .nil))))⟩
noncomputable def f4:Hp.Fn:=⟨2,3,
 (.cons .lend
 (.cons (.set (.n 2) (.op .Mod (.call 3 (.cons (.lix 0 (.c (.int 0))) (.cons (.lix 0 (.c (.int 1))) .nil))) (.c (.int 4294967291))))
 (.cons (.lset 0 (.c (.int 1)) (.op .Add (.lix 0 (.c (.int 1))) (.c (.int 1))))
 (.cons (.retL (.e (.op .Mod (.op .FloorDiv (.op .Mod (.op .Mult (.op .Add (.v 2) (.op .Mult (.c (.int 13)) (.lix 0 (.c (.int 1))))) (.c (.int 48271))) (.c (.int 2147483647))) (.c (.int 3))) (.v 1))))
 .nil))))⟩
noncomputable def f5:Hp.Fn:=⟨2,7,
 (.cons .lend
 (.cons (.set (.n 2) (.lst .nil))
 (.cons (.mov 3 1)
 (.cons (.forL (.n 4) (.op .Add (.e (.c (.int 1))) (.call 4 (.cons (.e (.c (.int 4))) .nil)))
  (.cons (.setL 5 0 [] (.op .Add (.e (.c (.int 1))) (.call 4 (.cons (.idx (.e (.lst (.cons (.c (.int 2)) (.cons (.c (.int 3)) (.cons (.c (.int 7)) .nil))))) (.call 4 (.cons (.e (.c (.int 3))) .nil))) .nil))))
  (.cons (.set (.n 6) (.idx (.c (.str "kxmbz")) (.v 4)))
  (.cons (.iff (.cmp .Gt (.v 3) (.c (.int 1)))
   (.cons (.appL 2 0 (.tup (.cons (.op .Mult (.e (.v 6)) (.op .Add (.e (.c (.int 1))) (.call 4 (.cons (.e (.c (.int 8))) .nil)))) (.cons (.e (.bi .min (.cons (.v 5) (.cons (.op .Sub (.v 3) (.c (.int 1))) .nil)))) .nil))))
   (.cons (.set (.n 3) (.op .FloorDiv (.v 3) (.op .Add (.c (.int 1)) (.bi .min (.cons (.v 5) (.cons (.op .Sub (.v 3) (.c (.int 1))) .nil))))))
   .nil))
   .nil)
  .nil))))
 (.cons (.retvL 2)
 .nil)))))⟩
noncomputable def f6:Hp.Fn:=⟨3,4,
 (.cons .lend
 (.cons (.setL 3 0 [] (.call 4 (.cons (.e (.c (.int 6))) .nil)))
 (.cons (.iff (.orr (.cmp .Eq (.v 2) (.c (.int 0))) (.cmp .Lt (.v 3) (.c (.int 3))))
  (.cons (.iff (.cmp .Eq (.op .Mod (.v 3) (.c (.int 2))) (.c (.int 0)))
   (.cons (.retL (.tup (.cons (.e (.c (.str "box"))) (.cons (.call 4 (.cons (.e (.bi .len (.cons (.v 1) .nil))) .nil)) .nil))))
   .nil)
   .nil)
  (.cons (.retL (.tup (.cons (.e (.c (.str "number"))) (.cons (.call 4 (.cons (.idx (.e (.lst (.cons (.c (.int 3)) (.cons (.c (.int 4)) (.cons (.c (.int 8)) (.cons (.c (.int 100)) .nil)))))) (.call 4 (.cons (.e (.c (.int 4))) .nil))) .nil)) .nil))))
  .nil))
  .nil)
 (.cons (.retL (.tup (.cons (.e (.idx (.lst (.cons (.c (.str "plus")) (.cons (.c (.str "minus")) .nil))) (.op .Mod (.v 3) (.c (.int 2))))) (.cons (.call 6 (.cons (.e (.v 1)) (.cons (.e (.op .Sub (.v 2) (.c (.int 1)))) .nil))) (.cons (.call 6 (.cons (.e (.v 1)) (.cons (.e (.op .Sub (.v 2) (.c (.int 1)))) .nil))) .nil)))))
 .nil))))⟩
noncomputable def f7:Hp.Fn:=⟨3,4,
 (.cons .lend
 (.cons (.setL 3 0 [] (.call 4 (.cons (.e (.c (.int 10))) .nil)))
 (.cons (.iff (.cmp .Eq (.v 3) (.c (.int 0)))
  (.cons (.retL (.e (.tup (.cons (.c (.str "yes")) .nil))))
  .nil)
  .nil)
 (.cons (.iff (.orr (.cmp .Eq (.v 2) (.c (.int 0))) (.cmp .Lt (.v 3) (.c (.int 5))))
  (.cons (.retL (.tup (.cons (.e (.idx (.lst (.cons (.c (.str "is")) (.cons (.c (.str "less")) .nil))) (.op .Mod (.op .FloorDiv (.v 3) (.c (.int 2))) (.c (.int 2))))) (.cons (.call 6 (.cons (.e (.v 1)) (.cons (.e (.op .Mod (.v 3) (.c (.int 2)))) .nil))) (.cons (.call 6 (.cons (.e (.v 1)) (.cons (.e (.c (.int 1))) .nil))) .nil)))))
  .nil)
  .nil)
 (.cons (.iff (.cmp .Lt (.v 3) (.c (.int 7)))
  (.cons (.retL (.tup (.cons (.e (.c (.str "not"))) (.cons (.call 7 (.cons (.e (.v 1)) (.cons (.e (.op .Sub (.v 2) (.c (.int 1)))) .nil))) .nil))))
  .nil)
  .nil)
 (.cons (.retL (.tup (.cons (.e (.idx (.lst (.cons (.c (.str "both")) (.cons (.c (.str "either")) .nil))) (.op .Mod (.v 3) (.c (.int 2))))) (.cons (.call 7 (.cons (.e (.v 1)) (.cons (.e (.op .Sub (.v 2) (.c (.int 1)))) .nil))) (.cons (.call 7 (.cons (.e (.v 1)) (.cons (.e (.op .Sub (.v 2) (.c (.int 1)))) .nil))) .nil)))))
 .nil))))))⟩
noncomputable def f8:Hp.Fn:=⟨1,1,
 (.cons (.iff (.cmp .Gt (.call 19 (.cons (.v 0) .nil)) (.c (.int 8)))
  (.cons (.rse 1 false (.cons (.c (.str "a program is made a hand of at most eight rows")) .nil))
  .nil)
  .nil)
 .nil)⟩
noncomputable def f9:Hp.Fn:=⟨2,2,
 (.cons (.iff (.cmp .Eq (.idx (.v 0) (.c (.int 0))) (.c (.str "number")))
  (.cons (.ret (.idx (.v 0) (.c (.int 1))))
  .nil)
  .nil)
 (.cons (.iff (.cmp .Eq (.idx (.v 0) (.c (.int 0))) (.c (.str "box")))
  (.cons (.ret (.idx (.v 1) (.idx (.v 0) (.c (.int 1)))))
  .nil)
  .nil)
 (.cons (.iff (.cmp .Eq (.idx (.v 0) (.c (.int 0))) (.c (.str "plus")))
  (.cons (.ret (.op .Add (.call 9 (.cons (.idx (.v 0) (.c (.int 1))) (.cons (.v 1) .nil))) (.call 9 (.cons (.idx (.v 0) (.c (.int 2))) (.cons (.v 1) .nil)))))
  .nil)
  .nil)
 (.cons (.ret (.op .Sub (.call 9 (.cons (.idx (.v 0) (.c (.int 1))) (.cons (.v 1) .nil))) (.call 9 (.cons (.idx (.v 0) (.c (.int 2))) (.cons (.v 1) .nil)))))
 .nil))))⟩
noncomputable def f10:Hp.Fn:=⟨2,2,
 (.cons (.iff (.cmp .Eq (.idx (.v 0) (.c (.int 0))) (.c (.str "yes")))
  (.cons (.ret (.c (.bl true)))
  .nil)
  .nil)
 (.cons (.iff (.cmp .Eq (.idx (.v 0) (.c (.int 0))) (.c (.str "is")))
  (.cons (.ret (.cmp .Eq (.call 9 (.cons (.idx (.v 0) (.c (.int 1))) (.cons (.v 1) .nil))) (.call 9 (.cons (.idx (.v 0) (.c (.int 2))) (.cons (.v 1) .nil)))))
  .nil)
  .nil)
 (.cons (.iff (.cmp .Eq (.idx (.v 0) (.c (.int 0))) (.c (.str "less")))
  (.cons (.ret (.cmp .Lt (.call 9 (.cons (.idx (.v 0) (.c (.int 1))) (.cons (.v 1) .nil))) (.call 9 (.cons (.idx (.v 0) (.c (.int 2))) (.cons (.v 1) .nil)))))
  .nil)
  .nil)
 (.cons (.iff (.cmp .Eq (.idx (.v 0) (.c (.int 0))) (.c (.str "not")))
  (.cons (.ret (.nt (.call 10 (.cons (.idx (.v 0) (.c (.int 1))) (.cons (.v 1) .nil)))))
  .nil)
  .nil)
 (.cons (.iff (.cmp .Eq (.idx (.v 0) (.c (.int 0))) (.c (.str "both")))
  (.cons (.ret (.an (.call 10 (.cons (.idx (.v 0) (.c (.int 1))) (.cons (.v 1) .nil))) (.call 10 (.cons (.idx (.v 0) (.c (.int 2))) (.cons (.v 1) .nil)))))
  .nil)
  .nil)
 (.cons (.ret (.orr (.call 10 (.cons (.idx (.v 0) (.c (.int 1))) (.cons (.v 1) .nil))) (.call 10 (.cons (.idx (.v 0) (.c (.int 2))) (.cons (.v 1) .nil)))))
 .nil))))))⟩
noncomputable def f11:Hp.Fn:=⟨3,8,
 (.cons (.iff (.nt (.call 10 (.cons (.idx (.v 1) (.c (.int 0))) (.cons (.v 2) .nil))))
  (.cons (.ret (.c .non))
  .nil)
  .nil)
 (.cons (.set (.n 3) (.bi .list (.cons (.v 2) .nil)))
 (.cons (.for (.t [4,5]) (.seq (.idx (.v 1) (.c (.int 1))))
  (.cons (.setIx 3 (.v 4) (.call 9 (.cons (.v 5) (.cons (.v 2) .nil))))
  .nil))
 (.cons (.for (.t [6,7]) (.zip (.v 3) (.v 0))
  (.cons (.iff (.orr (.cmp .Lt (.v 6) (.c (.int 0))) (.cmp .Gt (.v 6) (.idx (.v 7) (.c (.int 1)))))
   (.cons (.ret (.c .non))
   .nil)
   .nil)
  .nil))
 (.cons (.ret (.bi .tuple (.cons (.v 3) .nil)))
 .nil)))))⟩
noncomputable def f12:Hp.Fn:=⟨1,6,
 (.cons (.set (.n 1) (.lst (.cons (.tup .nil) .nil)))
 (.cons (.for (.t [2,3]) (.seq (.v 0))
  (.cons (.set (.n 4) (.lst .nil))
  (.cons (.for (.n 5) (.seq (.v 1))
   (.cons (.ext 4 (.comp 1 [5] (.n 0) (.rng (.c (.int 0)) (.op .Add (.v 3) (.c (.int 1)))) .nil (.op .Add (.v 1) (.tup (.cons (.v 0) .nil)))))
   .nil))
  (.cons (.mov 1 4)
  .nil))))
 (.cons (.retv 1)
 .nil)))⟩
noncomputable def f13:Hp.Fn:=⟨1,1,
 (.cons (.ret (.an (.isi (.v 0) [.tInt]) (.nt (.isi (.v 0) [.tBool]))))
 .nil)⟩
noncomputable def f14:Hp.Fn:=⟨2,4,
 (.cons .lend
 (.cons (.set (.n 2) (.lst .nil))
 (.cons (.for (.n 3) (.rng (.c (.int 0)) (.bi .len (.cons (.v 1) .nil)))
  (.cons (.iffL .Lt (.call 4 (.cons (.e (.c (.int 5))) .nil)) (.c (.int 3))
   (.cons (.appL 2 0 (.tup (.cons (.e (.v 3)) (.cons (.call 6 (.cons (.e (.v 1)) (.cons (.e (.c (.int 1))) .nil))) .nil))))
   .nil)
   .nil)
  .nil))
 (.cons (.retL (.e (.bi .tuple (.cons (.v 2) .nil))))
 .nil))))⟩
noncomputable def f15:Hp.Fn:=⟨3,5,
 (.cons .lend
 (.cons (.setL 3 0 [] (.call 4 (.cons (.e (.c (.int 9))) .nil)))
 (.cons (.iff (.an (.cmp .Gt (.v 3) (.c (.int 6))) (.cmp .Lt (.v 2) (.c (.int 3))))
  (.cons (.retL (.tup (.cons (.e (.c (.str "choose"))) (.cons (.comp 1 [0,1,2] (.n 0) (.op .Add (.e (.c (.int 2))) (.call 4 (.cons (.e (.c (.int 3))) .nil))) 1 (.call 16 (.cons (.e (.v 2)) (.cons (.e (.op .Add (.v 3) (.c (.int 1)))) .nil)))) .nil))))
  .nil)
  .nil)
 (.cons (.iff (.an (.cmp .Gt (.v 3) (.c (.int 4))) (.cmp .Lt (.v 2) (.c (.int 3))))
  (.cons (.setL 4 0 [] (.call 4 (.cons (.idx (.e (.lst (.cons (.c (.int 3)) (.cons (.c (.int 4)) (.cons (.c (.int 9)) .nil))))) (.call 4 (.cons (.e (.c (.int 3))) .nil))) .nil)))
  (.cons (.retL (.tup (.cons (.e (.c (.str "loop"))) (.cons (.e (.v 4)) (.cons (.call 16 (.cons (.e (.v 1)) (.cons (.e (.op .Add (.v 2) (.c (.int 1)))) .nil))) .nil)))))
  .nil))
  .nil)
 (.cons (.iff (.cmp .Eq (.op .Mod (.v 3) (.c (.int 2))) (.c (.int 0)))
  (.cons (.retL (.tup (.cons (.e (.c (.str "put"))) (.cons (.call 14 (.cons (.e (.v 1)) .nil)) .nil))))
  .nil)
  .nil)
 (.cons (.retL (.tup (.cons (.e (.c (.str "wait"))) (.cons (.call 7 (.cons (.e (.v 1)) (.cons (.e (.c (.int 1))) .nil))) (.cons (.call 14 (.cons (.e (.v 1)) .nil)) .nil)))))
 .nil))))))⟩
noncomputable def f16:Hp.Fn:=⟨3,3,
 (.cons .lend
 (.cons (.retL (.comp 1 [0,1,2] (.n 0) (.call 4 (.cons (.e (.idx (.lst (.cons (.c (.int 5)) (.cons (.c (.int 3)) (.cons (.c (.int 3)) .nil)))) (.op .Sub (.v 2) (.c (.int 1))))) .nil)) 1 (.call 15 (.cons (.e (.v 2)) (.cons (.e (.v 3)) .nil)))))
 .nil))⟩
noncomputable def f17:Hp.Fn:=⟨1,3,
 (.cons (.set (.n 1) (.c (.int 0)))
 (.cons (.for (.n 2) (.seq (.v 0))
  (.cons (.iff (.cmp .Eq (.idx (.v 2) (.c (.int 0))) (.c (.str "choose")))
   (.cons (.set (.n 1) (.op .Add (.op .Add (.v 1) (.c (.int 1))) (.bi .sum (.cons (.comp 1 [] (.n 0) (.seq (.idx (.v 2) (.c (.int 1)))) .nil (.call 17 (.cons (.v 0) .nil))) .nil))))
   .nil)
   (.cons (.iff (.cmp .Eq (.idx (.v 2) (.c (.int 0))) (.c (.str "loop")))
    (.cons (.set (.n 1) (.op .Add (.v 1) (.op .Mult (.idx (.v 2) (.c (.int 1))) (.call 17 (.cons (.idx (.v 2) (.c (.int 2))) .nil)))))
    .nil)
    (.cons (.set (.n 1) (.op .Add (.v 1) (.c (.int 1))))
    .nil))
   .nil))
  .nil))
 (.cons (.retv 1)
 .nil)))⟩
noncomputable def f18:Hp.Fn:=⟨1,2,
 (.cons (.set (.n 1) (.bi .list (.cons (.v 0) .nil)))
 (.cons (.whl (.cmp .Gt (.call 17 (.cons (.v 1) .nil)) (.c (.int 8)))
  (.cons (.pop none 1 none)
  .nil))
 (.cons (.retv 1)
 .nil)))⟩
noncomputable def f19:Hp.Fn:=⟨1,1,
 (.cons (.ret (.bi .sum (.cons (.comp 1 [] (.n 0) (.seq (.v 0)) .nil (.call 20 (.cons (.v 0) .nil))) .nil)))
 .nil)⟩
noncomputable def f20:Hp.Fn:=⟨1,1,
 (.cons (.iff (.cmp .Eq (.idx (.v 0) (.c (.int 0))) (.c (.str "choose")))
  (.cons (.ret (.op .Add (.c (.int 1)) (.bi .sum (.cons (.comp 1 [] (.n 0) (.seq (.idx (.v 0) (.c (.int 1)))) .nil (.call 19 (.cons (.v 0) .nil))) .nil))))
  .nil)
  .nil)
 (.cons (.ret (.ife (.cmp .Eq (.idx (.v 0) (.c (.int 0))) (.c (.str "loop"))) (.op .Mult (.idx (.v 0) (.c (.int 1))) (.call 19 (.cons (.idx (.v 0) (.c (.int 2))) .nil))) (.c (.int 1))))
 .nil))⟩
noncomputable def f21:Hp.Fn:=⟨1,1,
 (.cons (.ret (.ife (.cmp .Eq (.idx (.v 0) (.c (.int 0))) (.c (.str "wait"))) (.idx (.v 0) (.c (.int 1))) (.tup (.cons (.c (.str "yes")) .nil))))
 .nil)⟩
noncomputable def f22:Hp.Fn:=⟨2,2,
 (.cons (.ret (.tup (.cons (.call 21 (.cons (.v 0) .nil)) (.cons (.idx (.v 0) (.neg (.c (.int 1)))) (.cons (.v 1) .nil)))))
 .nil)⟩
noncomputable def f23:Hp.Fn:=⟨3,3,
 (.cons (.ex (.call 8 (.cons (.v 1) .nil)))
 (.cons (.ret (.callC 24 (.v 0) (.v 1) (.lst (.cons (.v 2) .nil))))
 .nil))⟩
noncomputable def f24:Hp.Fn:=⟨3,4,
 (.cons (.cln 2)
 (.cons (.for (.n 3) (.seq (.v 1))
  (.cons (.set (.n 2) (.callC 25 (.v 0) (.v 3) (.v 2)))
  .nil))
 (.cons (.retv 2)
 .nil)))⟩
noncomputable def f25:Hp.Fn:=⟨3,6,
 (.cons (.cln 2)
 (.cons (.iff (.cmp .Eq (.idx (.v 1) (.c (.int 0))) (.c (.str "loop")))
  (.cons (.ret (.callC 24 (.v 0) (.op .Mult (.idx (.v 1) (.c (.int 2))) (.idx (.v 1) (.c (.int 1)))) (.v 2)))
  .nil)
  .nil)
 (.cons (.set (.n 3) (.lst .nil))
 (.cons (.iff (.cmp .Eq (.idx (.v 1) (.c (.int 0))) (.c (.str "choose")))
  (.cons (.for (.n 4) (.seq (.idx (.v 1) (.c (.int 1))))
   (.cons (.ext 3 (.callC 24 (.v 0) (.v 4) (.v 2)))
   .nil))
  .nil)
  (.cons (.set (.n 5) (.call 22 (.cons (.v 1) (.cons (.c (.int 0)) .nil))))
  (.cons (.set (.n 3) (.comp 1 [0,5] (.n 0) (.seq (.v 2)) .nil (.call 2 (.cons (.v 1) (.cons (.v 2) (.cons (.v 0) .nil))))))
  .nil)))
 (.cons (.ret (.sset (.comp 1 [] (.n 0) (.seq (.v 3)) (.cons (.cmp .IsNot (.v 0) (.c .non)) .nil) (.v 0))))
 .nil)))))⟩
noncomputable def f26:Hp.Fn:=⟨3,10,
 (.cons (.for (.n 3) (.seq (.v 1))
  (.cons (.dnew 4)
  (.cons (.iff (.cmp .Eq (.idx (.v 3) (.c (.int 0))) (.c (.str "loop")))
   (.cons (.for (.n 5) (.rng (.c (.int 0)) (.idx (.v 3) (.c (.int 1))))
    (.cons (.set (.n 2) (.call 26 (.cons (.v 0) (.cons (.idx (.v 3) (.c (.int 2))) (.cons (.v 2) .nil)))))
    .nil))
   (.cons (.dset 4 (.comp 1 [] (.n 0) (.seq (.v 2)) .nil (.tup (.cons (.v 0) (.cons (.c (.bl true)) .nil)))))
   .nil))
   (.cons (.iff (.cmp .Eq (.idx (.v 3) (.c (.int 0))) (.c (.str "choose")))
    (.cons (.for (.n 6) (.seq (.idx (.v 3) (.c (.int 1))))
     (.cons (.dupd 4 (.comp 1 [] (.n 0) (.seq (.call 26 (.cons (.v 0) (.cons (.v 6) (.cons (.v 2) .nil))))) .nil (.tup (.cons (.v 0) (.cons (.c (.bl true)) .nil)))))
     .nil))
    .nil)
    (.cons (.set (.n 7) (.idx (.lst (.cons (.tup (.cons (.c (.str "yes")) .nil)) (.cons (.idx (.v 3) (.c (.int 1))) .nil))) (.bi .int (.cons (.cmp .Eq (.idx (.v 3) (.c (.int 0))) (.c (.str "wait"))) .nil))))
    (.cons (.for (.n 8) (.seq (.v 2))
     (.cons (.set (.n 9) (.call 11 (.cons (.v 0) (.cons (.tup (.cons (.v 7) (.cons (.idx (.v 3) (.neg (.c (.int 1)))) (.cons (.c (.int 0)) .nil)))) (.cons (.v 8) .nil)))))
     (.cons (.iff (.cmp .IsNot (.v 9) (.c .non))
      (.cons (.dput 4 (.v 9) (.c (.bl true)))
      .nil)
      .nil)
     .nil)))
    .nil)))
   .nil))
  (.cons (.set (.n 2) (.srtD 4))
  .nil))))
 (.cons (.retv 2)
 .nil))⟩
noncomputable def f27:Hp.Fn:=⟨2,3,
 (.cons (.iff (.orr (.nt (.isi (.v 0) [.tList])) (.cmp .NotEq (.v 0) (.v 1)))
  (.cons (.ret (.c (.bl false)))
  .nil)
  .nil)
 (.cons (.for (.n 2) (.seq (.v 0))
  (.cons (.iff (.orr (.nt (.isi (.v 2) [.tTuple])) (.cmp .NotEq (.comp 1 [] (.n 0) (.seq (.v 2)) (.cons (.nt (.call 13 (.cons (.v 0) .nil))) .nil) (.v 0)) (.lst .nil)))
   (.cons (.ret (.c (.bl false)))
   .nil)
   .nil)
  .nil))
 (.cons (.ret (.c (.bl true)))
 .nil)))⟩
noncomputable def f28:Hp.Fn:=⟨1,9,
 (.cons (.set (.n 1) (.lst (.cons (.v 0) (.cons (.c (.int 0)) .nil))))
 (.cons (.setL 2 1 [] (.call 5 (.cons (.e (.c (.int 12))) .nil)))
 (.cons (.setL 3 1 [2] (.pcall 18 (.cons (.call 16 (.cons (.e (.v 2)) (.cons (.e (.c (.int 1))) .nil))) .nil)))
 (.cons (.set (.n 4) (.call 12 (.cons (.v 2) .nil)))
 (.cons (.setL 5 1 [4] (.call 4 (.cons (.e (.bi .len (.cons (.v 4) .nil))) .nil)))
 (.cons (.for (.n 6) (.seq (.sli (.op .Add (.sli (.v 4) (.cons (.v 5) .nil) .nil) (.sli (.v 4) .nil (.cons (.v 5) .nil))) .nil (.cons (.c (.int 5)) .nil)))
  (.cons (.set (.n 7) (.call 26 (.cons (.v 2) (.cons (.v 3) (.cons (.lst (.cons (.v 6) .nil)) .nil)))))
  (.cons (.set (.n 8) (.callP 23 (.cons (.v 2) (.cons (.v 3) (.cons (.v 6) .nil)))))
  (.cons (.iff (.nt (.call 27 (.cons (.v 8) (.cons (.v 7) .nil))))
   (.cons (.ret (.c (.bl false)))
   .nil)
   .nil)
  (.cons (.app 8 (.v 6))
  (.cons (.iff (.nt (.call 27 (.cons (.call 23 (.cons (.v 2) (.cons (.v 3) (.cons (.v 6) .nil)))) (.cons (.v 7) .nil))))
   (.cons (.ret (.c (.bl false)))
   .nil)
   .nil)
  .nil))))))
 (.cons (.ret (.c (.bl true)))
 .nil)))))))⟩
noncomputable def pg:Hp.Pg:=⟨[f0,f1,f2,f3,f4,f5,f6,f7,f8,f9,f10,f11,f12,f13,f14,f15,f16,f17,f18,f19,f20,f21,f22,f23,f24,f25,f26,f27,f28],[[.own 0,.tValueError],[.own 1,.own 0,.tValueError]],[]⟩
end K77
namespace K77
open Hp HpS PySem
theorem vH(j:Int)(h:0<j):∀i:Int,opD .Mod (.cl (.int i)) (.cl (.int j))=.ok (.cl (.int (i % j))):=λi=>aBq h
theorem aEQ(h:-(2 ^ 64)<j/\j<2 ^ 64):opD .Mult (.cl (.int i)) (.cl (.int j))=.ok (.cl (.int (i*j))):=mul_int (by
 unfold rT;rw[Ao h.1,Ao h.2];simp)
theorem aBu(h:-(2 ^ 64)<i/\i<2 ^ 64):opD .Mult (.cl (.int i)) (.cl (.int j))=.ok (.cl (.int (i*j))):=mul_int (by
 unfold rT;rw[Ao h.1,Ao h.2];simp)
def aBv(ns:List Int)(k:Nat):Int:=
 if k<ns.length then ns.getD k 0 else (if 0<ns.length then ns.getD ((k*7+3) % ns.length) 0 else 0)*31+(k:Int)*k*7919+101*k+17
theorem yD{ns:List Int}(h:k<ns.length):bH ⟨.lst (ns.map D.int),false,true,[]⟩ (.cl (.int (k:Int)))=.ok (.cl (.int (ns.getD k 0))):=by
 have B:(ns.map D.int).length=ns.length:=lM _;have e:(ns.map D.int)[k]? = some (.int (ns.getD k 0)):=by simp[h]
 unfold bH;simp only[cH,B,fB h,e];rfl
theorem aHd(n:Nat)(ns:List Int){k:Nat}(h:k<=1000000):call pg (n+1) 3 [.lst (ns.map D.int),.int k]=.ok (.int (aBv ns k),false,false):=by
 refine aN (F:=f3) rfl rfl (v:=.cl (.int (aBv ns k))) ?_;show exs pg (call pg n) [.sh true (.lst (ns.map D.int)),.sh true (.int k),.dead] _=_;unfold aBv;by_cases G:k<ns.length;have hd:decide ((k:Int)<(ns.length:Int))=true:=Ao (by omega);rw[if_pos G];simp only[f3,bI,eK,aW,fA,eI,jI,aF,bD,bV,gS,gZ,iZ,gK,aC,oH,lM,cH,qD,hd,aG,if_true,iK,dR,yD G,nQ];have hd:decide ((k:Int)<(ns.length:Int))=false:=Av (by omega);rw[if_neg G];have m1:∀i:Int,opD .Mult (.cl (.int i)) (.cl (.int 31))=.ok (.cl (.int (i*31))):=λi=>aEQ (by decide);have m2:opD .Mult (.cl (.int k)) (.cl (.int k))=.ok (.cl (.int ((k:Int)*k))):=aEQ (by omega);have I:opD .Mult (.cl (.int ((k:Int)*k))) (.cl (.int 7919))=.ok (.cl (.int ((k:Int)*k*7919))):=aEQ (by decide);have m4:opD .Mult (.cl (.int 101)) (.cl (.int k))=.ok (.cl (.int (101*(k:Int)))):=aBu (by decide);have L:opD .Mult (.cl (.int k)) (.cl (.int 7))=.ok (.cl (.int ((k:Int)*7))):=aEQ (by decide);by_cases hz:0<ns.length;have B:decide ((0:Int)<(ns.length:Int))=true:=Ao (by omega);have e:((k:Int)*7+3) % (ns.length:Int)=(((k*7+3) % ns.length:Nat):Int):=by rw[Int.natCast_emod,E7,DL];rfl
 rw[if_pos hz];simp only[f3,bI,eK,aW,fA,eI,jI,eB,aF,bD,bV,gS,gZ,iZ,gK,aC,oH,lM,cH,qD,aAm,hd,B,aG,bF,if_false,if_true,aAi,eS,jJ,bU,eE,bS,lS,lZ,dR,iH,L,add_int,vH (ns.length:Int) (by omega),e,yD (EQ _ hz),iK,m1,m2,I,m4,nQ];have B:decide ((0:Int)<(ns.length:Int))=false:=Av (by omega);rw[if_neg hz];simp only[f3,bI,eK,aW,fA,eI,jI,eB,aF,bD,bV,gS,gZ,iZ,gK,aC,oH,lM,cH,qD,aAm,hd,B,aG,bF,if_false,aAi,eS,jJ,bU,eE,bS,lS,lZ,iH,add_int,iK,m1,m2,I,m4,nQ]
def aO(ns:List Int)(k:Nat):List D:=[.lst (ns.map D.int),.int k]
def nxt(ns:List Int)(k:Nat)(m:Int):Int:=(aBv ns k % 4294967291+13*((k:Int)+1))*48271 % 2147483647 / 3 % m
theorem cK(ns:List Int)(k:Nat)(h:0<m):0<=nxt ns k m/\nxt ns k m<m:=⟨Iy _ (by omega),He _ h⟩
theorem aBw(n:Nat)(ns:List Int){k:Nat}(h:k<=1000000){m:Int}(I:0<m):call pg (n+2) 4 [.err 0 (aO ns k),.int m]=.ok (.tup [.int (nxt ns k m),.err 0 (aO ns (k+1))],false,false):=by
 have G:=aHd n ns h;refine dI (F:=f4) (b:=_) rfl rfl rfl (v:=.cl (.tup [.int (nxt ns k m),.err 0 (aO ns (k+1))])) ?_;show exs pg (call pg (n+1)) [.lent (aO ns k),.sh true (.int m),.dead] _=_;have L:∀r,ev pg (call pg (n+1)) (.lent (aO ns k)::r) (.lix 0 (.c (.int 0)))=.ok ⟨.lst (ns.map D.int),false,true,[]⟩:=λr=>rfl;have M:∀k r,ev pg (call pg (n+1)) (.lent (aO ns k)::r) (.lix 0 (.c (.int 1)))=.ok (.cl (.int k)):=λk r=>rfl;have s2:∀r,ex pg (call pg (n+1)) (.lent (aO ns k)::r) (.lset 0 (.c (.int 1)) (.op .Add (.lix 0 (.c (.int 1))) (.c (.int 1))))=.next (.lent (aO ns (k+1))::r):=λr=>rfl;have m1:∀i:Int,opD .Mult (.cl (.int i)) (.cl (.int 48271))=.ok (.cl (.int (i*48271))):=λi=>aEQ (by decide);have m2:∀i:Int,opD .Mult (.cl (.int 13)) (.cl (.int i))=.ok (.cl (.int (13*i))):=λi=>aBu (by decide);have B:∀i:Int,opD .FloorDiv (.cl (.int i)) (.cl (.int 3))=.ok (.cl (.int (i / 3))):=λi=>vB rfl;have e:((k+1:Nat):Int)=(k:Int)+1:=by omega
 simp only[bI,eK,eS,iH,eJ,aF,bD,L,M,aC,mC,mN,cH,G,mT,eB,vH 4294967291 (by decide),aG,jJ,bU,eE,bS,lS,lZ,aAi,s2,vF,aHY,eI,bV,gS,gZ,aV,iZ,m2,m1,add_int,vH 2147483647 (by decide),B,vH m I,aHb,aEP,nQ,e];rfl
def drp:Nat->Ss->Ss
 | 0,s=>s|n+1,.cons _ s=>drp n s|_+1,.nil=>.nil
def hdS:Ss->S
 | .cons s _=>s|.nil=>.pass
theorem stp(h:ex P W Z s=.next Z'):exs P W Z (.cons s ss)=exs P W Z' ss:=by rw[bI,h,aAi]
theorem eW(h:ex P W Z s=.ret v):exs P W Z (.cons s ss)=.ret v:=by rw[bI,h,nQ]
section
variable {P:Pg} {W:Caller} {l:Nat} {Z Z1 Z2 Z3:Sg}
theorem aKI(h:evl P W l Z a=.ok (x,Z1)):evls' P W l Z (.cons a .nil)=.ok ([x],Z1):=by rw[gL,h];rfl
theorem aER(h:evl P W l Z a=.ok (x,Z1))(B:evl P W l Z1 b=.ok (y,Z2)):evls' P W l Z (.cons a (.cons b .nil))=.ok ([x,y],Z2):=by rw[gL,h,aC,aKI B];rfl
theorem aNK(h:evl P W l Z a=.ok (x,Z1))(B:evl P W l Z1 b=.ok (y,Z2))(G:evl P W l Z2 c=.ok (z,Z3)):evls' P W l Z (.cons a (.cons b (.cons c .nil)))=.ok ([x,y,z],Z3):=by rw[gL,h,aC,aER B G];rfl
theorem cF(h:ev P W Z a=.ok (.cl d)):evl P W l Z (.e a)=.ok (.cl d,Z):=by rw[aHY,h];rfl
theorem jB(h:evl P W l Z a=.ok (.cl x,Z1))(B:evl P W l Z1 b=.ok (.cl y,Z2)):evl P W l Z (.tup (.cons a (.cons b .nil)))=.ok (.cl (.tup [x,y]),Z2):=by rw[vE,aER h B];rfl
theorem oJ(h:evl P W l Z a=.ok (.cl x,Z1))(B:evl P W l Z1 b=.ok (.cl y,Z2))(G:evl P W l Z2 c=.ok (.cl z,Z3)):evl P W l Z (.tup (.cons a (.cons b (.cons c .nil))))=.ok (.cl (.tup [x,y,z]),Z3):=by rw[vE,aNK h B G];rfl
theorem yE(h:evl P W l Z a=.ok (.cl x,Z1))(B:evl P W l Z1 b=.ok (.cl y,Z2))(G:opD o (.cl x) (.cl y)=.ok (.cl z)):evl P W l Z (.op o a b)=.ok (.cl z,Z2):=by rw[aKE,h,aC,B,aC];show(opD o (.cl x) (.cl y) >>= λz=>noAl z Z2)=_;rw[G];rfl
theorem jK(h:evl P W 0 Z e=.ok (.cl d,.lent c::r)):ex P W Z (.retL e)=.ret (.cl (.tup [d,.err 0 c])):=by rw[vF,h];rfl
end
theorem dX(n:Nat)(h:k<=1000000)(G:0<m)(B:evl pg (call pg (n+2)) 0 (.lent c::r) a=.ok (.cl (.int m),.lent (aO ns k)::r1)) :
 evl pg (call pg (n+2)) 0 (.lent c::r) (.call 4 (.cons a .nil))=.ok (.cl (.int (nxt ns k m)),.lent (aO ns (k+1))::r1):=qJ rfl (aKI B) (aBw n ns h G)
theorem aBx(i:Int):i % 2=0\/i % 2=1:=by omega
theorem aES{v:Vl}(B:v.d=.lst [.str a,.str b])(h:i=0\/i=1):bH v (.cl (.int i))=.ok (.cl (.str (if i=0 then a else b))):=by unfold bH;rw[B];rcases h with rfl|rfl <;> rfl
theorem aKJ(a b:Str):oV [.cl (.str a),.cl (.str b)]=⟨.lst [.str a,.str b],true,false,[]⟩:=rfl
abbrev fr(ns:List Int)(k:Nat)(bs:List (Str×Int))(dp:Int)(s:Sl):Sg:=[.lent (aO ns k),.sh true (.lst (aB bs)),.sh true (.int dp),s]
theorem lI(B:tst P W Z a=.ok x)(G:tst P W Z b=.ok y):tst P W Z (.orr a b)=.ok (x||y):=by
 rw[aBm,B,aC];cases x with
 | true=>rfl|false=>rw[if_neg bN,G];rfl
theorem qN(n:Nat)(ns:List Int)(hk:k<=900000){bs:List (Str×Int)}(hm:1<=bs.length)(hd:dp=0\/nxt ns k 6<3) :
 ∃(s:Sm) (k':Nat),s.wf bs.length true/\s.sz=1/\k'<=k+3/\call pg (n+3) 6 [.err 0 (aO ns k),.lst (aB bs),.int dp]=.ok (.tup [s.d,.err 0 (aO ns k')],false,false):=by
 have x0:=dX n (ns:=ns) (k:=k) (by omega) (m:=6) (by decide) (c:=aO ns k) (r:=[.sh true (.lst (aB bs)),.sh true (.int dp),.dead]) (a:=.e (.c (.int 6))) (cF rfl);have U:ex pg (call pg (n+2)) (fr ns k bs dp .dead) (.setL 3 0 [] (.call 4 (.cons (.e (.c (.int 6))) .nil)))=.next (fr ns (k+1) bs dp (.sh false (.int (nxt ns k 6)))):=by rw[eL,bU,x0];rfl
 have ht:tst pg (call pg (n+2)) (fr ns (k+1) bs dp (.sh false (.int (nxt ns k 6)))) (.orr (.cmp .Eq (.v 2) (.c (.int 0))) (.cmp .Lt (.v 3) (.c (.int 3))))=.ok true:=by rw[lI (x:=dp==0) (y:=decide (nxt ns k 6<3)) rfl rfl];rcases hd with h|h;rw[h];rfl;rw[Ao h,C8]
 have w2:∀W:Caller,ev pg W (fr ns (k+1) bs dp (.sh false (.int (nxt ns k 6)))) (.op .Mod (.v 3) (.c (.int 2)))=.ok (.cl (.int (nxt ns k 6 % 2))):=λW=>by simp only[iH,eI,eB,bV,fr,gS,gZ,aV,aC,vH 2 (by decide)]
 by_cases hz:nxt ns k 6 % 2=0;have hb:(0:Int)<((aB bs).length:Int):=by rw[aB,lM];omega
 have M:=dX n (ns:=ns) (k:=k+1) (by omega) hb (c:=aO ns (k+1)) (r:=[.sh true (.lst (aB bs)),.sh true (.int dp),.sh false (.int (nxt ns k 6))]) (a:=.e (.bi .len (.cons (.v 1) .nil))) (cF rfl);have G:=cK ns (k+1) hb;have hl:((aB bs).length:Int)=(bs.length:Int):=by rw[aB,lM]
 refine⟨.box (nxt ns (k+1) (aB bs).length).toNat,k+2,(show _<_ by omega),rfl,by omega,?_⟩;refine dI (F:=f6) (b:=_) rfl rfl rfl (v:=.cl (.tup [Sm.d (.box (nxt ns (k+1) (aB bs).length).toNat),.err 0 (aO ns (k+2))])) ?_;show exs pg (call pg (n+2)) (fr ns k bs dp .dead) _=_;refine(stp U).trans (eW ?_);have L:tst pg (call pg (n+2)) (fr ns (k+1) bs dp (.sh false (.int (nxt ns k 6)))) (.cmp .Eq (.op .Mod (.v 3) (.c (.int 2))) (.c (.int 0)))=.ok true:=by simp only[fA,w2,eB,aC,cH,vA,aBo,hz];rfl
 rw[aW,ht,aG,if_pos rfl];refine eW ?_;rw[aW,L,aG,if_pos rfl];refine eW ?_;have:=jK (jB (cF (a:=.c (.str "box")) rfl) M);rw[this];show O.ret (.cl (.tup [.tup [.str "box",.int _],_]))=O.ret (.cl (.tup [.tup [.str "box",.int _],_]));rw[CM G.1];have B:(nxt ns k 6 % 2==0)=false:=beq_eq_false_iff_ne.mpr hz;have M:=dX n (ns:=ns) (k:=k+1) (by omega) (m:=4) (by decide) (c:=aO ns (k+1)) (r:=[.sh true (.lst (aB bs)),.sh true (.int dp),.sh false (.int (nxt ns k 6))]) (a:=.e (.c (.int 4))) (cF rfl);have G:=cK ns (k+1) (m:=4) (by decide);obtain⟨q,hq,q0,q1⟩:∃q:Int,bH (⟨.lst [.int 3,.int 4,.int 8,.int 100],false,false,[]⟩:Vl) (.cl (.int (nxt ns (k+1) 4)))=.ok (.cl (.int q))/\0<q/\q<=100:=by
  generalize nxt ns (k+1) 4=w at G;have:w=0\/w=1\/w=2\/w=3:=by omega
  rcases this with rfl|rfl|rfl|rfl;exact⟨3,rfl,by decide,by decide⟩;exact⟨4,rfl,by decide,by decide⟩;exact⟨8,rfl,by decide,by decide⟩;exact⟨100,rfl,by decide,by decide⟩
 have xi:evl pg (call pg (n+2)) 0 (fr ns (k+1) bs dp (.sh false (.int (nxt ns k 6)))) (.idx (.e (.lst (.cons (.c (.int 3)) (.cons (.c (.int 4)) (.cons (.c (.int 8)) (.cons (.c (.int 100)) .nil)))))) (.call 4 (.cons (.e (.c (.int 4))) .nil)))=.ok (.cl (.int q),fr ns (k+2) bs dp (.sh false (.int (nxt ns k 6)))):=by rw[vD];show(evl pg (call pg (n+2)) 0 (fr ns (k+1) bs dp (.sh false (.int (nxt ns k 6)))) (.call 4 (.cons (.e (.c (.int 4))) .nil)) >>= λy=>bH (⟨.lst [.int 3,.int 4,.int 8,.int 100],false,false,[]⟩:Vl) y.1.nr >>= λz=>noAl z y.2)=_;rw[M];show(bH (⟨.lst [.int 3,.int 4,.int 8,.int 100],false,false,[]⟩:Vl) (.cl (.int (nxt ns (k+1) 4))) >>= λz=>noAl z _)=_;rw[hq];rfl
 have x2:=dX n (ns:=ns) (k:=k+2) (by omega) q0 (c:=aO ns (k+1)) (r:=[.sh true (.lst (aB bs)),.sh true (.int dp),.sh false (.int (nxt ns k 6))]) xi;have I:=cK ns (k+2) q0;refine⟨.num (nxt ns (k+2) q),k+3,⟨I.1,by omega⟩,rfl,by omega,?_⟩;refine dI (F:=f6) (b:=_) rfl rfl rfl (v:=.cl (.tup [Sm.d (.num (nxt ns (k+2) q)),.err 0 (aO ns (k+3))])) ?_;show exs pg (call pg (n+2)) (fr ns k bs dp .dead) _=_;refine(stp U).trans (eW ?_);have L:tst pg (call pg (n+2)) (fr ns (k+1) bs dp (.sh false (.int (nxt ns k 6)))) (.cmp .Eq (.op .Mod (.v 3) (.c (.int 2))) (.c (.int 0)))=.ok false:=by simp only[fA,w2,eB,aC,cH,vA,aBo,B]
 rw[aW,ht,aG,if_pos rfl];refine(stp (Z':=fr ns (k+1) bs dp (.sh false (.int (nxt ns k 6)))) ?_).trans (eW ?_);rw[aW,L,aG,if_neg bN];rfl;exact jK (jB (cF (a:=.c (.str "number")) rfl) x2)
theorem aET(n:Nat)(ns:List Int)(hk:k<=800000){bs:List (Str×Int)}(M:1<=bs.length)(hd:dp=0\/dp=1) :
 ∃(s:Sm) (B:Nat),s.wf bs.length true/\s.sz<=3/\B<=k+10/\call pg (n+4) 6 [.err 0 (aO ns k),.lst (aB bs),.int dp]=.ok (.tup [s.d,.err 0 (aO ns B)],false,false):=by
 by_cases W:dp=0\/nxt ns k 6<3;obtain⟨s,B,I,h2,L,h4⟩:=qN (n+1) ns (k:=k) (by omega) M W;exact⟨s,B,I,by omega,by omega,h4⟩;have I:dp=1:=by omega
 subst I;have L:¬ nxt ns k 6<3:=λz=>W (.inr z);have x0:=dX (n+1) (ns:=ns) (k:=k) (by omega) (m:=6) (by decide) (c:=aO ns k) (r:=[.sh true (.lst (aB bs)),.sh true (.int 1),.dead]) (a:=.e (.c (.int 6))) (cF rfl);have U:ex pg (call pg (n+3)) (fr ns k bs 1 .dead) (.setL 3 0 [] (.call 4 (.cons (.e (.c (.int 6))) .nil)))=.next (fr ns (k+1) bs 1 (.sh false (.int (nxt ns k 6)))):=by rw[eL,bU,x0];rfl
 obtain⟨s,k1,s1,s2,s3,s4⟩:=qN n ns (k:=k+1) (by omega) M (dp:=0) (.inl rfl);obtain⟨t,k2,t1,t2,t3,t4⟩:=qN n ns (k:=k1) (by omega) M (dp:=0) (.inl rfl);generalize nxt ns k 6=w at L U;have ht:tst pg (call pg (n+3)) (fr ns (k+1) bs 1 (.sh false (.int w))) (.orr (.cmp .Eq (.v 2) (.c (.int 0))) (.cmp .Lt (.v 3) (.c (.int 3))))=.ok false:=by rw[lI (x:=false) (y:=decide (w<3)) rfl rfl,Av L];rfl
 have p2:=aES (a:= "plus") (b:= "minus") (v:=⟨.lst [.str "plus",.str "minus"],true,false,[]⟩) rfl (aBx w);have hw:(if w % 2=0 then ("plus" : Str) else "minus")=qL (decide (w % 2=0)):=by unfold qL;by_cases h:w % 2=0 <;> simp[h]
 rw[hw] at p2;have ew:evl pg (call pg (n+3)) 0 (fr ns (k+1) bs 1 (.sh false (.int w))) (.e (.idx (.lst (.cons (.c (.str "plus")) (.cons (.c (.str "minus")) .nil))) (.op .Mod (.v 3) (.c (.int 2)))))=.ok (.cl (.str (qL (decide (w % 2=0)))),fr ns (k+1) bs 1 (.sh false (.int w))):=by refine cF ?_;simp only[dR,jX,aF,bD,iH,eI,eB,bV,fr,gS,gZ,aV,aC,vH 2 (by decide),aKJ,p2]
 have G:∀{k B:Nat} {s:Sm},call pg (n+3) 6 [.err 0 (aO ns k),.lst (aB bs),.int 0]=.ok (.tup [s.d,.err 0 (aO ns B)],false,false)->evl pg (call pg (n+3)) 0 (fr ns k bs 1 (.sh false (.int w))) (.call 6 (.cons (.e (.v 1)) (.cons (.e (.op .Sub (.v 2) (.c (.int 1)))) .nil)))=.ok (.cl s.d,fr ns B bs 1 (.sh false (.int w))):=λ{k B s} h=>qJ (vs:=[⟨.lst (aB bs),false,true,[]⟩,.cl (.int 0)]) rfl rfl h;refine⟨.two (decide (w % 2=0)) s t,k2,⟨s1,t1⟩,by show 1+s.sz+t.sz<=3;omega,by omega,?_⟩;refine dI (F:=f6) (b:=_) rfl rfl rfl (v:=.cl (.tup [Sm.d (.two (decide (w % 2=0)) s t),.err 0 (aO ns k2)])) ?_;show exs pg (call pg (n+3)) (fr ns k bs 1 .dead) _=_;refine(stp U).trans ((stp (Z':=fr ns (k+1) bs 1 (.sh false (.int w))) ?_).trans (eW ?_));rw[aW,ht,aG,if_neg bN];rfl;exact jK (oJ ew (G s4) (G t4))
theorem aKK(n:Nat)(W:k<=800000){bs:List (Str×Int)}(hm:1<=bs.length)(hd:dp=0\/dp=1)
 (U:evl pg (call pg (n+4)) 0 (.lent (aO ns k)::.sh true (.lst (aB bs))::r) b=.ok (.cl (.int dp),.lent (aO ns k)::.sh true (.lst (aB bs))::r)) :
 ∃(s:Sm) (B:Nat),s.wf bs.length true/\s.sz<=3/\B<=k+10/\evl pg (call pg (n+4)) 0 (.lent (aO ns k)::.sh true (.lst (aB bs))::r) (.call 6 (.cons (.e (.v 1)) (.cons b .nil)))=.ok (.cl s.d,.lent (aO ns B)::.sh true (.lst (aB bs))::r):=by obtain⟨s,B,G,I,L,M⟩:=aET n ns W hm hd;exact⟨s,B,G,I,L,qJ (vs:=[⟨.lst (aB bs),false,true,[]⟩,.cl (.int dp)]) rfl (aER rfl U) M⟩
theorem sY(n:Nat)(ns:List Int)(hk:k<=700000){bs:List (Str×Int)}(L:1<=bs.length)(hd:dp=0\/nxt ns k 10<5) :
 ∃(q:Cn) (U:Nat),q.wf bs.length true/\q.sz<=7/\U<=k+21/\call pg (n+5) 7 [.err 0 (aO ns k),.lst (aB bs),.int dp]=.ok (.tup [q.d,.err 0 (aO ns U)],false,false):=by
 have x0:=dX (n+2) (ns:=ns) (k:=k) (by omega) (m:=10) (by decide) (c:=aO ns k) (r:=[.sh true (.lst (aB bs)),.sh true (.int dp),.dead]) (a:=.e (.c (.int 10))) (cF rfl);have B:ex pg (call pg (n+4)) (fr ns k bs dp .dead) (.setL 3 0 [] (.call 4 (.cons (.e (.c (.int 10))) .nil)))=.next (fr ns (k+1) bs dp (.sh false (.int (nxt ns k 10)))):=by rw[eL,bU,x0];rfl
 generalize nxt ns k 10=w at hd B;have t0:tst pg (call pg (n+4)) (fr ns (k+1) bs dp (.sh false (.int w))) (.cmp .Eq (.v 3) (.c (.int 0)))=.ok (w==0):=rfl;by_cases M:w=0;refine⟨.yes,k+1,trivial,by decide,by omega,?_⟩;refine dI (F:=f7) (b:=_) rfl rfl rfl (v:=.cl (.tup [Cn.d .yes,.err 0 (aO ns (k+1))])) ?_;show exs pg (call pg (n+4)) (fr ns k bs dp .dead) _=_;refine(stp B).trans (eW ?_);rw[aW,t0,M,aG];exact eW (jK (cF rfl));have G:(w==0)=false:=beq_eq_false_iff_ne.mpr M;have m2:∀e,ev pg (call pg (n+4)) (fr ns (k+1) bs dp (.sh false (.int w))) e=.ok (.cl (.int w))->ev pg (call pg (n+4)) (fr ns (k+1) bs dp (.sh false (.int w))) (.op .Mod e (.c (.int 2)))=.ok (.cl (.int (w % 2))):=λe h=>by rw[iH,h,aC,eB,aC,vH 2 (by decide)]
 obtain⟨s,k1,s1,s2,s3,s4⟩:=aKK n (ns:=ns) (k:=k+1) (by omega) L (aBx w) (b:=.e (.op .Mod (.v 3) (.c (.int 2)))) (r:=[.sh true (.int dp),.sh false (.int w)]) (cF (m2 _ rfl));obtain⟨t,W,t1,t2,t3,t4⟩:=aKK n (ns:=ns) (k:=k1) (by omega) L (dp:=1) (.inr rfl) (b:=.e (.c (.int 1))) (r:=[.sh true (.int dp),.sh false (.int w)]) (cF rfl);have d2:opD .FloorDiv (.cl (.int w)) (.cl (.int 2))=.ok (.cl (.int (w / 2))):=vB rfl;have p2:=aES (a:= "is") (b:= "less") (v:=⟨.lst [.str "is",.str "less"],true,false,[]⟩) rfl (aBx (w / 2));have I:(if w / 2 % 2=0 then ("is" : Str) else "less")=mW (decide (w / 2 % 2=0)):=by unfold mW;by_cases h:w / 2 % 2=0 <;> simp[h]
 rw[I] at p2;have ew:evl pg (call pg (n+4)) 0 (fr ns (k+1) bs dp (.sh false (.int w))) (.e (.idx (.lst (.cons (.c (.str "is")) (.cons (.c (.str "less")) .nil))) (.op .Mod (.op .FloorDiv (.v 3) (.c (.int 2))) (.c (.int 2)))))=.ok (.cl (.str (mW (decide (w / 2 % 2=0)))),fr ns (k+1) bs dp (.sh false (.int w))):=by refine cF ?_;simp only[dR,jX,aF,bD,iH,eI,eB,bV,fr,gS,gZ,aV,aC,d2,vH 2 (by decide),aKJ,p2]
 have ht:tst pg (call pg (n+4)) (fr ns (k+1) bs dp (.sh false (.int w))) (.orr (.cmp .Eq (.v 2) (.c (.int 0))) (.cmp .Lt (.v 3) (.c (.int 5))))=.ok true:=by rw[lI (x:=dp==0) (y:=decide (w<5)) rfl rfl];rcases hd with h|h;rw[h];rfl;rw[Ao h,C8]
 refine⟨.cmp (decide (w / 2 % 2=0)) s t,W,⟨s1,t1⟩,by show 1+s.sz+t.sz<=7;omega,by omega,?_⟩;refine dI (F:=f7) (b:=_) rfl rfl rfl (v:=.cl (.tup [Cn.d (.cmp (decide (w / 2 % 2=0)) s t),.err 0 (aO ns W)])) ?_;show exs pg (call pg (n+4)) (fr ns k bs dp .dead) _=_;refine(stp B).trans ((stp (Z':=fr ns (k+1) bs dp (.sh false (.int w))) ?_).trans (eW ?_));rw[aW,t0,G,aG];rfl;rw[aW,ht,aG];exact eW (jK (oJ ew s4 t4))
theorem qO(ns:List Int){bs:List (Str×Int)}(I:1<=bs.length):∀(d n k:Nat),d<=2->k+200*d<=600000 ->
 ∃(q:Cn) (B:Nat),q.wf bs.length true/\q.sz+1<=8*2 ^ d/\B+1<=k+22*2 ^ d/\call pg (n+d+5) 7 [.err 0 (aO ns k),.lst (aB bs),.int d]=.ok (.tup [q.d,.err 0 (aO ns B)],false,false)
 | 0,n,k,_,hk=>by obtain⟨q,B,L,h2,h3,M⟩:=sY n ns (k:=k) (by omega) I (dp:=0) (.inl rfl);exact⟨q,B,L,by omega,by omega,M⟩|d+1,n,k,hd2,hk=>by
  have hp:2 ^ (d+1)=2*2 ^ d:=by rw[JO,D3]
  have q2:2 ^ d<=2:=by
   have:d<=1:=by omega
   exact Nat.pow_le_pow_right (by decide) this
  have q3:1<=2 ^ d:=Nat.one_le_two_pow;by_cases U:nxt ns k 10<5;obtain⟨q,B,L,h2,h3,M⟩:=sY (n+(d+1)) ns (k:=k) (by omega) I (dp:=((d+1:Nat):Int)) (.inr U);exact⟨q,B,L,by omega,by omega,M⟩;have x0:=dX (n+d+3) (ns:=ns) (k:=k) (by omega) (m:=10) (by decide) (c:=aO ns k) (r:=[.sh true (.lst (aB bs)),.sh true (.int ((d+1:Nat):Int)),.dead]) (a:=.e (.c (.int 10))) (cF rfl);have rg:=cK ns k (m:=10) (by decide);have e1:ex pg (call pg (n+d+5)) (fr ns k bs ((d+1:Nat):Int) .dead) (.setL 3 0 [] (.call 4 (.cons (.e (.c (.int 10))) .nil)))=.next (fr ns (k+1) bs ((d+1:Nat):Int) (.sh false (.int (nxt ns k 10)))):=by rw[eL,bU,x0];rfl
  obtain⟨s,k1,s1,s2,s3,s4⟩:=qO ns I d n (k+1) (by omega) (by omega);obtain⟨t,k2,t1,t2,t3,t4⟩:=qO ns I d n k1 (by omega) (by omega);generalize nxt ns k 10=w at U e1 rg;have q0:(w==0)=false:=beq_eq_false_iff_ne.mpr (by omega);have t0:tst pg (call pg (n+d+5)) (fr ns (k+1) bs ((d+1:Nat):Int) (.sh false (.int w))) (.cmp .Eq (.v 3) (.c (.int 0)))=.ok (w==0):=rfl;have W:((((d+1:Nat):Int))==0)=false:=beq_eq_false_iff_ne.mpr (by omega);have ht:tst pg (call pg (n+d+5)) (fr ns (k+1) bs ((d+1:Nat):Int) (.sh false (.int w))) (.orr (.cmp .Eq (.v 2) (.c (.int 0))) (.cmp .Lt (.v 3) (.c (.int 5))))=.ok false:=by rw[lI (x:=(((d+1:Nat):Int))==0) (y:=decide (w<5)) rfl rfl,Av U,W];rfl
  have t7:tst pg (call pg (n+d+5)) (fr ns (k+1) bs ((d+1:Nat):Int) (.sh false (.int w))) (.cmp .Lt (.v 3) (.c (.int 7)))=.ok (decide (w<7)):=rfl;have ed:((d+1:Nat):Int)-1=(d:Int):=by omega
  have el:∀k,evl pg (call pg (n+d+5)) 0 (fr ns k bs ((d+1:Nat):Int) (.sh false (.int w))) (.e (.op .Sub (.v 2) (.c (.int 1))))=.ok (.cl (.int d),fr ns k bs ((d+1:Nat):Int) (.sh false (.int w))):=λk=>by refine cF ?_;rw[<-ed];rfl
  have G:∀{k B:Nat} {q:Cn},call pg (n+d+5) 7 [.err 0 (aO ns k),.lst (aB bs),.int d]=.ok (.tup [q.d,.err 0 (aO ns B)],false,false)->evl pg (call pg (n+d+5)) 0 (fr ns k bs ((d+1:Nat):Int) (.sh false (.int w))) (.call 7 (.cons (.e (.v 1)) (.cons (.e (.op .Sub (.v 2) (.c (.int 1)))) .nil)))=.ok (.cl q.d,fr ns B bs ((d+1:Nat):Int) (.sh false (.int w))):=λ{k B q} h=>qJ (vs:=[⟨.lst (aB bs),false,true,[]⟩,.cl (.int d)]) rfl (aER rfl (el k)) h;have step:∀{v:Vl},exs pg (call pg (n+d+5)) (fr ns (k+1) bs ((d+1:Nat):Int) (.sh false (.int w))) (drp 4 f7.body)=.ret v->call pg (n+(d+1)+5) 7 [.err 0 (aO ns k),.lst (aB bs),.int ((d+1:Nat):Int)]=.ok (v.d,v.fr,v.pa):=λ{v} h=>by refine dI (F:=f7) (b:=_) rfl rfl rfl (v:=v) ?_;show exs pg (call pg (n+d+5)) (fr ns k bs ((d+1:Nat):Int) .dead) _=_;refine(stp e1).trans ((stp (Z':=fr ns (k+1) bs ((d+1:Nat):Int) (.sh false (.int w))) ?_).trans ((stp (Z':=fr ns (k+1) bs ((d+1:Nat):Int) (.sh false (.int w))) ?_).trans h));rw[aW,t0,q0,aG];rfl;rw[aW,ht,aG];rfl
  by_cases h7:w<7;refine⟨.nt s,k1,s1,by show 1+s.sz+1<=_;omega,by omega,step (v:=.cl (.tup [Cn.d (.nt s),.err 0 (aO ns k1)])) (eW ?_)⟩;rw[aW,t7,Ao h7,aG];exact eW (jK (jB (cF (a:=.c (.str "not")) rfl) (G s4)));have p2:=aES (a:= "both") (b:= "either") (v:=⟨.lst [.str "both",.str "either"],true,false,[]⟩) rfl (aBx w);have q1:(if w % 2=0 then ("both" : Str) else "either")=fS (decide (w % 2=0)):=by unfold fS;by_cases h:w % 2=0 <;> simp[h]
  rw[q1] at p2;have ew:evl pg (call pg (n+d+5)) 0 (fr ns (k+1) bs ((d+1:Nat):Int) (.sh false (.int w))) (.e (.idx (.lst (.cons (.c (.str "both")) (.cons (.c (.str "either")) .nil))) (.op .Mod (.v 3) (.c (.int 2)))))=.ok (.cl (.str (fS (decide (w % 2=0)))),fr ns (k+1) bs ((d+1:Nat):Int) (.sh false (.int w))):=by refine cF ?_;simp only[dR,jX,aF,bD,iH,eI,eB,bV,fr,gS,gZ,aV,aC,vH 2 (by decide),aKJ,p2]
  refine⟨.two (decide (w % 2=0)) s t,k2,⟨s1,t1⟩,by show 1+s.sz+t.sz+1<=_;omega,by omega,step (v:=.cl (.tup [Cn.d (.two (decide (w % 2=0)) s t),.err 0 (aO ns k2)])) ((stp (Z':=fr ns (k+1) bs ((d+1:Nat):Int) (.sh false (.int w))) ?_).trans (eW ?_))⟩;rw[aW,t7,Av h7,aG];rfl;exact jK (oJ ew (G s4) (G t4))
structure Way where
 g:Cn
 ps:List (Nat×Sm)
 nx:Int
def dY(p:Nat×Sm):D:=.tup [.int p.1,p.2.d]
def Way.d(w:Way):D:=.tup [w.g.d,.tup (w.ps.map dY),.int w.nx]
def Up(ps:List (Nat×Sm)):Prop:=ps.Pairwise λp q=>p.1<q.1
structure nS (m:Nat) (p:Nat×Sm):Prop where
 box:p.1<m
 wf:p.2.wf m true
 sz:p.2.sz<=3
structure lJ (m:Nat) (w:Way):Prop where
 g:w.g.wf m true
 gs:w.g.sz<=31
 ps:∀p∈w.ps,nS m p
 up:Up w.ps
theorem aBy(p:Nat×Sm):noL (dY p)=true:=vC rfl p.2.noL
theorem cZ(ps:List (Nat×Sm)):noLs (ps.map dY)=true:=lG aBy ps
theorem aBz(w:Way):noL w.d=true:=by simp[Way.d,noL,noLs,w.g.noL,cZ]
theorem aBA(i:Nat){ds:List D}(h:noLs ds=true):biD .tuple [⟨.lst ds,false,false,[i]⟩]=.ok (.cl (.tup ds)):=by show R.ok (Vl.mk (.tup ds) false (false&&!noLs ds) (if noLs ds=true then [] else [i]))=_;rw[h];rfl
theorem aHe{P:Pg}{W:Caller}{Z Z1:Sg}{t:T}{e:EL}{b:Ss}{N:Nat}(I:Nat->Sg->Prop)(he:evl P W 0 Z e=.ok (.cl (.int (N:Int)),Z1))(hN:N<=1000000)(L:I 0 Z1)
 (hs:∀(i:Nat) (_:i<N) (Z:Sg),I i Z->∃Z1 Z',aT Z (.cl (.int (i:Int))) t=.ok Z1/\exs P W Z1 b=.next Z'/\I (i+1) Z'):∃Z',ex P W Z (.forL t e b)=.next Z'/\I N Z':=by
 show ∃Z',O.from Z (evl P W 0 Z e) _=.next Z'/\_;rw[he,aG];show ∃Z',(if aH (N:Int) then cA (λZ x=>O.from Z (aT Z x t) λZ'=>exs P W Z' b) ((bX 0 (N:Int)).map .cl) Z1 else .bad)=.next Z'/\_;rw[if_pos (gJ hN),qB];obtain⟨Z',M,U⟩:=pY (f:=λZ x=>O.from Z (aT Z x t) λZ'=>exs P W Z' b) ((A9 N).map λ(k:Nat)=>Vl.cl (.int (k:Int))) I Z1 L λi h Z hI=>by
  have hi:i<N:=by simpa using h
  obtain⟨Z2,Z',B,G,h'⟩:=hs i hi Z hI;refine⟨Z',?_,h'⟩;have:((A9 N).map λ(k:Nat)=>Vl.cl (.int (k:Int)))[i]=.cl (.int (i:Int)):=by simp
  rw[this];show O.from Z (aT Z _ t) _=_;rw[B];exact G
 refine⟨Z',M,?_⟩;simpa using U
theorem mul_str{a:Str}{k:Int}(I:0<=k)(L:k<=100)(B:a.length<=100):opD .Mult (.cl (.str a)) (.cl (.int k))=.ok (.cl (.str (Str.rep a k.toNat))):=by
 show R.iff (aH k&&decide (a.length*k.toNat<=lim)) _=_;have hs:aH k=true:=by unfold aH;rw[Ao (by omega),Ao (by omega)];rfl
 have G:a.length*k.toNat<=lim:=by have:a.length*k.toNat<=100*100:=Jq B (by omega);unfold lim;omega
 rw[hs,Ao G];rfl
theorem aEU(bs:List (Str×Int))(b:Str×Int):dB (bs++[b])=dB bs*(b.2+1):=by unfold dB;rw[Bd,CA];rfl
structure Bo (i:Nat) (bs:List (Str×Int)) (room:Int):Prop where
 few:bs.length<=i
 one:∀b∈bs,1<=b.2/\b.2<=7
 r1:1<=room
 pr:room*dB bs<=12
 first:bs=[]->room=12/\i=0
theorem Bo.next(B:Bo i bs room)(h:1<room)(U:1<=top)(h7:top<=7)(x:Str):Bo (i+1) (bs++[(x,if room-1<top then room-1 else top)]) (room / (1+(if room-1<top then room-1 else top))):=by
 have G:1<=(if room-1<top then room-1 else top)/\(if room-1<top then room-1 else top)<=7/\(if room-1<top then room-1 else top)<=room-1:=by split <;> omega
 revert G;generalize (if room-1<top then room-1 else top)=t;intro G;have hp:1<=dB bs:=lD _ 1 (by omega) λy M=>by obtain⟨b,I,rfl⟩:=A0.mp M;have:=B.one b I;omega
 refine⟨by rw[lA,B1];have:=B.few;omega,λb I=>?_,?_,?_,λz=>?_⟩;rcases AY.mp I with h|h;exact B.one b h;rw[Ap.mp h];exact⟨G.1,G.2.1⟩;have:1*(1+t)<=room:=by omega
 exact(Int.le_ediv_iff_mul_le (by omega)).mpr this;rw[aEU];have L:room / (1+t)*(1+t)<=room:=Int.ediv_mul_le _ (by omega);have W:room / (1+t)*(1+t)*dB bs<=room*dB bs:=Em L (by omega);have e:room / (1+t)*(dB bs*(t+1))=room / (1+t)*(1+t)*dB bs:=by rw[Int.mul_comm (dB bs),Int.add_comm t 1,Int.mul_assoc]
 rw[e];have:=B.pr;omega;have:=congrArg Ik z;simp at this
abbrev bf(ns:List Int)(k:Nat)(bs:List (Str×Int))(room:Int)(s4 s5 s6:Sl):Sg:=[.lent (aO ns k),.sh true (.int 12),.own false (aB bs),.sh false (.int room),s4,s5,s6]
abbrev aHf:Ss:=match hdS (drp 3 f5.body) with|.forL _ _ b=>b|_=>.nil
theorem aKL{i:Nat}(h:i<4):∃x:Str,x.length<=1/\bH (.cl (.str "kxmbz")) (.cl (.int (i:Int)))=.ok (.cl (.str x)):=by
 have:i=0\/i=1\/i=2\/i=3:=by omega
 rcases this with rfl|rfl|rfl|rfl;exact⟨⟨#[107]⟩,by decide,rfl⟩;exact⟨⟨#[120]⟩,by decide,rfl⟩;exact⟨⟨#[109]⟩,by decide,rfl⟩;exact⟨⟨#[98]⟩,by decide,rfl⟩
theorem aEV(n:Nat){ns:List Int}{k:Nat}(hk:k<=100000){bs:List (Str×Int)}{room:Int}{i:Nat}(hi:i<4)(B:Bo i bs room)(s5 s6:Sl) :
 ∃(I:List (Str×Int)) (G:Int) (k':Nat) (t5 t6:Sl),Bo (i+1) I G/\k'<=k+3/\exs pg (call pg (n+2)) (bf ns k bs room (.sh false (.int i)) s5 s6) aHf=.next (bf ns k' I G (.sh false (.int i)) t5 t6):=by
 have x1:=dX n (ns:=ns) (k:=k) (by omega) (m:=3) (by decide) (c:=aO ns k) (r:=[.sh true (.int 12),.own false (aB bs),.sh false (.int room),.sh false (.int i),s5,s6]) (a:=.e (.c (.int 3))) (cF rfl);have rg:=cK ns k (m:=3) (by decide);obtain⟨q,hq,q0,q1⟩:∃q:Int,bH (⟨.lst [.int 2,.int 3,.int 7],false,false,[]⟩:Vl) (.cl (.int (nxt ns k 3)))=.ok (.cl (.int q))/\0<q/\q<=7:=by
  generalize nxt ns k 3=w at rg;have:w=0\/w=1\/w=2:=by omega
  rcases this with rfl|rfl|rfl;exact⟨2,rfl,by decide,by decide⟩;exact⟨3,rfl,by decide,by decide⟩;exact⟨7,rfl,by decide,by decide⟩
 have xi:evl pg (call pg (n+2)) 0 (bf ns k bs room (.sh false (.int i)) s5 s6) (.idx (.e (.lst (.cons (.c (.int 2)) (.cons (.c (.int 3)) (.cons (.c (.int 7)) .nil))))) (.call 4 (.cons (.e (.c (.int 3))) .nil)))=.ok (.cl (.int q),bf ns (k+1) bs room (.sh false (.int i)) s5 s6):=by rw[vD];show(evl pg (call pg (n+2)) 0 (bf ns k bs room (.sh false (.int i)) s5 s6) (.call 4 (.cons (.e (.c (.int 3))) .nil)) >>= λy=>bH (⟨.lst [.int 2,.int 3,.int 7],false,false,[]⟩:Vl) y.1.nr >>= λz=>noAl z y.2)=_;rw[x1];show(bH (⟨.lst [.int 2,.int 3,.int 7],false,false,[]⟩:Vl) (.cl (.int (nxt ns k 3))) >>= λz=>noAl z _)=_;rw[hq];rfl
 have x2:=dX n (ns:=ns) (k:=k+1) (by omega) q0 (c:=aO ns k) (r:=[.sh true (.int 12),.own false (aB bs),.sh false (.int room),.sh false (.int i),s5,s6]) xi;have q3:=cK ns (k+1) q0;generalize nxt ns (k+1) q=v at x2 q3;obtain⟨x,hx,U⟩:=aKL hi;have e1:ex pg (call pg (n+2)) (bf ns k bs room (.sh false (.int i)) s5 s6) (hdS aHf)=.next (bf ns (k+2) bs room (.sh false (.int i)) (.sh false (.int (1+v))) s6):=by show O.from _ (evl pg (call pg (n+2)) 0 (bf ns k bs room (.sh false (.int i)) s5 s6) (.op .Add (.e (.c (.int 1))) _)) _=_;rw[yE (cF rfl) x2 (add_int 1 v),aG];rfl
 have e2:ex pg (call pg (n+2)) (bf ns (k+2) bs room (.sh false (.int i)) (.sh false (.int (1+v))) s6) (hdS (drp 1 aHf))=.next (bf ns (k+2) bs room (.sh false (.int i)) (.sh false (.int (1+v))) (.sh false (.str x))):=by show O.from _ (bH (.cl (.str "kxmbz")) (.cl (.int (i:Int)))) _=_;rw[U,aG];rfl
 have t3:tst pg (call pg (n+2)) (bf ns (k+2) bs room (.sh false (.int i)) (.sh false (.int (1+v))) (.sh false (.str x))) (.cmp .Gt (.v 3) (.c (.int 1)))=.ok (decide (1<room)):=rfl;by_cases hr:1<room;have x3:=dX n (ns:=ns) (k:=k+2) (by omega) (m:=8) (by decide) (c:=aO ns (k+2)) (r:=[.sh true (.int 12),.own false (aB bs),.sh false (.int room),.sh false (.int i),.sh false (.int (1+v)),.sh false (.str x)]) (a:=.e (.c (.int 8))) (cF rfl);have q4:=cK ns (k+2) (m:=8) (by decide);generalize nxt ns (k+2) 8=u at x3 q4;have L:∀k bs,ev pg (call pg (n+2)) (bf ns k bs room (.sh false (.int i)) (.sh false (.int (1+v))) (.sh false (.str x))) (.bi .min (.cons (.v 5) (.cons (.op .Sub (.v 3) (.c (.int 1))) .nil)))=.ok (.cl (.int (if room-1<1+v then room-1 else 1+v))):=λ_ _=>rfl;have M:=B.next hr (top:=1+v) (by omega) (by omega) (Str.rep x (1+u).toNat);have ht:1<=(if room-1<1+v then room-1 else 1+v)/\(if room-1<1+v then room-1 else 1+v)<=7:=by split <;> omega
 revert ht M L;generalize (if room-1<1+v then room-1 else 1+v)=w;intro L M ht;refine⟨bs++[(Str.rep x (1+u).toNat,w)],room / (1+w),k+3,.sh false (.int (1+v)),.sh false (.str x),M,by omega,?_⟩;refine(stp e1).trans ((stp e2).trans (stp ?_));rw[aW,t3,Ao hr,aG];have et:=jB (yE (cF (P:=pg) (W:=call pg (n+2)) (l:=0) (Z:=bf ns (k+2) bs room (.sh false (.int i)) (.sh false (.int (1+v))) (.sh false (.str x))) (a:=.v 6) (d:=.str x) rfl) (yE (cF (a:=.c (.int 1)) rfl) x3 (add_int 1 u)) (mul_str (by omega) (by omega) (by omega))) (cF (L (k+3) bs));have q2:(aB bs++[box (Str.rep x (1+u).toNat,w)]).length<=lim:=by rw[lA,B1,aB,lM];have:=B.few;unfold lim;omega
 have e3:ex pg (call pg (n+2)) (bf ns (k+2) bs room (.sh false (.int i)) (.sh false (.int (1+v))) (.sh false (.str x))) (.appL 2 0 (.tup (.cons (.op .Mult (.e (.v 6)) (.op .Add (.e (.c (.int 1))) (.call 4 (.cons (.e (.c (.int 8))) .nil)))) (.cons (.e (.bi .min (.cons (.v 5) (.cons (.op .Sub (.v 3) (.c (.int 1))) .nil)))) .nil))))=.next (bf ns (k+3) (bs++[(Str.rep x (1+u).toNat,w)]) room (.sh false (.int i)) (.sh false (.int (1+v))) (.sh false (.str x))):=by rw[aBs];show O.from _ (evl pg (call pg (n+2)) 0 (bf ns (k+2) bs room (.sh false (.int i)) (.sh false (.int (1+v))) (.sh false (.str x))) _) _=_;rw[et,aG];show(if (aB bs++[box (Str.rep x (1+u).toNat,w)]).length<=lim then O.next ((bf ns (k+3) bs room (.sh false (.int i)) (.sh false (.int (1+v))) (.sh false (.str x))).set 2 _) else O.bad)=_;rw[if_pos q2];simp[bf,aB];exact⟨rfl,rfl⟩
 have dv:opD .FloorDiv (.cl (.int room)) (.cl (.int (1+w)))=.ok (.cl (.int (room / (1+w)))):=vB (by
  unfold wH;rw[Ao (by omega),Ao (by omega)];rfl)
 refine(stp e3).trans (stp ?_);show O.from _ (ev pg (call pg (n+2)) (bf ns (k+3) (bs++[(Str.rep x (1+u).toNat,w)]) room (.sh false (.int i)) (.sh false (.int (1+v))) (.sh false (.str x))) (.op .FloorDiv (.v 3) (.op .Add (.c (.int 1)) _))) _=_;rw[iH,iH,L];show O.from _ (opD .FloorDiv (.cl (.int room)) (.cl (.int (1+w)))) _=_;rw[dv,aG];rfl;refine⟨bs,room,k+2,.sh false (.int (1+v)),.sh false (.str x),⟨by have:=B.few;omega,B.one,B.r1,B.pr,λz=>?_⟩,by omega,(stp e1).trans ((stp e2).trans (stp (Z':=bf ns (k+2) bs room (.sh false (.int i)) (.sh false (.int (1+v))) (.sh false (.str x))) ?_))⟩;have:=(B.first z).1;omega;rw[aW,t3,Av hr,aG];rfl
theorem aCH(n:Nat)(ns:List Int):∃(bs:List (Str×Int)) (k:Nat),aEL bs/\dB bs<=12/\1<=bs.length/\bs.length<=4/\k<=100/\call pg (n+3) 5 [.err 0 (aO ns 0),.int 12]=.ok (.tup [.lst (aB bs),.err 0 (aO ns k)],true,false):=by
 have x0:=dX n (ns:=ns) (k:=0) (by omega) (m:=4) (by decide) (c:=aO ns 0) (r:=[.sh true (.int 12),.own false [],.sh false (.int 12),.dead,.dead,.dead]) (a:=.e (.c (.int 4))) (cF rfl);have rg:=cK ns 0 (m:=4) (by decide);generalize nxt ns 0 4=w at x0 rg;have U:=yE (cF (P:=pg) (W:=call pg (n+2)) (l:=0) (Z:=bf ns 0 [] 12 .dead .dead .dead) (a:=.c (.int 1)) (d:=.int 1) rfl) x0 (add_int 1 w);have hN:(1+w:Int)=(((1+w).toNat:Nat):Int):=by omega
 rw[hN] at U;have L:1<=(1+w).toNat/\(1+w).toNat<=4:=by omega
 revert L U;generalize (1+w).toNat=N;intro U L;obtain⟨Z',ef,bs,room,k,s4,s5,s6,B,hk,G⟩:=aHe (t:=.n 4) (b:=aHf) (λi Z=>∃(bs:List (Str×Int)) (room:Int) (k:Nat) (s4 s5 s6:Sl),Bo i bs room/\k<=1+3*i/\Z=bf ns k bs room s4 s5 s6) U (by omega)
  ⟨[],12,1,_,_,_,⟨Ak _,λb h=>absurd h BI,by decide,by decide,λ_=>⟨rfl,rfl⟩⟩,Ak _,rfl⟩ λi hi Z ⟨bs,room,k,s4,s5,s6,B,hk,G⟩=>by obtain⟨q0,I,k',t5,t6,B',q1,eb⟩:=aEV n (ns:=ns) (k:=k) (by omega) (show i<4 by omega) B s5 s6;refine⟨bf ns k bs room (.sh false (.int i)) s5 s6,_,?_,eb,q0,I,k',_,t5,t6,B',by omega,rfl⟩;rw[G,eE];simp[bf]
 subst G;have hp:1<=dB bs:=lD _ 1 (by omega) λy hy=>by obtain⟨b,hb,rfl⟩:=A0.mp hy;have:=B.one b hb;omega
 have hl:1<=bs.length:=by
  cases bs with
  | nil=>have:=(B.first rfl).2;omega|cons _ _=>simp
 have M:dB bs<=12:=by have:=Em B.r1 (show 0<=dB bs by omega);have:=B.pr;omega
 refine⟨bs,k,⟨by have:=B.few;omega,B.one,HM M (by decide)⟩,M,hl,by have:=B.few;omega,by omega,?_⟩;refine dI (F:=f5) (b:=_) rfl rfl rfl (v:=⟨.tup [.lst (aB bs),.err 0 (aO ns k)],true,false,[]⟩) ?_;show exs pg (call pg (n+2)) [.lent (aO ns 0),.sh true (.int 12),.dead,.dead,.dead,.dead,.dead] _=_;refine(stp (Z':=[.lent (aO ns 0),.sh true (.int 12),.own false [],.dead,.dead,.dead,.dead]) rfl).trans ((stp (Z':=bf ns 0 [] 12 .dead .dead .dead) rfl).trans ((stp ef).trans (eW rfl)))
theorem aPF:∀p,(mW p == "less")=!p:=by decide +kernel
theorem aPG:(("not" : Str) == "is")=false:=by decide +kernel
theorem aPH:(("not" : Str) == "less")=false:=by decide +kernel
theorem aNL:∀p,(fS p == "is")=false:=by decide +kernel
theorem aNM:∀p,(fS p == "less")=false:=by decide +kernel
theorem fT{ah:List Int}(M:ah.length=c):∀(s:Sm) (n:Nat),s.wf c true->call pg (n+s.sz) 9 [s.d,aE ah]=.ok (.int (s.val ah ah),false,false)
 | .num k,n,w=>by refine aN (F:=f9) rfl rfl (v:=.cl (.int k)) ?_;have B:=bE 0 true (Sm.noL (.num k));simp only[Sm.d] at B ⊢;have G:=iM (.str "number") [.int k] rfl;have i1:=fI (.str "number") (.int k) [] rfl;simp[f9,bV,B,G,i1,aNz]|.box k,n,w=>by have w:k<c:=w;refine aN (F:=f9) rfl rfl (v:=.cl (.int (ah.getD k 0))) ?_;have B:=bE 0 true (Sm.noL (.box k));have I:=bE 1 true (aP ah);simp only[Sm.d] at B ⊢;have G:=iM (.str "box") [.int k] rfl;have i1:=fI (.str "box") (.int k) [] rfl;have i2:=vG (is:=ah) (k:=k) (by omega);simp[f9,bV,B,I,G,i1,i2,aNA,aNB,-AU]|.aft k,n,w=>by cases w.2|.two p a b,n,w=>by
  have L:=fT M a (n+b.sz) w.1;have U:=fT M b (n+a.sz) w.2;rw[show n+b.sz+a.sz=n+a.sz+b.sz by omega] at L;have e:n+Sm.sz (.two p a b)=n+a.sz+b.sz+1:=by show n+(1+a.sz+b.sz)=_;omega
  rw[e];refine aN (F:=f9) rfl rfl (v:=.cl (.int (Sm.val ah ah (.two p a b)))) ?_;have B:=bE 0 true (Sm.noL (.two p a b));have I:=bE 1 true (aP ah);simp only[Sm.d] at B ⊢;have G:=iM (.str (qL p)) [a.d,b.d] rfl;have i1:=fI (.str (qL p)) a.d [b.d] a.noL;have i2:=aAo (.str (qL p)) a.d b.d [] b.noL;cases p <;> simp[f9,bV,B,I,G,i1,i2,aNC,aND,aNE,L,U,Sm.val,-aFV,-tX]
theorem jC{ah:List Int}(M:ah.length=c):∀(s:Cn) (n:Nat),s.wf c true->call pg (n+s.sz) 10 [s.d,aE ah]=.ok (.bl (s.hold ah ah),false,false)
 | .yes,n,w=>by refine aN (F:=f10) rfl rfl (v:=.cl (.bl true)) ?_;have B:=bE 0 true (Cn.noL .yes);simp only[Cn.d] at B ⊢;have I:=iM (.str "yes") [] rfl;simp[f10,bV,B,I,aNF]|.cmp i a b,n,w=>by
  have G:=fT M a (n+b.sz) w.1;have U:=fT M b (n+a.sz) w.2;rw[show n+b.sz+a.sz=n+a.sz+b.sz by omega] at G;have e:n+Cn.sz (.cmp i a b)=n+a.sz+b.sz+1:=by show n+(1+a.sz+b.sz)=_;omega
  rw[e];refine aN (F:=f10) rfl rfl (v:=.cl (.bl (Cn.hold ah ah (.cmp i a b)))) ?_;have B:=bE 0 true (Cn.noL (.cmp i a b));have L:=bE 1 true (aP ah);simp only[Cn.d] at B ⊢;have I:=iM (.str (mW i)) [a.d,b.d] rfl;have i1:=fI (.str (mW i)) a.d [b.d] a.noL;have i2:=aAo (.str (mW i)) a.d b.d [] b.noL;cases i <;> simp[f10,bV,B,L,I,i1,i2,aNI,aNJ,aPF,G,U,Cn.hold]
 | .nt x,n,w=>by
  have G:=jC M x n w;have e:n+Cn.sz (.nt x)=n+x.sz+1:=by show n+(1+x.sz)=_;omega
  rw[e];refine aN (F:=f10) rfl rfl (v:=.cl (.bl (Cn.hold ah ah (.nt x)))) ?_;have B:=bE 0 true (Cn.noL (.nt x));have L:=bE 1 true (aP ah);simp only[Cn.d] at B ⊢;have I:=iM (.str "not") [x.d] rfl;have i1:=fI (.str "not") x.d [] x.noL;simp[f10,bV,B,L,I,i1,aNG,aPG,aPH,aNH,G,Cn.hold]
 | .two p a b,n,w=>by
  have G:=jC M a (n+b.sz) w.1;have U:=jC M b (n+a.sz) w.2;rw[show n+b.sz+a.sz=n+a.sz+b.sz by omega] at G;have e:n+Cn.sz (.two p a b)=n+a.sz+b.sz+1:=by show n+(1+a.sz+b.sz)=_;omega
  rw[e];refine aN (F:=f10) rfl rfl (v:=.cl (.bl (Cn.hold ah ah (.two p a b)))) ?_;have B:=bE 0 true (Cn.noL (.two p a b));have L:=bE 1 true (aP ah);simp only[Cn.d] at B ⊢;have I:=iM (.str (fS p)) [a.d,b.d] rfl;have i1:=fI (.str (fS p)) a.d [b.d] a.noL;have i2:=aAo (.str (fS p)) a.d b.d [] b.noL;cases p with
  | true=>simp[f10,bV,B,L,I,i1,i2,aKG,aKH,aNL,aNM,aHc,G,U,Cn.hold];cases a.hold ah ah <;> rfl|false=>simp[f10,bV,B,L,I,i1,i2,aKG,aKH,aNL,aNM,aHc,G,U,Cn.hold];cases a.hold ah ah <;> rfl
def mX(bs:List (Str×Int))(k:Nat):Int:=(bs.map (·.2)).getD k 0
noncomputable def putF(bs:List (Str×Int))(st:List Int):List Int->List (Nat×Sm)->Option (List Int)
 | acc,[]=>some acc|acc,p::ps=>if 0<=p.2.val st st/\p.2.val st st<=mX bs p.1 then putF bs st (acc.set p.1 (p.2.val st st)) ps else none
def gW(bs:List (Str×Int))(w:Way)(st:List Int):Option (List Int):=if w.g.hold st st then putF bs st st w.ps else none
def stD:Option (List Int)->D
 | none=>.non|some r=>aE r
theorem vI(o:Option (List Int)):noL (stD o)=true:=by cases o with|none=>rfl|some r=>exact aP r
theorem aKM(B:ev P W Z a=.ok (.cl (.int x)))(G:ev P W Z b=.ok (.cl (.int y))):tst P W Z (.cmp2 .LtE .LtE (.c (.int 0)) a b)=.ok (decide (0<=x)&&decide (x<=y)):=by
 rw[aEH,eB,aC,B,aC,cH,cH,aEN];cases decide (0<=x) with
 | true=>simp only[G,aC,cH,aEN,J9]|false=>rfl
theorem aHg{bs:List (Str×Int)}(h:k<bs.length):∃b:D,noL b=true/\bH ⟨.lst (aB bs),false,true,[]⟩ (.cl (.int (k:Int)))=.ok (.cl b)/\bH (.cl b) (.cl (.int 1))=.ok (.cl (.int (mX bs k))):=by
 refine⟨box bs[k],oG _,?_,?_⟩;have B:(aB bs).length=bs.length:=by simp[aB]
 have e:(aB bs)[k]? = some (box bs[k]):=by simp[aB,h]
 unfold bH;simp only[cH,B,fB h,e,Vl.sub,oG,if_true];have:=fI (.str bs[k].1) (.int bs[k].2) [] rfl;unfold box mX;rw[this];simp[h]
theorem aEW(n:Nat){bs:List (Str×Int)}{st:List Int}(hs:st.length=bs.length){s:Sm}(w:s.wf bs.length true)(z:s.sz<=3):call pg (n+3) 0 [s.d,aE st,.non]=.ok (.int (s.val st st),false,false):=by have:=iN (P:=pg) (f:=0) rfl (ah:=st) (be:=st) (bd:=.non) (c:=bs.length) (pl:=true) hs hs rfl (λh=>nomatch h) s (n+3-s.sz) w;rwa [show n+3-s.sz+s.sz=n+3 by omega] at this
theorem aEX(n:Nat){bs:List (Str×Int)}{st:List Int}(hs:st.length=bs.length){q:Cn}(w:q.wf bs.length true)(z:q.sz<=31):call pg (n+31) 1 [q.d,aE st,.non]=.ok (.bl (q.hold st st),false,false):=by have:=lH (P:=pg) (v:=0) (f:=1) rfl rfl (ah:=st) (be:=st) (bd:=.non) (c:=bs.length) (pl:=true) hs hs rfl (λh=>nomatch h) q (n+31-q.sz) w;rwa [show n+31-q.sz+q.sz=n+31 by omega] at this
abbrev aEY:Ss:=match hdS (drp 2 f2.body) with|.for _ _ b=>b|_=>.nil
theorem aHh{p:Nat×Sm}:aT [s0,s1,s2,s3,s4,s5,s6] (.cl (dY p)) (.t [4,5])=.ok [s0,s1,s2,s3,.sh false (.int p.1),.sh false p.2.d,s6]:=by unfold aT dY;simp only[cH,lC,lN,if_true,Ba,Fq,Bm,G2,eM p.2.noL,eM (show noL (.int (p.1:Int))=true from rfl),bS,lS,lZ]
theorem yF(acc:List Int)(k:Nat)(v:Int):(acc.map D.int).set k (.int v)=(acc.set k v).map D.int:=by rw[List.map_set]
theorem aEZ(n:Nat){bs:List (Str×Int)}{st acc:List Int}(hs:st.length=bs.length)(ha:acc.length=bs.length)(hb:bs.length<=5){p:Nat×Sm}(o:nS bs.length p)(s1 s4 s5 s6:Sl) :
 exs pg (call pg (n+3)) [.sh true (.lst (aB bs)),s1,.sh true (aE st),.own false (acc.map D.int),.sh false (.int p.1),.sh false p.2.d,s6] aEY =
  if 0<=p.2.val st st/\p.2.val st st<=mX bs p.1 then .next [.sh true (.lst (aB bs)),s1,.sh true (aE st),.own false ((acc.set p.1 (p.2.val st st)).map D.int),.sh false (.int p.1),.sh false p.2.d,.sh false (.int (p.2.val st st))] else .ret (.cl .non):=by
 have I:=aEW n hs o.wf o.sz;generalize p.2.val st st=v at I;obtain⟨b,b1,L,M⟩:=aHg (bs:=bs) (k:=p.1) o.box;have v2:=bE 2 true (aP st);have U:ex pg (call pg (n+3)) [.sh true (.lst (aB bs)),s1,.sh true (aE st),.own false (acc.map D.int),.sh false (.int p.1),.sh false p.2.d,s6] (hdS aEY)=.next [.sh true (.lst (aB bs)),s1,.sh true (aE st),.own false (acc.map D.int),.sh false (.int p.1),.sh false p.2.d,.sh false (.int v)]:=by simp only[aEY,hdS,drp,f2,eS,eJ,aF,bD,eI,eB,bV,gS,gZ,aV,v2,aC,mC,mN,cH,I,mT,aG,jJ,bU,eE,bS,lS,lZ]
 have tt:=aKM (P:=pg) (W:=call pg (n+3)) (Z:=[.sh true (.lst (aB bs)),s1,.sh true (aE st),.own false (acc.map D.int),.sh false (.int p.1),.sh false p.2.d,.sh false (.int v)]) (a:=.v 6) (b:=.idx (.idx (.v 0) (.v 4)) (.c (.int 1))) (x:=v) (y:=mX bs p.1) rfl (by
  simp only[dR,eI,eB,bV,gS,gZ,gK,iZ,aC,L,M])
 refine(stp U).trans ?_;show exs pg (call pg (n+3)) _ (.cons (.iff (.nt _) _ _) (.cons (.setIx 3 (.v 4) (.v 6)) .nil))=_;by_cases B:0<=v/\v<=mX bs p.1;have hd:(decide (0<=v)&&decide (v<=mX bs p.1))=true:=by rw[Ao B.1,Ao B.2];rfl
 rw[if_pos B];have hx:ixN acc.length (p.1:Int)=some p.1:=fB (by rw[ha];exact o.box);have G:acc.length<=lim:=by unfold lim;omega
 simp only[bI,eK,aW,mS,tt,aC,hd,CI,aG,bF,if_false,aAi,xZ,eI,bV,gS,gZ,iZ,cH,put,jJ,bU,fJ,hx,yF,lM,Ax,G,if_true,aHW,GK,lS,lZ];have hd:(decide (0<=v)&&decide (v<=mX bs p.1))=false:=by
  cases h:(decide (0<=v)&&decide (v<=mX bs p.1)) with
  | false=>rfl|true=>simp only[bA,AN] at h;exact absurd h B
 rw[if_neg B];simp only[bI,eK,aW,mS,tt,aC,hd,Fa,aG,if_true,iK,eB,nQ]
theorem yG(n:Nat){bs:List (Str×Int)}{st:List Int}(hs:st.length=bs.length)(G:bs.length<=5)(s1:Sl):∀(ps:List (Nat×Sm)) (acc:List Int) (s4 s5 s6:Sl),(∀p∈ps,nS bs.length p)->acc.length=bs.length ->
 ∃L M U,cA (λZ x=>O.from Z (aT Z x (.t [4,5])) λZ'=>exs pg (call pg (n+3)) Z' aEY) (ps.map λp=>Vl.cl (dY p)) [.sh true (.lst (aB bs)),s1,.sh true (aE st),.own false (acc.map D.int),s4,s5,s6] =
  (match putF bs st acc ps with|none=>.ret (.cl .non)|some r=>.next [.sh true (.lst (aB bs)),s1,.sh true (aE st),.own false (r.map D.int),L,M,U])
 | [],acc,s4,s5,s6,_,_=>⟨s4,s5,s6,rfl⟩
 | p::ps,acc,s4,s5,s6,h,ha=>by have o:=h p Ai;have W:=aEZ n hs ha G o s1 s4 s5 s6;rw[mC,cA,aHh,aG,W,putF];by_cases B:0<=p.2.val st st/\p.2.val st st<=mX bs p.1;rw[if_pos B,if_pos B];exact yG n hs G s1 ps (acc.set p.1 (p.2.val st st)) _ _ _ (λq I=>h q (Ag _ I)) (by rw[Ax];exact ha);rw[if_neg B,if_neg B];exact⟨s4,s5,s6,rfl⟩
theorem qP(ps:List (Nat×Sm)):items v (ps.map dY)=ps.map λp=>Vl.cl (dY p):=jA aBy ps
theorem aAp(n:Nat){bs:List (Str×Int)}{st:List Int}(hs:st.length=bs.length)(hb:bs.length<=5){w:Way}(o:lJ bs.length w):call pg (n+32) 2 [.lst (aB bs),w.d,aE st]=.ok (stD (gW bs w st),false,false):=by
 have ch:=aEX n hs o.g o.gs;have G:=bE 1 true (aBz w);have I:=bE 2 true (aP st);have M:bH (.cl w.d) (.cl (.int 0))=.ok (.cl w.g.d):=iM w.g.d _ w.g.noL;have i1:bH (.cl w.d) (.cl (.int 1))=.ok (.cl (.tup (w.ps.map dY))):=fI w.g.d (.tup (w.ps.map dY)) _ (by rw[noL];exact cZ _);refine aN (F:=f2) rfl rfl (v:=.cl (stD (gW bs w st))) ?_;show exs pg (call pg (n+31)) [.sh true (.lst (aB bs)),.sh true w.d,.sh true (aE st),.dead,.dead,.dead,.dead] _=_;unfold gW;cases L:w.g.hold st st with
 | false=>rw[L] at ch;simp only[f2,bI,eK,aW,mS,iI,aF,bD,dR,eI,eB,bV,gS,gZ,G,I,aC,M,mC,mN,cH,ch,mT,aAl,Fa,aG,if_true,iK,nQ,bF,if_false,stD]|true=>
  rw[L] at ch;obtain⟨t4,t5,t6,hl⟩:=yG (n+28) hs hb (.sh true w.d) w.ps st .dead .dead .dead o.ps hs;have U:ex pg (call pg (n+31)) [.sh true (.lst (aB bs)),.sh true w.d,.sh true (aE st),.dead,.dead,.dead,.dead] (hdS f2.body)=.next [.sh true (.lst (aB bs)),.sh true w.d,.sh true (aE st),.dead,.dead,.dead,.dead]:=by simp only[hdS,f2,eK,aW,mS,iI,aF,bD,dR,eI,eB,bV,gS,gZ,G,I,aC,M,mC,mN,cH,ch,mT,aAl,CI,aG,bF,if_false]
  have W:ex pg (call pg (n+31)) [.sh true (.lst (aB bs)),.sh true w.d,.sh true (aE st),.dead,.dead,.dead,.dead] (hdS (drp 1 f2.body))=.next [.sh true (.lst (aB bs)),.sh true w.d,.sh true (aE st),.own false (st.map D.int),.dead,.dead,.dead]:=by
   have B:biD .list [.cl (aE st)]=.ok ⟨.lst (st.map D.int),true,false,[]⟩:=by show R.ok (Vl.mk (.lst (st.map D.int)) true (false&&!noLs (st.map D.int)) (if noLs (st.map D.int)=true then [] else []))=_;rw[eT];rfl
   simp only[hdS,drp,f2,eS,jI,aF,bD,eI,bV,gS,gZ,I,aC,B,aG,bU,eE,aBn,lS,lZ]
  have hw:walk pg (call pg (n+31)) [.sh true (.lst (aB bs)),.sh true w.d,.sh true (aE st),.own false (st.map D.int),.dead,.dead,.dead] (.seq (.idx (.v 1) (.c (.int 1))))=.ok (w.ps.map (λp=>Vl.cl (dY p)),[]):=by simp only[iJ,dR,eI,eB,bV,gS,gZ,G,aC,i1,cH,qP,jJ]
  refine(stp U).trans ((stp W).trans ?_);show exs pg (call pg (n+31)) _ (.cons (.for (.t [4,5]) (.seq (.idx (.v 1) (.c (.int 1)))) aEY) _)=_;rw[bI,uW,hw,aG];show(cA _ _ _).on _=_;rw[bU,hl,if_pos rfl];cases putF bs st st w.ps with
  | none=>rfl|some r=>show exs pg (call pg (n+31)) [.sh true (.lst (aB bs)),.sh true w.d,.sh true (aE st),.own false (r.map D.int),t4,t5,t6] (.cons (.ret (.bi .tuple (.cons (.v 3) .nil))) .nil)=_;rw[bI,iK,jI,aF,eI];simp only[bV,gS,gZ,lF];simp only[bD,aC,aBA 3 (eT r),aG,nQ];rfl
def setF(st:List Int):List Int->List (Nat×Sm)->List Int
 | acc,[]=>acc|acc,p::ps=>setF st (acc.set p.1 (p.2.val st st)) ps
def okP(x:Int×(Str×Int)):Bool:=!(decide (x.1<0)||decide (x.2.2<x.1))
def sZ(bs:List (Str×Int))(w:Way)(st:List Int):Option (List Int):=
 if w.g.hold st st then (if ((setF st st w.ps).zip bs).all okP then some (setF st st w.ps) else none) else none
def InR(bs:List (Str×Int))(acc:List Int):Prop:=∀(j:Nat) (a:Int) (b:Str×Int),acc[j]? = some a->bs[j]? = some b->0<=a/\a<=b.2
theorem qQ:∀(ps:List (Nat×Sm)) (acc:List Int),(setF st acc ps).length=acc.length
 | [],_=>rfl|p::ps,acc=>by rw[setF,qQ ps,Ax]
theorem setF_get:∀(ps:List (Nat×Sm)) (acc:List Int),(∀q∈ps,q.1≠j)->(setF st acc ps)[j]? = acc[j]?
 | [],_,_=>rfl|p::ps,acc,h=>by rw[setF,setF_get ps _ λq B=>h q (Ag _ B),Ah (h p Ai)]
theorem aKN{acc:List Int}(h:InR bs acc):(acc.zip bs).all okP=true:=by rw[Bc];intro x G;obtain⟨j,B⟩:=List.getElem?_of_mem G;rw[BP] at B;have:=h j x.1 x.2 B.1 B.2;unfold okP;rw[Av (by omega),Av (by omega)];rfl
theorem aFa{bs:List (Str×Int)}:∀(ps:List (Nat×Sm)) (acc:List Int),acc.length=bs.length->InR bs acc->(∀p∈ps,p.1<bs.length)->Up ps ->
 putF bs st acc ps=if ((setF st acc ps).zip bs).all okP then some (setF st acc ps) else none
 | [],acc,_,h,_,_=>by rw[putF,setF,aKN h,if_pos rfl]|p::ps,acc,hl,h,hp,I=>by
  have I:=BU.mp I;have hb:p.1<bs.length:=hp p Ai;have U:bs[p.1]? = some bs[p.1]:=Af hb;have W:mX bs p.1=bs[p.1].2:=by unfold mX;simp[hb]
  rw[putF,setF];by_cases M:0<=p.2.val st st/\p.2.val st st<=mX bs p.1;rw[if_pos M];refine aFa ps _ (by rw[Ax];exact hl) (λj a b G B=>?_) (λq L=>hp q (Ag _ L)) I.2;by_cases hj:p.1=j;subst hj;rw[Ay (by omega)] at G;rw[U] at B;cases G;cases B;rw[<-W];exact M;rw[Ah hj] at G;exact h j a b G B;rw[if_neg M,if_neg];intro z;rw[Bc] at z;have hg:(setF st (acc.set p.1 (p.2.val st st)) ps)[p.1]? = some (p.2.val st st):=by rw[setF_get ps _ λq L=>by have:=I.1 q L;omega,Ay (by omega)]
  have hm:(p.2.val st st,bs[p.1])∈(setF st (acc.set p.1 (p.2.val st st)) ps).zip bs:=mG (i:=p.1) (BP.mpr ⟨hg,U⟩);have:=z _ hm;unfold okP at this;simp only[Dm,G3,F7] at this;rw[<-W] at this;omega
theorem aFb{bs:List (Str×Int)}{st:List Int}(hs:st.length=bs.length)(G:InR bs st)(o:lJ bs.length w):sZ bs w st=gW bs w st:=by unfold sZ gW;rw[aFa w.ps st hs G (λp B=>(o.ps p B).box) o.up]
theorem aCI(n:Nat){bs:List (Str×Int)}{st:List Int}(hs:st.length=bs.length){s:Sm}(w:s.wf bs.length true)(z:s.sz<=3):call pg (n+3) 9 [s.d,aE st]=.ok (.int (s.val st st),false,false):=by have:=fT (ah:=st) (c:=bs.length) hs s (n+3-s.sz) w;rwa [show n+3-s.sz+s.sz=n+3 by omega] at this
theorem aCJ(n:Nat){bs:List (Str×Int)}{st:List Int}(hs:st.length=bs.length){q:Cn}(w:q.wf bs.length true)(z:q.sz<=31):call pg (n+31) 10 [q.d,aE st]=.ok (.bl (q.hold st st),false,false):=by have:=jC (ah:=st) (c:=bs.length) hs q (n+31-q.sz) w;rwa [show n+31-q.sz+q.sz=n+31 by omega] at this
abbrev lf(bs:List (Str×Int))(s1:Sl)(st:List Int)(s3 s4 s5 s6 s7:Sl):Sg:=[.sh true (.lst (aB bs)),s1,.sh true (aE st),s3,s4,s5,s6,s7]
theorem aFc{p:Nat×Sm}:aT [s0,s1,s2,s3,s4,s5,s6,s7] (.cl (dY p)) (.t [4,5])=.ok [s0,s1,s2,s3,.sh false (.int p.1),.sh false p.2.d,s6,s7]:=by unfold aT dY;simp only[cH,lC,lN,if_true,Ba,Fq,Bm,G2,eM p.2.noL,eM (show noL (.int (p.1:Int))=true from rfl),bS,lS,lZ]
theorem aHi:aT [s0,s1,s2,s3,s4,s5,s6,s7] (.cl (.tup [.int i,box b])) (.t [6,7])=.ok [s0,s1,s2,s3,s4,s5,.sh false (.int i),.sh false (box b)]:=by unfold aT;simp only[cH,lC,lN,if_true,Ba,Fq,Bm,G2,eM (oG b),eM (show noL (.int i)=true from rfl),bS,lS,lZ]
abbrev lbB:Ss:=match hdS (drp 2 f11.body) with|.for _ _ b=>b|_=>.nil
abbrev lcB:Ss:=match hdS (drp 3 f11.body) with|.for _ _ b=>b|_=>.nil
theorem tB(n:Nat){bs:List (Str×Int)}{st:List Int}(hs:st.length=bs.length)(I:bs.length<=4)(s1 s6 s7:Sl):∀(ps:List (Nat×Sm)) (acc:List Int) (s4 s5:Sl),(∀p∈ps,nS bs.length p)->acc.length=bs.length ->
 ∃U W,cA (λZ x=>O.from Z (aT Z x (.t [4,5])) λZ'=>exs pg (call pg (n+3)) Z' lbB) (ps.map λp=>Vl.cl (dY p)) (lf bs s1 st (.own false (acc.map D.int)) s4 s5 s6 s7)=.next (lf bs s1 st (.own false ((setF st acc ps).map D.int)) U W s6 s7)
 | [],acc,s4,s5,_,_=>⟨s4,s5,rfl⟩
 | p::ps,acc,s4,s5,h,ha=>by
  have o:=h p Ai;have G:=aCI n hs o.wf o.sz;have v2:=bE 2 true (aP st);have M:ixN acc.length (p.1:Int)=some p.1:=fB (by rw[ha];exact o.box);have B:acc.length<=lim:=by unfold lim;omega
  have e:exs pg (call pg (n+3)) (lf bs s1 st (.own false (acc.map D.int)) (.sh false (.int p.1)) (.sh false p.2.d) s6 s7) lbB=.next (lf bs s1 st (.own false ((acc.set p.1 (p.2.val st st)).map D.int)) (.sh false (.int p.1)) (.sh false p.2.d) s6 s7):=by simp only[lbB,lf,hdS,drp,f11,bI,eK,xZ,eJ,aF,bD,eI,bV,gS,gZ,aV,v2,aC,mC,mN,cH,G,mT,aG,put,jJ,bU,fJ,lM,M,yF,Ax,B,if_true,aHW,GK,lS,lZ,aAi]
  rw[mC,cA,aFc,aG,e];exact tB n hs I s1 s6 s7 ps _ _ _ (λq L=>h q (Ag _ L)) (by rw[Ax];exact ha)
theorem tD(n:Nat)(s1 B s4 s5:Sl):∀(L:List (Int×(Str×Int))) (s6 s7:Sl),
 ∃G I,cA (λZ x=>O.from Z (aT Z x (.t [6,7])) λZ'=>exs pg (call pg n) Z' lcB) (L.map λx=>Vl.cl (.tup [.int x.1,box x.2])) (lf bs s1 st B s4 s5 s6 s7)=if L.all okP then .next (lf bs s1 st B s4 s5 G I) else .ret (.cl .non)
 | [],s6,s7=>⟨s6,s7,rfl⟩
 | x::L,s6,s7=>by
  have i1:bH (.cl (box x.2)) (.cl (.int 1))=.ok (.cl (.int x.2.2)):=fI (.str x.2.1) (.int x.2.2) [] rfl;have tt:tst pg (call pg n) (lf bs s1 st B s4 s5 (.sh false (.int x.1)) (.sh false (box x.2))) (.orr (.cmp .Lt (.v 6) (.c (.int 0))) (.cmp .Gt (.v 6) (.idx (.v 7) (.c (.int 1)))))=.ok (!okP x):=by
   rw[lI (x:=decide (x.1<0)) (y:=decide (x.2.2<x.1)) rfl (by
    simp only[fA,eI,dR,eB,bV,lf,gS,gZ,aV,aC,i1,cH,aAm])]
   unfold okP;rw[Bool.not_not]
  rw[mC,cA,aHi,aG,DF];have e:exs pg (call pg n) (lf bs s1 st B s4 s5 (.sh false (.int x.1)) (.sh false (box x.2))) lcB=if okP x then .next (lf bs s1 st B s4 s5 (.sh false (.int x.1)) (.sh false (box x.2))) else .ret (.cl .non):=by show exs pg (call pg n) (lf bs s1 st B s4 s5 (.sh false (.int x.1)) (.sh false (box x.2))) (.cons (.iff _ _ _) .nil)=_;rw[bI,aW,tt,aG];cases okP x <;> rfl
  rw[e];cases okP x with
  | false=>exact⟨s6,s7,rfl⟩|true=>exact tD n s1 B s4 s5 L _ _
theorem qR:∀(r:List Int) (bs:List (Str×Int)),jD (r.map D.int) (aB bs)=(r.zip bs).map λx=>.tup [.int x.1,box x.2]
 | [],_=>by cases ‹List (Str×Int)› <;> rfl|_::_,[]=>rfl|i::r,b::bs=>by have:=qR r bs;unfold aB at this ⊢;rw[mC,mC,jD,this,Ba,mC]
theorem yH(n:Nat){bs:List (Str×Int)}{st:List Int}(hs:st.length=bs.length)(hb:bs.length<=4){w:Way}(o:lJ bs.length w):call pg (n+32) 11 [.lst (aB bs),w.d,aE st]=.ok (stD (sZ bs w st),false,false):=by
 have ch:=aCJ n hs o.g o.gs;have v1:=bE 1 true (aBz w);have v2:=bE 2 true (aP st);have i0:bH (.cl w.d) (.cl (.int 0))=.ok (.cl w.g.d):=iM w.g.d _ w.g.noL;have i1:bH (.cl w.d) (.cl (.int 1))=.ok (.cl (.tup (w.ps.map dY))):=fI w.g.d (.tup (w.ps.map dY)) _ (by rw[noL];exact cZ _);refine aN (F:=f11) rfl rfl (v:=.cl (stD (sZ bs w st))) ?_;show exs pg (call pg (n+31)) (lf bs (.sh true w.d) st .dead .dead .dead .dead .dead) _=_;unfold sZ;have I:tst pg (call pg (n+31)) (lf bs (.sh true w.d) st .dead .dead .dead .dead .dead) (.nt (.call 10 (.cons (.idx (.v 1) (.c (.int 0))) (.cons (.v 2) .nil))))=.ok (!w.g.hold st st):=by simp only[mS,iI,aF,bD,dR,eI,eB,bV,lf,gS,gZ,v1,v2,aC,i0,mC,mN,cH,ch,mT,aAl]
 cases W:w.g.hold st st with
 | false=>rw[W] at I;refine eW ?_;rw[aW,I,aG];rfl|true=>
  rw[W] at I;have M:biD .list [.cl (aE st)]=.ok ⟨.lst (st.map D.int),true,false,[]⟩:=by show R.ok (Vl.mk (.lst (st.map D.int)) true (false&&!noLs (st.map D.int)) (if noLs (st.map D.int)=true then [] else []))=_;rw[eT];rfl
  have e2:ex pg (call pg (n+31)) (lf bs (.sh true w.d) st .dead .dead .dead .dead .dead) (.set (.n 3) (.bi .list (.cons (.v 2) .nil)))=.next (lf bs (.sh true w.d) st (.own false (st.map D.int)) .dead .dead .dead .dead):=by simp only[eS,jI,aF,bD,eI,bV,lf,gS,gZ,v2,aC,M,aG,bU,eE,aBn,lS,lZ]
  obtain⟨B,G,h3⟩:=tB (n+28) hs hb (.sh true w.d) .dead .dead w.ps st .dead .dead o.ps hs;have hw:walk pg (call pg (n+31)) (lf bs (.sh true w.d) st (.own false (st.map D.int)) .dead .dead .dead .dead) (.seq (.idx (.v 1) (.c (.int 1))))=.ok (w.ps.map (λp=>Vl.cl (dY p)),[]):=by simp only[iJ,dR,eI,eB,bV,lf,gS,gZ,v1,aC,i1,cH,qP,jJ]
  have L:ex pg (call pg (n+31)) (lf bs (.sh true w.d) st (.own false (st.map D.int)) .dead .dead .dead .dead) (.for (.t [4,5]) (.seq (.idx (.v 1) (.c (.int 1)))) lbB)=.next (lf bs (.sh true w.d) st (.own false ((setF st st w.ps).map D.int)) B G .dead .dead):=by rw[uW,hw,aG];exact h3
  have hr:(setF st st w.ps).length=bs.length:=by rw[qQ,hs]
  revert hr L;generalize setF st st w.ps=r;intro L hr;have U:walk pg (call pg (n+31)) (lf bs (.sh true w.d) st (.own false (r.map D.int)) B G .dead .dead) (.zip (.v 3) (.v 0))=.ok ((r.zip bs).map (λx=>Vl.cl (.tup [.int x.1,box x.2])),[3]):=by simp only[aEJ,eI,bV,lf,gS,gZ,lF,gK,aC,jN,qR,AH];rw[jA (g:=λx:Int×(Str×Int)=>D.tup [.int x.1,box x.2]) (λx=>vC rfl (oG _))]
  obtain⟨t6,t7,h4⟩:=tD (n+31) (bs:=bs) (st:=st) (.sh true w.d) (.sh false (.lst (r.map D.int))) B G (r.zip bs) .dead .dead;refine(stp (Z':=lf bs (.sh true w.d) st .dead .dead .dead .dead .dead) (by rw[aW,I,aG];rfl)).trans ((stp e2).trans ((stp L).trans ?_));show exs pg (call pg (n+31)) _ (.cons (.for (.t [6,7]) (.zip (.v 3) (.v 0)) lcB) _)=_;rw[bI,uW,U,aG];show(cA _ _ (lf bs (.sh true w.d) st (.sh false (.lst (r.map D.int))) B G .dead .dead)).on _=_;rw[h4];cases(r.zip bs).all okP with
  | false=>rfl|true=>
   have ht:biD .tuple [.cl (.lst (r.map D.int))]=.ok (.cl (aE r)):=by show R.ok (Vl.mk (.tup (r.map D.int)) false (false&&!noLs (r.map D.int)) (if noLs (r.map D.int)=true then [] else []))=_;rw[eT];rfl
   show exs pg (call pg (n+31)) (lf bs (.sh true w.d) st (.sh false (.lst (r.map D.int))) B G t6 t7) (.cons (.ret (.bi .tuple (.cons (.v 3) .nil))) .nil)=.ret (.cl (aE r));refine eW ?_;rw[iK,jI,aF];show O.from _ (biD .tuple [.cl (.lst (r.map D.int))]) _=_;rw[ht];rfl
theorem aBB(n:Nat):∀r:List Int,eF (n+1) (r.map D.int) (r.map D.int)=some true
 | []=>rfl|i::r=>by rw[mC,eF,aGZ,aBB n r];simp
theorem aFd(n:Nat)(i:Int):call pg (n+1) 13 [.int i]=.ok (.bl true,false,false):=rfl
theorem aFe{bs:List (Str×Int)}{st:List Int}{b:Str×Int}{h:Nat}(M:st.length=bs.length)(H:InR bs st)(U:h<(b.2+1).toNat):InR (bs++[b]) (st++[(h:Int)]):=by
 intro j x c G B;by_cases L:j<bs.length;rw[A4 (by omega)] at G;rw[A4 L] at B;exact H j x c G B;rw[Az (by omega)] at G;rw[Az (by omega)] at B;have I:j-bs.length=0:=by have:=(Au.mp B).1;simp at this;omega
 rw[M,I] at G;rw[I] at B;cases G;cases B;omega
theorem yI{bs:List (Str×Int)}:∀i,i<=bs.length->∀st∈standsL (bs.take i),st.length=i/\InR (bs.take i) st
 | 0,_,st,h=>by
  have:st=[]:=by simpa[standsL] using h
  subst this;exact⟨rfl,λj a b I _=>by simp at I⟩
 | i+1,hi,st,h=>by rw[dH hi] at h;obtain⟨b,L,B⟩:=El.mp h;obtain⟨m,M,rfl⟩:=A0.mp B;obtain⟨G,U⟩:=yI i (by omega) b L;refine⟨by simp[G],?_⟩;rw[Bp hi];exact aFe (by rw[G,Bl];omega) U (by simpa using M)
theorem aFf{bs:List (Str×Int)}{st:List Int}(h:st∈standsL bs):st.length=bs.length/\InR bs st:=by have:=yI (bs:=bs) bs.length (Ak _) st (by rw[AF];exact h);rwa [AF] at this
section
variable {P:Pg} {W:Caller} {Z:Sg}
theorem zV(h:tst P W Z a=.ok k):tst P W Z (.nt a)=.ok (!k):=by rw[mS,h];rfl
theorem aHj{x y:Vl}(B:ev P W Z a=.ok x)(G:ev P W Z b=.ok y)(I:W f [x.d,y.d]=.ok (d,false,false)):ev P W Z (.call f (.cons a (.cons b .nil)))=.ok (.cl d):=by
 have e:evs P W Z (.cons a (.cons b .nil))=.ok [x,y]:=by rw[aF,B,aC,aF,G,aC,bD];rfl
 rw[eJ,e,aC,show [x,y].map (·.d)=[x.d,y.d] from rfl,I];rfl
theorem aKO(B:ev P W Z a=.ok (.cl x))(G:ev P W Z b=.ok (.cl y)):ev P W Z (.tup (.cons a (.cons b .nil)))=.ok (.cl (.tup [x,y])):=by rw[aEG,aF,B,aC,aF,G];rfl
theorem aFg(B:ev P W Z a=.ok (.cl x))(G:ev P W Z b=.ok (.cl y))(I:ev P W Z c=.ok (.cl z)):ev P W Z (.tup (.cons a (.cons b (.cons c .nil))))=.ok (.cl (.tup [x,y,z])):=by rw[aEG,aF,B,aC,aF,G,aC,aF,I];rfl
end
section
variable {P:Pg} {W:Caller} {Z Z':Sg}
theorem aNN{v:Vl}{ds:List D}(h:ev P W Z e=.ok v)(hi:(freeze Z v.al)[i]? = some (.own pa ds))(B:ds.length<lim):ex P W Z (.app i e)=.next ((freeze Z v.al).set i (.own (pa||v.pa) (ds++[v.d]))):=by
 have G:(ds++[v.d]).length<=lim:=by rw[lA];exact B
 rw[aKC,h,aG];unfold put fJ;rw[hi];show(if (ds++[v.d]).length<=lim then O.next _ else .bad)=_;rw[if_pos G]
theorem aKP{v:Vl}{ds ds':List D}(h:ev P W Z e=.ok v)(hi:(freeze Z v.al)[i]? = some (.own false ds))(G:ds.length<lim)(I:v.pa=false)(B:ds'=ds++[v.d]):ex P W Z (.app i e)=.next ((freeze Z v.al).set i (.own false ds')):=by rw[aNN h hi G,I,B];rfl
theorem vJ(h:ev P W Z e=.ok ⟨.lst ds,true,false,[]⟩):ex P W Z (.set (.n i) e)=.next (Z.set i (.own false ds)):=by rw[eS,h];rfl
theorem aHk(h:tst P W Z c=.ok true)(r:exs P W Z a=.next Z'):ex P W Z (.iff c a b)=.next Z':=by rw[aW,h,aG,if_pos rfl,r]
theorem aPI(B:tst P W Z a=.ok x)(G:tst P W Z b=.ok y):tst P W Z (.an a b)=.ok (x&&y):=by rw[aKB,B,aC];cases x;rfl;exact G
theorem kQ{x y:Vl}(h:ev P W Z a=.ok x)(g:ev P W Z b=.ok y)(e:bY o x.d y.d=some k):tst P W Z (.cmp o a b)=.ok k:=by rw[fA,h,aC,g,aC,e]
end
theorem fC{P:Pg}{W:Caller}{Z:Sg}{f:Nat}{a:E}{x:Vl}{d:D}{fr:Bool}(B:ev P W Z a=.ok x)(G:W f [x.d]=.ok (d,fr,false)):ev P W Z (.call f (.cons a .nil))=.ok ⟨d,fr,false,[]⟩:=by
 have e:evs P W Z (.cons a .nil)=.ok [x]:=by rw[aF,B];rfl
 rw[eJ,e,aC,show [x].map (·.d)=[x.d] from rfl,G];rfl
section
variable {P:Pg} {W:Caller} {Z Z':Sg}
theorem aHZ(h:tst P W Z a=.ok false)(g:tst P W Z b=.ok k):tst P W Z (.orr a b)=.ok k:=by rw[aBm,h,aC,if_neg bN,g]
end
theorem aNO[Decidable p][Decidable q](h:¬ (p/\q)):(decide p&&decide q)=false:=by
 cases z:(decide p&&decide q) with
 | false=>rfl|true=>simp only[bA,AN] at z;exact absurd z h
theorem yJ{α:Type}{P:α->Prop}{l:List α}{x:α}(h:∀y∈l,P y)(B:P x):∀y∈l++[x],P y:=λy G=>by rcases AY.mp G with z|z;exact h y z;rw[Ap.mp z];exact B
section
variable {P:Pg} {W:Caller} {Z:Sg}
theorem aPJ(h:ev P W Z e=.ok v):ex P W Z (.ex e)=.next Z:=by show O.from Z (ev P W Z e) _=_;rw[h];rfl
theorem aIa{a:E}{cs:List Cl}{v:Vl}{k:Bool}(h:ev P W Z a=.ok v)(e:isI cs P v.d=some k):tst P W Z (.isi a cs)=.ok k:=by show(ev P W Z a >>= λx=>(match isI cs P x.d with|some k=>R.ok k|none=>.bad))=_;rw[h,aC,e]
theorem aNP(h:eqD x x=some true):bY .NotEq x x=some false:=by rw[aKD,h];rfl
theorem aHl{x:Vl}(B:ev P W Z a=.ok x)(G:W f [x.d]=.ok (.bl k,false,false)):tst P W Z (.call f (.cons a .nil))=.ok k:=by
 have e:evs P W Z (.cons a .nil)=.ok [x]:=by rw[aF,B];rfl
 rw[iI,e,aC,show [x].map (·.d)=[x.d] from rfl,G];rfl
end
abbrev uf(ns:List Int)(k:Nat)(bs:List (Str×Int))(ps:List (Nat×Sm))(s:Sl):Sg:=[.lent (aO ns k),.sh true (.lst (aB bs)),.own false (ps.map dY),s]
abbrev aNQ:Ss:=match hdS (drp 2 f14.body) with|.for _ _ b=>b|_=>.nil
theorem aCK(n:Nat)(hk:k<=500000){bs:List (Str×Int)}(hm:1<=bs.length)(q0:bs.length<=4){ps:List (Nat×Sm)}(hi:i<bs.length)(I:∀p∈ps,nS bs.length p/\p.1<i)(U:Up ps)(hl:ps.length<=i) :
 ∃(B:List (Nat×Sm)) (G:Nat),(∀p∈B,nS bs.length p/\p.1<i+1)/\Up B/\B.length<=i+1/\G<=k+11 /\
  exs pg (call pg (n+4)) (uf ns k bs ps (.sh false (.int i))) aNQ=.next (uf ns G bs B (.sh false (.int i))):=by
 have M:=dX (n+2) (ns:=ns) (k:=k) (by omega) (m:=5) (by decide) (c:=aO ns k) (r:=[.sh true (.lst (aB bs)),.own false (ps.map dY),.sh false (.int i)]) (a:=.e (.c (.int 5))) (cF rfl);generalize nxt ns k 5=w at M;by_cases hw:w<3;obtain⟨s,G,s1,s2,s3,s4⟩:=aKK n (ns:=ns) (k:=k+1) (by omega) hm (dp:=1) (.inr rfl) (b:=.e (.c (.int 1))) (r:=[.own false (ps.map dY),.sh false (.int i)]) (cF rfl);refine⟨ps++[(i,s)],G,λp h=>?_,?_,by rw[lA,B1];omega,by omega,?_⟩;rcases AY.mp h with h|h;exact⟨(I p h).1,by have:=(I p h).2;omega⟩;rw[Ap.mp h];exact⟨⟨hi,s1,s2⟩,Bz i⟩;unfold Up;rw[Gn];refine⟨U,Cf _ _,λp h q h'=>?_⟩;rw[Ap.mp h'];exact(I p h).2;have et:=jB (cF (P:=pg) (W:=call pg (n+4)) (l:=0) (Z:=uf ns (k+1) bs ps (.sh false (.int i))) (a:=.v 3) (d:=.int i) rfl) s4;have L:(ps.map dY++[dY (i,s)]).length<=lim:=by rw[lA,lM,B1];unfold lim;omega
 refine(stp (Z':=uf ns G bs (ps++[(i,s)]) (.sh false (.int i))) ?_);rw[aBt,M,aG];show O.from _ (R.ok (Vl.cl (.int 3))) (λz=>match bY .Lt (.int w) z.d with|some k=>if k then exs pg (call pg (n+4)) _ _ else exs pg (call pg (n+4)) _ _|none=>.bad)=_;rw[aG,cH,qD,Ao hw];refine stp ?_;rw[aBs];show O.from _ (evl pg (call pg (n+4)) 0 (uf ns (k+1) bs ps (.sh false (.int i))) _) _=_;rw[et,aG];show(if (ps.map dY++[dY (i,s)]).length<=lim then O.next ((uf ns G bs ps (.sh false (.int i))).set 2 _) else O.bad)=_;rw[if_pos L];simp[uf];exact⟨rfl,rfl⟩;refine⟨ps,k+1,λp h=>⟨(I p h).1,by have:=(I p h).2;omega⟩,U,by omega,by omega,?_⟩;refine(stp (Z':=uf ns (k+1) bs ps (.sh false (.int i))) ?_);rw[aBt,M,aG];show O.from _ (R.ok (Vl.cl (.int 3))) (λz=>match bY .Lt (.int w) z.d with|some k=>if k then exs pg (call pg (n+4)) _ _ else exs pg (call pg (n+4)) _ _|none=>.bad)=_;rw[aG,cH,qD,Av hw];rfl
structure vK (m:Nat) (ps:List (Nat×Sm)):Prop where
 all:∀p∈ps,nS m p
 up:Up ps
abbrev dN(ps:List (Nat×Sm)):D:=.tup (ps.map dY)
theorem qS(ps:List (Nat×Sm)):noL (dN ps)=true:=cZ ps
theorem tE(n:Nat)(ns:List Int)(hk:k<=400000){bs:List (Str×Int)}(hm:1<=bs.length)(q0:bs.length<=4) :
 ∃(ps:List (Nat×Sm)) (I:Nat),vK bs.length ps/\I<=k+44/\call pg (n+8) 14 [.err 0 (aO ns k),.lst (aB bs)]=.ok (.tup [dN ps,.err 0 (aO ns I)],false,false):=by
 have q1:walk pg (call pg (n+7)) (uf ns k bs [] .dead) (.rng (.c (.int 0)) (.bi .len (.cons (.v 1) .nil)))=.ok ((A9 bs.length).map λ(j:Nat)=>Vl.cl (.int (j:Int)),[]):=by have hs:=gJ (n:=bs.length) (by omega);have hb:(aB bs).length=bs.length:=lM _;simp only[pX,eB,jI,aF,bD,eI,bV,gS,gZ,gK,aC,oH,hb,cH,uX,hs,DG,xY,qB]
 obtain⟨Z',ef,ps,B,s6,L,M,h3,h4,G⟩:=eC (P:=pg) (W:=call pg (n+7)) (Z:=uf ns k bs [] .dead) (t:=.n 3) (b:=aNQ) (λi Z=>∃(ps:List (Nat×Sm)) (B:Nat) (s:Sl),(∀p∈ps,nS bs.length p/\p.1<i)/\Up ps/\ps.length<=i/\B<=k+11*i/\Z=uf ns B bs ps s) q1
  ⟨[],k,.dead,λp h=>absurd h BI,BM,Ak _,Ak _,rfl⟩ λi hi Z ⟨ps,B,s,L,M,h3,h4,G⟩=>by
   have U:i<bs.length:=by simpa using hi
   obtain⟨q2,I,b1,b2,b3,b4,b5⟩:=aCK (n+3) (ns:=ns) (k:=B) (by omega) hm q0 U L M h3;refine⟨uf ns B bs ps (.sh false (.int i)),_,?_,b5,q2,I,_,b1,b2,b3,by omega,rfl⟩;rw[G,eE];simp[uf]
 subst G;have q3:(List.map (λ(j:Nat)=>Vl.cl (.int (j:Int))) (A9 bs.length)).length=bs.length:=by simp
 refine⟨ps,B,⟨λp h=>(L p h).1,M⟩,by omega,?_⟩;refine dI (F:=f14) (b:=_) rfl rfl rfl (v:=.cl (.tup [dN ps,.err 0 (aO ns B)])) ?_;show exs pg (call pg (n+7)) [.lent (aO ns k),.sh true (.lst (aB bs)),.dead,.dead] _=_;refine(stp (Z':=uf ns k bs [] .dead) rfl).trans ((stp ef).trans (eW (jK (cF ?_))));rw[jI,aF,eI];show(Sl.val 2 (.own false (ps.map dY)) >>= λx=>evs _ _ _ .nil >>= λxs=>R.ok (x::xs)) >>= _=_;rw[lF,aC,bD,aC,aC,aBA 2 (cZ ps)]
inductive Dd where
 | put (ps:List (Nat×Sm))
 | wait (g:Cn) (ps:List (Nat×Sm))
 | cho (q:List (List Dd))
 | lp (k:Nat) (p:List Dd)
mutual
noncomputable def Dd.d:Dd->D
 | .put ps=>.tup [.str "put",dN ps]|.wait g ps=>.tup [.str "wait",g.d,dN ps]|.cho q=>.tup [.str "choose",.lst (qsD q)]|.lp k p=>.tup [.str "loop",.int k,.lst (psD p)]
noncomputable def psD:List Dd->List D
 | []=>[]
 | d::p=>d.d::psD p
noncomputable def qsD:List (List Dd)->List D
 | []=>[]
 | p::q=>.lst (psD p)::qsD q
end
theorem aAq:∀p:List Dd,psD p=p.map Dd.d
 | []=>rfl|d::p=>by rw[psD,aAq p];rfl
abbrev prD(p:List Dd):D:=.lst (p.map Dd.d)
theorem aFh:∀q:List (List Dd),qsD q=q.map prD
 | []=>rfl|p::q=>by rw[qsD,aFh q,aAq];rfl
theorem qT(q:List (List Dd)):(Dd.cho q).d=.tup [.str "choose",.lst (q.map prD)]:=by rw[Dd.d,aFh]
theorem aCL(k:Nat)(p:List Dd):(Dd.lp k p).d=.tup [.str "loop",.int k,prD p]:=by rw[Dd.d,aAq]
theorem lK(ps:List (Nat×Sm)):(Dd.put ps).d=.tup [.str "put",dN ps]:=by rw[Dd.d]
theorem gM(g:Cn)(ps:List (Nat×Sm)):(Dd.wait g ps).d=.tup [.str "wait",g.d,dN ps]:=by rw[Dd.d]
noncomputable def Ok(m:Nat):Nat->Dd->Prop
 | _,.put ps=>vK m ps|_,.wait g ps=>g.wf m true/\g.sz<=31/\vK m ps|n+1,.cho q=>2<=q.length/\q.length<=4/\∀p∈q,p.length<=4/\∀d∈p,Ok m n d|n+1,.lp k p=>k<=8/\p.length<=4/\∀d∈p,Ok m n d|0,.cho _=>False|0,.lp _ _=>False
theorem aKQ{m l:Nat}{ps:List (Nat×Sm)}(h:vK m ps):Ok m l (.put ps):=by cases l <;> exact h
theorem aHm{m l:Nat}{g:Cn}{ps:List (Nat×Sm)}(B:g.wf m true)(G:g.sz<=31)(h:vK m ps):Ok m l (.wait g ps):=by cases l <;> exact⟨B,G,h⟩
def OkP(m n:Nat)(p:List Dd):Prop:=p.length<=4/\∀d∈p,Ok m n d
mutual
noncomputable def cnt:Dd->Nat
 | .put _=>1|.wait _ _=>1|.cho q=>1+cntQ q|.lp k p=>k*cntP p
noncomputable def cntP:List Dd->Nat
 | []=>0|d::p=>cnt d+cntP p
noncomputable def cntQ:List (List Dd)->Nat
 | []=>0|p::q=>cntP p+cntQ q
end
theorem lL:∀p:List Dd,cntP p=(p.map cnt).sum
 | []=>rfl|d::p=>by rw[cntP,lL p,mC,F1]
theorem vL:∀q:List (List Dd),cntQ q=(q.map cntP).sum
 | []=>rfl|p::q=>by rw[cntQ,vL q,mC,F1]
theorem aFi(p q:List Dd):cntP (p++q)=cntP p+cntP q:=by rw[lL,lL,lL,Bd,IG]
def cD:Nat->Nat
 | 0=>200|l+1=>7+16*cD l
abbrev eD(l:Nat):Int:=((3-l:Nat):Int)
theorem aHn:decide (eD l<3)=decide (1<=l):=by by_cases h:1<=l;rw[Ao h,Ao (by unfold eD;omega)];rw[Av h,Av (by unfold eD;omega)]
abbrev lfd(ns:List Int)(k:Nat)(bs:List (Str×Int))(l:Nat)(s t:Sl):Sg:=[.lent (aO ns k),.sh true (.lst (aB bs)),.sh true (.int (eD l)),s,t]
abbrev cf(ns:List Int)(k:Nat)(bs:List (Str×Int))(l:Nat)(s:Sl):Sg:=[s,.lent (aO ns k),.sh true (.lst (aB bs)),.sh true (.int (eD l))]
section
variable {P:Pg} {W:Caller} {l:Nat} {Z Z1:Sg}
theorem aBC{vs:List Vl}(h:evls' P W l Z es=.ok (vs,Z1)):evl P W l Z (.tup es)=.ok (⟨.tup (vs.map (·.d)),false,aU vs,[]⟩,Z1):=by rw[vE,h];rfl
theorem aAr(h:evl P W 0 Z e=.ok (⟨d,f,false,[]⟩,.lent c::r)):ex P W Z (.retL e)=.ret ⟨.tup [d,.err 0 c],f,false,[]⟩:=by rw[vF,h];rfl
end
def yK(N:Nat)(ns:List Int)(bs:List (Str×Int))(l:Nat):Prop:=∀k,k+(1+4*cD l)<=390000->∃(p:List Dd) (k':Nat),OkP bs.length l p/\k'<=k+(1+4*cD l) /\
 call pg N 16 [.err 0 (aO ns k),.lst (aB bs),.int (eD l)]=.ok (.tup [prD p,.err 0 (aO ns k')],true,false)
def yL(N:Nat)(ns:List Int)(bs:List (Str×Int))(l:Nat):Prop:=∀k,k+cD l<=390000->∃(d:Dd) (k':Nat),Ok bs.length l d/\k'<=k+cD l /\
 call pg N 15 [.err 0 (aO ns k),.lst (aB bs),.int (eD l)]=.ok (.tup [d.d,.err 0 (aO ns k')],false,false)
theorem mY(N:Nat)(ns:List Int)(hl:l<=2)(h:yL (N+2) ns bs l):yK (N+3) ns bs l:=λk hk=>by
 have G:∃m:Nat,0<m/\m<=5/\ev pg (call pg (N+2)) [.lent (aO ns k),.sh true (.lst (aB bs)),.sh true (.int (eD l))] (.idx (.lst (.cons (.c (.int 5)) (.cons (.c (.int 3)) (.cons (.c (.int 3)) .nil)))) (.op .Sub (.v 2) (.c (.int 1))))=.ok (.cl (.int (m:Int))):=by rcases(by omega:l=0\/l=1\/l=2) with rfl|rfl|rfl;exact⟨3,by decide,by decide,rfl⟩;exact⟨3,by decide,by decide,rfl⟩;exact⟨5,by decide,by decide,rfl⟩
 obtain⟨m,m0,m5,G⟩:=G;have L:=dX N (ns:=ns) (k:=k) (by omega) (m:=(m:Int)) (by omega) (c:=aO ns k) (r:=[.sh true (.lst (aB bs)),.sh true (.int (eD l))]) (a:=.e (.idx (.lst (.cons (.c (.int 5)) (.cons (.c (.int 3)) (.cons (.c (.int 3)) .nil)))) (.op .Sub (.v 2) (.c (.int 1))))) (cF G);obtain⟨r0,r1⟩:=cK ns k (m:=(m:Int)) (by omega);rw[show nxt ns k (m:Int)=(((nxt ns k (m:Int)).toNat:Nat):Int) by omega] at L;have M:(nxt ns k (m:Int)).toNat<=4:=by omega
 generalize (nxt ns k (m:Int)).toNat=q at L M;obtain⟨ds,Z',h1,p,B,rfl,h2,h3,h4,rfl⟩:=yC (P:=pg) (W:=call pg (N+2)) (l:=0) (k:=1) (l':=1) (caps:=[0,1,2]) (t:=.n 0) (elt:=.call 15 (.cons (.e (.v 2)) (.cons (.e (.v 3)) .nil))) (λi ds Z=>∃(p:List Dd) (B:Nat),ds=p.map Dd.d/\p.length=i/\(∀d∈p,Ok bs.length l d)/\B<=k+1+cD l*i/\Z=[.lent (aO ns B),.sh true (.lst (aB bs)),.sh true (.int (eD l))]) L (by omega) ⟨[],k+1,rfl,rfl,λ_ z=>absurd z BI,by omega,rfl⟩ λi Z ds hi ⟨p,B,U,e2,e3,e4,e5⟩=>by
  subst U e5;have q0:cD l*i+cD l<=4*cD l:=by have:=GF (cD l) (show i+1<=4 by omega);rw[EF,D3 (cD l) 4] at this;exact this
  obtain⟨d,I,o,q2,hc⟩:=h B (by omega);refine⟨cf ns B bs l (.sh false (.int i)),.cl d.d,cf ns I bs l (.sh false (.int i)),(true,aO ns B),true,aO ns I,rfl,mU (z:=(true,aO ns B)) rfl rfl (vs:=[⟨.lst (aB bs),false,true,[]⟩,.cl (.int (eD l))]) (Z1:=cf ns B bs l (.sh false (.int i))) rfl (pa:=true) (cs:=aO ns B) rfl hc,rfl,rfl,rfl,p++[d],I,by rw[Bd];rfl,by rw[lA,e2];rfl,yJ e3 o,?_,rfl⟩;rw[EF];omega
 have q1:cD l*q<=4*cD l:=by rw[D3];exact G4 _ M
 refine⟨p,B,⟨by omega,h3⟩,by omega,?_⟩;refine dI (F:=f16) (b:=_) rfl rfl rfl (v:=⟨.tup [prD p,.err 0 (aO ns B)],true,false,[]⟩) ?_;exact eW (aAr h1)
abbrev aFj(bs:List (Str×Int)):Vl:=⟨.lst (aB bs),false,true,[]⟩
theorem mZ(n:Nat)(ns:List Int){bs:List (Str×Int)}(hm:1<=bs.length)(U:bs.length<=4)(hl:l<=2)(h:∀l',l=l'+1->yK (n+8) ns bs l'):yL (n+9) ns bs l:=λk hk=>by
 have q2:200<=cD l:=by
  cases l with
  | zero=>exact Ak _|succ l=>cases l with|zero=>decide|succ l=>cases l with|zero=>decide|succ _=>omega
 have x0:=dX (n+6) (ns:=ns) (k:=k) (by omega) (m:=9) (by decide) (c:=aO ns k) (r:=[.sh true (.lst (aB bs)),.sh true (.int (eD l)),.dead,.dead]) (a:=.e (.c (.int 9))) (cF rfl);obtain⟨r0,r1⟩:=cK ns k (m:=9) (by decide);generalize nxt ns k 9=w at x0 r0 r1;have e1:ex pg (call pg (n+8)) (lfd ns k bs l .dead .dead) (hdS (drp 1 f15.body))=.next (lfd ns (k+1) bs l (.sh false (.int w)) .dead):=by show ex pg (call pg (n+8)) (lfd ns k bs l .dead .dead) (.setL 3 0 [] _)=_;rw[eL,bU,x0,aG];show O.next (Ky _ 3 (Vl.cl (.int w)).slot)=_;rw[bS];rfl
 have tt:∀{t:Sl} (a:Int),tst pg (call pg (n+8)) (lfd ns (k+1) bs l (.sh false (.int w)) t) (.an (.cmp .Gt (.v 3) (.c (.int a))) (.cmp .Lt (.v 2) (.c (.int 3))))=.ok (decide (a<w)&&decide (1<=l)):=λ{t} a=>aPI (kQ (aV 3 (.int w)) rfl rfl) (kQ (x:=.cl (.int (eD l))) rfl rfl (by rw[<-aHn];rfl));have G:∀(d:Dd) (B:Nat),Ok bs.length l d->B<=k+cD l->exs pg (call pg (n+8)) (lfd ns (k+1) bs l (.sh false (.int w)) .dead) (drp 2 f15.body)=.ret ⟨.tup [d.d,.err 0 (aO ns B)],false,false,[]⟩ ->
  ∃(d:Dd) (B:Nat),Ok bs.length l d/\B<=k+cD l/\call pg (n+9) 15 [.err 0 (aO ns k),.lst (aB bs),.int (eD l)]=.ok (.tup [d.d,.err 0 (aO ns B)],false,false):=λd B o b q=>
  ⟨d,B,o,b,dI (F:=f15) (b:=_) rfl rfl rfl (v:=⟨.tup [d.d,.err 0 (aO ns B)],false,false,[]⟩) ((stp e1).trans q)⟩
 by_cases hA:6<w/\1<=l;obtain⟨l',rfl⟩:∃l',l=l'+1:=⟨l-1,by omega⟩
 have hp:=h l' rfl;have L:eD (l'+1)+1=eD l':=by unfold eD;omega
 have x1:=dX (n+6) (ns:=ns) (k:=k+1) (by omega) (m:=3) (by decide) (c:=aO ns (k+1)) (r:=[.sh true (.lst (aB bs)),.sh true (.int (eD (l'+1))),.sh false (.int w),.dead]) (a:=.e (.c (.int 3))) (cF rfl);obtain⟨s0,s1⟩:=cK ns (k+1) (m:=3) (by decide);have he:=yE (cF (P:=pg) (W:=call pg (n+8)) (l:=0) (Z:=lfd ns (k+1) bs (l'+1) (.sh false (.int w)) .dead) (a:=.c (.int 2)) (d:=.int 2) rfl) x1 (add_int 2 (nxt ns (k+1) 3));rw[show(2:Int)+nxt ns (k+1) 3=((2+(nxt ns (k+1) 3).toNat:Nat):Int) by omega] at he;have hq:2+(nxt ns (k+1) 3).toNat<=4:=by omega
 have q1:2<=2+(nxt ns (k+1) 3).toNat:=by omega
 generalize 2+(nxt ns (k+1) 3).toNat=c at he hq q1;have q0:cD (l'+1)=7+16*cD l':=rfl;obtain⟨ds,Z',h1,q,B,rfl,h2,h3,h4,rfl⟩:=yC (P:=pg) (W:=call pg (n+8)) (l:=0) (k:=1) (l':=1) (caps:=[0,1,2]) (t:=.n 0) (elt:=.call 16 (.cons (.e (.v 2)) (.cons (.e (.op .Add (.v 3) (.c (.int 1)))) .nil))) (λi ds Z=>∃(q:List (List Dd)) (B:Nat),ds=q.map prD/\q.length=i/\(∀p∈q,OkP bs.length l' p)/\B<=k+2+(1+4*cD l')*i/\Z=lfd ns B bs (l'+1) (.sh false (.int w)) .dead) he (by omega) ⟨[],k+2,rfl,rfl,λ_ z=>absurd z BI,by omega,rfl⟩ λi Z ds hi ⟨q,B,e1,e2,e3,e4,e5⟩=>by
  subst e1 e5;have q3:(1+4*cD l')*i+(1+4*cD l')<=4*(1+4*cD l'):=by have:=GF (1+4*cD l') (show i+1<=4 by omega);rw[EF,D3 (1+4*cD l') 4] at this;exact this
  obtain⟨p,k2,o,q5,I⟩:=hp B (by omega);rw[<-L] at I;refine⟨cf ns B bs (l'+1) (.sh false (.int i)),⟨prD p,true,false,[]⟩,cf ns k2 bs (l'+1) (.sh false (.int i)),(true,aO ns B),true,aO ns k2,rfl,mU (z:=(true,aO ns B)) rfl rfl (vs:=[aFj bs,.cl (.int (eD (l'+1)+1))]) (Z1:=cf ns B bs (l'+1) (.sh false (.int i))) rfl (pa:=true) (cs:=aO ns B) rfl I,rfl,rfl,rfl,q++[p],k2,by rw[Bd];rfl,by rw[lA,e2];rfl,yJ e3 o,?_,rfl⟩;rw[EF];omega
 have q4:(1+4*cD l')*c<=4*(1+4*cD l'):=by rw[D3];exact G4 _ hq
 refine G (.cho q) B ⟨by omega,by omega,h3⟩ (by omega) ?_;rw[qT];exact gR ((tt 6).trans (by rw[Ao hA.1,Ao hA.2];rfl)) (eW (aAr (aBC (aER (cF (d:=.str "choose") rfl) h1))));have n1:=λa:Ss=>dJ (a:=a) ((tt (t:=.dead) 6).trans (by rw[aNO hA]));by_cases hB:4<w/\1<=l;obtain⟨l',rfl⟩:∃l',l=l'+1:=⟨l-1,by omega⟩
 have hp:=h l' rfl;have L:eD (l'+1)+1=eD l':=by unfold eD;omega
 have x1:=dX (n+6) (ns:=ns) (k:=k+1) (by omega) (m:=3) (by decide) (c:=aO ns (k+1)) (r:=[.sh true (.lst (aB bs)),.sh true (.int (eD (l'+1))),.sh false (.int w),.dead]) (a:=.e (.c (.int 3))) (cF rfl);obtain⟨s0,s1⟩:=cK ns (k+1) (m:=3) (by decide);have xl:evl pg (call pg (n+8)) 0 (lfd ns (k+1) bs (l'+1) (.sh false (.int w)) .dead) (.e (.lst (.cons (.c (.int 3)) (.cons (.c (.int 4)) (.cons (.c (.int 9)) .nil)))))=.ok (⟨.lst [.int 3,.int 4,.int 9],true,false,[]⟩,lfd ns (k+1) bs (l'+1) (.sh false (.int w)) .dead):=rfl;have x2:∃m:Nat,0<m/\m<=9/\bH (Vl.nr ⟨.lst [.int 3,.int 4,.int 9],true,false,[]⟩) (Vl.nr (.cl (.int (nxt ns (k+1) 3))))=.ok (.cl (.int (m:Int))):=by generalize nxt ns (k+1) 3=z at s0 s1;rcases(by omega:z=0\/z=1\/z=2) with rfl|rfl|rfl;exact⟨3,by decide,by decide,rfl⟩;exact⟨4,by decide,by decide,rfl⟩;exact⟨9,by decide,by decide,rfl⟩
 obtain⟨m,m0,m9,x2⟩:=x2;have x3:=dX (n+6) (ns:=ns) (k:=k+2) (by omega) (m:=(m:Int)) (by omega) (c:=aO ns (k+1)) (r:=[.sh true (.lst (aB bs)),.sh true (.int (eD (l'+1))),.sh false (.int w),.dead]) (a:=.idx (.e (.lst (.cons (.c (.int 3)) (.cons (.c (.int 4)) (.cons (.c (.int 9)) .nil))))) (.call 4 (.cons (.e (.c (.int 3))) .nil))) (aKF xl x1 x2 rfl);obtain⟨t0,t1⟩:=cK ns (k+2) (m:=(m:Int)) (by omega);rw[show nxt ns (k+2) (m:Int)=(((nxt ns (k+2) (m:Int)).toNat:Nat):Int) by omega] at x3;have ht:(nxt ns (k+2) (m:Int)).toNat<=8:=by omega
 generalize (nxt ns (k+2) (m:Int)).toNat=c at x3 ht;have q0:cD (l'+1)=7+16*cD l':=rfl;obtain⟨p,B,o,M,I⟩:=hp (k+3) (by omega);rw[<-L] at I;refine G (.lp c p) B ⟨ht,o.1,o.2⟩ (by omega) ?_;rw[aCL];refine cs (n1 _) (gR ((tt 4).trans (by rw[Ao hB.1,Ao hB.2];rfl)) (cs (Z':=lfd ns (k+3) bs (l'+1) (.sh false (.int w)) (.sh false (.int c))) ?_ (eW (aAr (aBC (aNK (cF (d:=.str "loop") rfl) (cF (a:=.v 4) (d:=.int (c:Int)) rfl) (mU (z:=(true,aO ns (k+3))) rfl rfl (vs:=[aFj bs,.cl (.int (eD (l'+1)+1))]) (Z1:=lfd ns (k+3) bs (l'+1) (.sh false (.int w)) (.sh false (.int c))) rfl (pa:=true) (cs:=aO ns (k+3)) rfl I)))))));rw[eL,bU,x3,aG];show O.next (Ky _ 4 (Vl.cl (.int c)).slot)=_;rw[bS];rfl;have n2:=λa:Ss=>dJ (a:=a) ((tt (t:=.dead) 4).trans (by rw[aNO hB]));have te:tst pg (call pg (n+8)) (lfd ns (k+1) bs l (.sh false (.int w)) .dead) (.cmp .Eq (.op .Mod (.v 3) (.c (.int 2))) (.c (.int 0)))=.ok (w % 2==0):=kQ (x:=.cl (.int (w % 2))) (qG (aV 3 (.int w)) rfl (aBq (by decide))) rfl rfl;by_cases hC:w % 2=0;obtain⟨ps,B,o,M,I⟩:=tE n ns (k:=k+1) (by omega) hm U;refine G (.put ps) B (aKQ o) (by omega) ?_;rw[lK];exact cs (n1 _) (cs (n2 _) (gR (te.trans (by rw[hC];rfl)) (eW (jK (jB (cF (d:=.str "put") rfl) (qJ (vs:=[aFj bs]) rfl rfl I))))));obtain⟨g,k1,g1,g2,g3,g4⟩:=qO ns hm 1 (n+2) (k+1) (by decide) (by omega);obtain⟨ps,B,o,M,I⟩:=tE n ns (k:=k1) (by omega) hm U;refine G (.wait g ps) B (aHm g1 (by omega) o) (by omega) ?_;rw[gM];exact cs (n1 _) (cs (n2 _) (cs (dJ (te.trans (by rw[show(w % 2==0)=false by simpa using hC]))) (eW (jK (oJ (cF (d:=.str "wait") rfl) (qJ (vs:=[aFj bs,.cl (.int 1)]) rfl rfl g4) (qJ (vs:=[aFj bs]) rfl rfl I))))))
theorem vM(n:Nat)(ns:List Int){bs:List (Str×Int)}(G:1<=bs.length)(B:bs.length<=4):yK (n+14) ns bs 2:=by
 have I:yL (n+9) ns bs 0:=mZ n ns G B (by decide) λl' e=>by cases e
 have U:yK (n+10) ns bs 0:=mY (n+7) ns (by decide) I;have L:yL (n+11) ns bs 1:=mZ (n+2) ns G B (by decide) λl' e=>by cases e;exact U
 have W:yK (n+12) ns bs 1:=mY (n+9) ns (by decide) L;have M:yL (n+13) ns bs 2:=mZ (n+4) ns G B (by decide) λl' e=>by cases e;exact W
 exact mY (n+11) ns (by decide) M
abbrev pv(d:D):Vl:=⟨d,false,!noL d,[]⟩
theorem jY:∀ns:List Int,dC (ns.map D.int)=some ns
 | []=>rfl|n::ns=>by rw[mC,dC,jY ns]
theorem aFk(ns:List Int):biD .sum [⟨.lst (ns.map D.int),b,c,al⟩]=.ok (.cl (.int ns.sum)):=by show(match dC (ns.map D.int) with|some ns=>R.ok (Vl.cl (.int ns.sum))|none=>.bad)=_;rw[jY]
section
variable {P:Pg} {W:Caller} {Z:Sg}
theorem aHo(v:Vl)(d:D)(i:Nat):∃y,Sl.val i (Vl.sub v d).slot=.ok y/\y.d=d:=by unfold Vl.sub;by_cases h:noL d=true;rw[if_pos h,bS];exact⟨_,rfl,rfl⟩;rw[if_neg h];unfold Vl.slot;exact⟨_,rfl,rfl⟩
theorem aAs{f:Nat}{a:E}{v:Vl}{α:Type}{ts:List α}{g:α->D}{r:α->Int}(I:ev P W Z a=.ok v)(hv:v.d=.lst (ts.map g))(M:ts.length<=lim)(h:∀t∈ts,W f [g t]=.ok (.int (r t),false,false)) :
 ev P W Z (.bi .sum (.cons (.comp 1 [] (.n 0) (.seq a) .nil (.call f (.cons (.v 0) .nil))) .nil))=.ok (.cl (.int (ts.map r).sum)):=by
 have hw:walk P W Z (.seq a)=.ok (ts.map (λt=>Vl.sub v (g t)),v.al):=by
  show(ev P W Z a >>= λx=>(match x.d with
   | .lst ds=>R.ok (items x ds,x.al)|.tup ds=>R.ok (items x ds,x.al)|.str a=>R.iff (decide (a.length<=lim)) (.ok (a.cps.toList.map λn=>.cl (.str ⟨#[n]⟩),[]))|_=>.bad))=_
  rw[I,aC,hv];show R.ok ((ts.map g).map (Vl.sub v),v.al)=_;rw[AJ];rfl
 have L:=aAn (P:=P) (W:=W) (Z:=Z) (k:=1) (caps:=[]) (T:=.n 0) (elt:=.call f (.cons (.v 0) .nil)) (λt=>Vl.sub v (g t)) (λt=>D.int (r t)) (λ_=>rfl) hw M λt U=>by obtain⟨y,B,G⟩:=aHo v (g t) 0;refine⟨[(Vl.sub v (g t)).slot],rfl,fC (x:=y) B ?_⟩;rw[G];exact h t U
 refine yB L ?_;have:=aFk (ts.map r) (b:=true) (c:=false) (al:=[]);rw[AJ] at this;exact this
end
def aFl(N m l:Nat):Prop:=∀d,Ok m l d->call pg N 20 [d.d]=.ok (.int (cnt d),false,false)
def aCM(N m l:Nat):Prop:=∀p:List Dd,p.length<=100->(∀d∈p,Ok m l d)->call pg N 19 [prD p]=.ok (.int (cntP p),false,false)
theorem lO{α:Type}(f:α->Nat):∀ts:List α,(ts.map λt=>(f t:Int)).sum=(((ts.map f).sum:Nat):Int)
 | []=>rfl|t::ts=>by rw[mC,F1,mC,F1,lO f ts,E7]
theorem qU(h:aFl N m l):aCM (N+1) m l:=λp G B=>by refine aN (F:=f19) (v:=.cl (.int (cntP p))) rfl rfl (cV ?_);have:=aAs (P:=pg) (W:=call pg N) (Z:=[.sh true (prD p)]) (f:=20) (a:=.v 0) (v:=pv (prD p)) (ts:=p) (g:=Dd.d) (r:=λd=>(cnt d:Int)) rfl rfl (by unfold lim;omega) λd hd=>h d (B d hd);rw[lO,<-lL] at this;exact this
theorem qV(h:∀l',l=l'+1->aCM N m l'):aFl (N+1) m l:=λd o=>by
 cases d with
 | put ps=>rw[lK];refine aN (F:=f20) (v:=.cl (.int 1)) rfl rfl ?_;exact cs (dJ (aX (aY rfl rfl rfl) (by decide +kernel))) (cV (qF (k:=false) (aX (aY rfl rfl rfl) (by decide +kernel)) rfl))|wait g ps=>rw[gM];refine aN (F:=f20) (v:=.cl (.int 1)) rfl rfl ?_;exact cs (dJ (aX (aY rfl rfl rfl) (by decide +kernel))) (cV (qF (k:=false) (aX (aY rfl rfl rfl) (by decide +kernel)) rfl))|cho q=>
  cases l with
  | zero=>exact o.elim|succ l=>have o:2<=q.length/\q.length<=4/\∀p∈q,p.length<=4/\∀d∈p,Ok m l d:=o;rw[qT];refine aN (F:=f20) (v:=.cl (.int (cnt (.cho q)))) rfl rfl (gR (aX (aY rfl rfl rfl) (by decide +kernel)) (cV ?_));have:=aAs (P:=pg) (W:=call pg N) (Z:=[.sh true (.tup [.str "choose",.lst (q.map prD)])]) (f:=19) (a:=.idx (.v 0) (.c (.int 1))) (v:=⟨.lst (q.map prD),false,true,[]⟩) (ts:=q) (g:=prD) (r:=λp=>(cntP p:Int)) (aY rfl rfl rfl) rfl (by unfold lim;omega) λp B=>h l rfl p (by have:=(o.2.2 p B).1;omega) (o.2.2 p B).2;refine qG rfl this ?_;rw[lO,<-vL,cnt];exact(add_int 1 _).trans (by rw[E7];rfl)
 | lp k p=>
  cases l with
  | zero=>exact o.elim|succ l=>have o:k<=8/\p.length<=4/\∀d∈p,Ok m l d:=o;rw[aCL];refine aN (F:=f20) (v:=.cl (.int (cnt (.lp k p)))) rfl rfl (cs (dJ (aX (aY rfl rfl rfl) (by decide +kernel))) (cV (qF (k:=true) (aX (aY rfl rfl rfl) (by decide +kernel)) ?_)));refine qG (aY (z:=.cl (.int (k:Int))) rfl rfl rfl) (fC (x:=⟨prD p,false,true,[]⟩) (aY rfl rfl rfl) (h l rfl p (by omega) o.2.2)) ?_;rw[cnt];exact(aBu (by omega)).trans (by rw[DL])
abbrev sd(d:D):Sl:=(Vl.sub ⟨.non,false,true,[]⟩ d).slot
theorem eU(i:Nat)(d:D):Sl.val i (sd d)=.ok (pv d):=by
 unfold sd Vl.sub pv;by_cases h:noL d=true;rw[if_pos h,bS,aV,h];rfl;rw[if_neg h];have h':noL d=false:=by simpa using h
 unfold Vl.slot Sl.val;simp[h']
section
variable {P:Pg} {W:Caller} {Z:Sg}
theorem lP{α:Type}{f:α->D}{a:E}{ts:List α}{fr:Bool}(h:ev P W Z a=.ok ⟨.lst (ts.map f),fr,true,[]⟩):walk P W Z (.seq a)=.ok (ts.map λt=>Vl.sub ⟨.non,false,true,[]⟩ (f t),[]):=by rw[iJ,h,aC];show R.ok ((ts.map f).map (Vl.sub ⟨.lst (ts.map f),fr,true,[]⟩),([]:List Nat))=_;rw[AJ];rfl
end
theorem aNR:ev P W (.sh true (prD p)::r) (.v 0)=.ok ⟨prD p,false,true,[]⟩:=rfl
def yM(N m l:Nat):Prop:=∀p:List Dd,p.length<=100->(∀d∈p,Ok m l d)->call pg N 17 [prD p]=.ok (.int (cntP p),false,false)
theorem dS{α:Type}{p:List α}{i:Nat}(h:i<p.length):p.take (i+1)=p.take i++[p[i]]:=Bp h
abbrev aIb:Ss:=match hdS (drp 1 f17.body) with|.for _ _ b=>b|_=>.nil
theorem aCN(h:∀l',l=l'+1->yM N m l'){d:Dd}(o:Ok m l d)(s0:Sl)(c:Nat):exs pg (call pg N) [s0,.sh false (.int c),sd d.d] aIb=.next [s0,.sh false (.int ((c+cnt d:Nat):Int)),sd d.d]:=by
 have G:ev pg (call pg N) [s0,.sh false (.int c),sd d.d] (.v 2)=.ok (pv d.d):=eU 2 d.d;have B:∀{e:E},ev pg (call pg N) [s0,.sh false (.int c),sd d.d] e=.ok (.cl (.int ((c+cnt d:Nat):Int)))->exs pg (call pg N) [s0,.sh false (.int c),sd d.d] (.cons (.set (.n 1) e) .nil)=.next [s0,.sh false (.int ((c+cnt d:Nat):Int)),sd d.d]:=λq=>cs (dM q) rfl;cases d with
 | put ps=>rw[lK] at G B ⊢;refine cs (Z':=_) ?_ rfl;rw[aW,aX (aY G rfl rfl) (by decide +kernel:(("put" : Str) == "choose")=false),aG,if_neg bN];refine cs (Z':=_) ?_ rfl;rw[aW,aX (aY G rfl rfl) (by decide +kernel:(("put" : Str) == "loop")=false),aG,if_neg bN];exact B (qG (x:=.cl (.int c)) rfl rfl ((add_int _ _).trans (by rw[cnt];rfl)))|wait g ps=>rw[gM] at G B ⊢;refine cs (Z':=_) ?_ rfl;rw[aW,aX (aY G rfl rfl) (by decide +kernel:(("wait" : Str) == "choose")=false),aG,if_neg bN];refine cs (Z':=_) ?_ rfl;rw[aW,aX (aY G rfl rfl) (by decide +kernel:(("wait" : Str) == "loop")=false),aG,if_neg bN];exact B (qG (x:=.cl (.int c)) rfl rfl ((add_int _ _).trans (by rw[cnt];rfl)))|cho q=>
  cases l with
  | zero=>exact o.elim|succ l=>
   have o:2<=q.length/\q.length<=4/\∀p∈q,p.length<=4/\∀d∈p,Ok m l d:=o;rw[qT] at G B ⊢;refine cs (Z':=_) ?_ rfl;rw[aW,aX (aY G rfl rfl) (by decide +kernel:(("choose" : Str) == "choose")=true),aG,if_pos rfl];have:=aAs (f:=17) (a:=.idx (.v 2) (.c (.int 1))) (v:=⟨.lst (q.map prD),false,true,[]⟩) (ts:=q) (g:=prD) (r:=λp=>(cntP p:Int)) (aY G rfl rfl) rfl (by unfold lim;omega) λp I=>h l rfl p (by have:=(o.2.2 p I).1;omega) (o.2.2 p I).2;refine B (qG (qG (x:=.cl (.int c)) rfl rfl (add_int _ _)) this ?_);rw[lO,<-vL,cnt,add_int]
   congr 3
   omega
 | lp k p=>
  cases l with
  | zero=>exact o.elim|succ l=>have o:k<=8/\p.length<=4/\∀d∈p,Ok m l d:=o;rw[aCL] at G B ⊢;refine cs (Z':=_) ?_ rfl;rw[aW,aX (aY G rfl rfl) (by decide +kernel:(("loop" : Str) == "choose")=false),aG,if_neg bN];refine cs (Z':=_) ?_ rfl;rw[aW,aX (aY G rfl rfl) (by decide +kernel:(("loop" : Str) == "loop")=true),aG,if_pos rfl];refine B (qG (x:=.cl (.int c)) rfl (qG (aY (z:=.cl (.int (k:Int))) G rfl rfl) (fC (x:=⟨prD p,false,true,[]⟩) (aY G rfl rfl) (h l rfl p (by omega) o.2.2)) (aBu (by omega))) ?_);rw[cnt,add_int,E7,DL]
theorem qW(h:∀l',l=l'+1->yM N m l'):yM (N+1) m l:=λp L I=>by
 obtain⟨Z',G,s,B⟩:=eC (P:=pg) (W:=call pg N) (Z:=[.sh true (prD p),.sh false (.int 0),.dead]) (t:=.n 2) (b:=aIb) (λi Z=>∃s,Z=[.sh true (prD p),.sh false (.int (cntP (p.take i))),s]) (lP aNR) ⟨.dead,rfl⟩ λi hi Z ⟨s,e⟩=>by rw[lM] at hi;subst e;rw[BJ];refine⟨[.sh true (prD p),.sh false (.int (cntP (p.take i))),sd p[i].d],_,rfl,aCN h (I _ (AO hi)) _ _,sd p[i].d,?_⟩;rw[dS hi,aFi];rfl
 subst B;rw[lM,AF] at G;exact aN (F:=f17) (v:=.cl (.int (cntP p))) rfl rfl (cs (dM rfl) (cs G rfl))
theorem fW{α:Type}{l:List α}(h:l≠[]):l.eraseIdx (l.length-1)=l.dropLast:=by rw[List.dropLast_eq_take,List.eraseIdx_eq_take_drop_succ];have:0<l.length:=GG.mpr h;rw[show l.length-1+1=l.length by omega,D4,AH]
theorem tF(h:yM N m l)(s0:Sl):∀(n:Nat) (q:List Dd) (f:Nat),q.length<=n->n<f->q.length<=100->(∀d∈q,Ok m l d) ->
 ∃I,(∃r,q=I++r)/\cntP I<=8/\gY (λZ=>tst pg (call pg N) Z (.cmp .Gt (.call 17 (.cons (.v 1) .nil)) (.c (.int 8)))) (λZ=>exs pg (call pg N) Z (.cons (.pop none 1 none) .nil)) f [s0,.own b (q.map Dd.d)]=.next [s0,.own b (I.map Dd.d)]
 | n,q,0,_,hf,_,_=>absurd hf (Ci _)|n,q,f+1,hn,hf,hl,ho=>by
  have M:tst pg (call pg N) [s0,.own b (q.map Dd.d)] (.cmp .Gt (.call 17 (.cons (.v 1) .nil)) (.c (.int 8)))=.ok (decide (8<cntP q)):=by
   refine(kQ (x:=.cl (.int (cntP q))) (y:=.cl (.int 8)) (fC (x:=⟨prD q,false,b,[1]⟩) rfl (h q hl ho)) rfl rfl).trans ?_
   congr 1
   by_cases G:8<cntP q;rw[Ao G,Ao (by omega)];rw[Av G,Av (by omega)]
  by_cases G:8<cntP q;have B:q≠[]:=λz=>by rw[z] at G;exact absurd G (by decide)
  have q0:0<q.length:=GG.mpr B;obtain⟨I,⟨r,hr⟩,U,W⟩:=tF h (b:=b) s0 (n-1) q.dropLast f (by rw[Eu];omega) (by omega) (by rw[Eu];omega) λd hd=>ho d (List.dropLast_subset _ hd);refine⟨I,⟨r++[q.getLast B],?_⟩,U,?_⟩;rw[<-Cd,<-hr];exact(List.dropLast_concat_getLast B).symm;have hi:Hp.ixN (q.map Dd.d).length (-1)=some (q.length-1):=by
   rw[lM];unfold Hp.ixN;rw[if_neg (by decide),if_pos (by omega)]
   congr 1
   omega
  have hp:ex pg (call pg N) [s0,.own b (q.map Dd.d)] (.pop none 1 none)=.next [s0,.own b (q.dropLast.map Dd.d)]:=by
   show O.from _ (hG [s0,.own b (q.map Dd.d)] 1 none) (λr=>O.next r.2)=_;have:hG [s0,.own b (q.map Dd.d)] 1 none=.ok (Vl.sub ⟨.non,false,b,[]⟩ (q[q.length-1]'(by omega)).d,[s0,.own b (q.dropLast.map Dd.d)]):=by
    show(match Hp.ixN (q.map Dd.d).length (-1) with
     | some j=>(match (q.map Dd.d)[j]? with
      | some d=>R.ok (Vl.sub ⟨.non,false,b,[]⟩ d,[s0,.own b ((q.map Dd.d).eraseIdx j)])|none=>.bad)
     | none=>.bad)=_
    rw[hi];show(match (q.map Dd.d)[q.length-1]? with
     | some d=>R.ok (Vl.sub ⟨.non,false,b,[]⟩ d,[s0,Sl.own b ((q.map Dd.d).eraseIdx (q.length-1))])|none=>.bad)=_
    rw[Ar,Af (by omega)];show R.ok (Vl.sub ⟨.non,false,b,[]⟩ _,[s0,Sl.own b ((q.map Dd.d).eraseIdx (q.length-1))])=_;have L:=fW (l:=q.map Dd.d) (by simpa using B);rw[lM] at L;rw[L,List.map_dropLast]
   rw[this];rfl
  show O.from _ (tst pg (call pg N) [s0,.own b (q.map Dd.d)] _) _=_;rw[M,Ao G,aG,if_pos rfl];show(match exs pg (call pg N) [s0,.own b (q.map Dd.d)] (.cons (.pop none 1 none) .nil) with
   | .next Z'=>gY _ _ f Z'|.cnt Z'=>gY _ _ f Z'|.brk Z'=>.next Z'|o=>o)=_
  rw[cs hp rfl];exact W;refine⟨q,⟨[],by rw[AH]⟩,by omega,?_⟩;show O.from _ (tst pg (call pg N) [s0,.own b (q.map Dd.d)] _) _=_;rw[M,Av G,aG,if_neg bN]
theorem aCO(h:yM N m l){p:List Dd}(I:p.length<=4)(L:∀d∈p,Ok m l d):∃(q:List Dd) (b:Bool),q.length<=4/\(∀d∈q,Ok m l d)/\cntP q<=8/\call pg (N+1) 18 [prD p]=.ok (prD q,true,b):=by
 obtain⟨q,⟨r,M⟩,U,W⟩:=tF h (b:=!noLs (p.map Dd.d)) (.sh true (prD p)) 4 p aAH I (by decide) (by omega) L;refine⟨q,!noLs (p.map Dd.d),by rw[M,lA] at I;omega,λd hd=>L d (by rw[M];exact AE _ hd),U,?_⟩;refine aN (F:=f18) (v:=⟨prD q,true,!noLs (p.map Dd.d),[]⟩) rfl rfl ?_;refine cs (Z':=[.sh true (prD p),.own (!noLs (p.map Dd.d)) (p.map Dd.d)]) ?_ (cs W rfl);show ex pg (call pg N) [.sh true (prD p),.dead] (.set (.n 1) (.bi .list (.cons (.v 0) .nil)))=_;rw[eS,yB (z:=⟨prD p,true,true&&!noLs (p.map Dd.d),if noLs (p.map Dd.d)=true then [] else []⟩) aNR rfl,aG];by_cases B:noLs (p.map Dd.d)=true;rw[if_pos B,B];rfl;have G:noLs (p.map Dd.d)=false:=by simpa using B
 rw[if_neg B,G];rfl
theorem aCP(h:aCM N m l){p:List Dd}(B:p.length<=100)(G:∀d∈p,Ok m l d)(L:cntP p<=8):call pg (N+1) 8 [prD p]=.ok (.non,false,false):=by
 have I:tst pg (call pg N) [.sh true (prD p)] (.cmp .Gt (.call 19 (.cons (.v 0) .nil)) (.c (.int 8)))=.ok false:=by refine(kQ (x:=.cl (.int (cntP p))) (y:=.cl (.int 8)) (fC (x:=⟨prD p,false,true,[]⟩) rfl (h p B G)) rfl rfl).trans ?_;rw[Av (by omega)]
 have:exs pg (call pg N) [.sh true (prD p)] f8.body=.next [.sh true (prD p)]:=cs (dJ I) rfl;show gU pg (call pg N) 8 [prD p]=_;unfold gU;show(match exs pg (call pg N) [.sh true (prD p)] f8.body with|.ret v=>R.ok (v.d,v.fr,v.pa)|.next _=>R.ok (.non,false,false)|.exc x _=>R.exc x|_=>R.bad)=_;rw[this]
def St(bs:List (Str×Int))(st:List Int):Prop:=st.length=bs.length/\InR bs st
theorem aKR{bs:List (Str×Int)}(hs:St bs st)(o:lJ bs.length w)(h:gW bs w st=some r):St bs r:=by rw[<-aFb hs.1 hs.2 o] at h;unfold sZ at h;split at h;split at h;rename_i c;cases h;refine⟨by rw[qQ];exact hs.1,λj a b B G=>?_⟩;have:=Bc.mp c (a,b) (mG (i:=j) (BP.mpr ⟨B,G⟩));simp only[okP,Dm,G3,F7] at this;omega;cases h;cases h
theorem yN{bs:List (Str×Int)}:∀i,i<=bs.length->∀st:List Int,st.length=i->InR (bs.take i) st->st∈standsL (bs.take i)
 | 0,_,st,h,_=>by rw[DR.mp h];exact Ap.mpr rfl|i+1,hi,st,h,hr=>by
  rcases List.eq_nil_or_concat st with rfl|⟨a,x,rfl⟩
  cases h;rw[List.concat_eq_append] at h hr ⊢;rw[lA,B1] at h;have L:=hr i x bs[i] (by rw[Az (by omega),show i-a.length=0 by omega];rfl) (by rw[CF (by omega)];exact Af hi);rw[dH hi];refine El.mpr ⟨a,yN i (by omega) a (by omega) λj y b G B=>?_,A0.mpr ⟨x.toNat,Bn.mpr (by omega),by rw[CM L.1]⟩⟩;have I:j<a.length:=(Au.mp G).1;rw[CF (by omega)] at B;exact hr j y b (by rw[A4 I];exact G) (by rw[CF (by omega)];exact B)
theorem aAt(h:St bs st):st∈standsL bs:=by have:=yN (bs:=bs) bs.length (Ak _) st h.1 (by rw[AF];exact h.2);rwa [AF] at this
theorem aBD:∀{l m:List (List Int)},l.Nodup->(∀x∈l,x∈m)->l.length<=m.length
 | [],_,_,_=>AA _|a::l,m,h,s=>by obtain⟨I,L⟩:=AZ.mp h;have B:=s a Ai;have:=aBD (l:=l) (m:=m.erase a) L λx G=>(List.mem_erase_of_ne (λz:x=a=>I (z▸G))).mpr (s x (Ag _ G));rw[List.length_erase_of_mem B] at this;have:=List.length_pos_of_mem B;rw[lC];omega
structure Bs (bs:List (Str×Int)):Prop where
 T:aEL bs
 p:dB bs<=12
 m:1<=bs.length
 m4:bs.length<=4
theorem Bs.len(B:Bs bs){l:List (List Int)}(h:l.Nodup)(s:∀x∈l,St bs x):l.length<=12:=by have L:=aBD h λx I=>aAt (s x I);have G:=(qC B.T bs.length (Ak _)).1;rw[AF] at G;have:=B.p;omega
theorem Bs.ne(B:Bs bs)(s:∀x∈l,St bs x):neK l=true:=Bc.mpr λx I=>by
 have G:=(s x I).1;have:=B.m;cases x with
 | nil=>rw[lN] at G;omega|cons _ _=>rfl
noncomputable def vN(ts:List Int):List (List Int):=ts.foldl extend [[]]
theorem aCQ(bs:List (Str×Int)):standsL bs=vN (bs.map (·.2)):=by unfold standsL vN;rw[List.foldl_map]
abbrev hs(ts:List Int):Bool:=decide ((vN ts).map tupHs).Nodup
theorem aNS:∀a:Fin 8,hs [(a.val:Int)]=true:=by decide +kernel
theorem aNT:∀a b:Fin 8,(a.val+1)*(b.val+1)<=12->hs [(a.val:Int),(b.val:Int)]=true:=by decide +kernel
theorem aNU:∀a b c:Fin 8,(a.val+1)*(b.val+1)*(c.val+1)<=12->hs [(a.val:Int),(b.val:Int),(c.val:Int)]=true:=by decide +kernel
theorem aNV:∀a b c d:Fin 7,¬ (a.val+2)*(b.val+2)*(c.val+2)*(d.val+2)<=12:=by decide +kernel
theorem aCR(h:1<=t/\t<=7):∃a:Fin 8,t=(a.val:Int):=⟨⟨t.toNat,by omega⟩,by show t=((t.toNat:Nat):Int);omega⟩
theorem aHp(h:1<=t/\t<=7):∃a:Fin 7,t=(a.val:Int)+1:=⟨⟨t.toNat-1,by omega⟩,by show t=((t.toNat-1:Nat):Int)+1;omega⟩
theorem Bs.hash(B:Bs bs):((standsL bs).map tupHs).Nodup:=by
 have I:=B.T.one;have G:=B.p;have W:=B.m;have U:=B.m4;rw[aCQ];refine of_decide_eq_true (show hs (bs.map (·.2))=true from ?_)
 match bs,I,G,W,U with
 | [a],I,_,_,_=>obtain⟨x,L⟩:=aCR (I a (by simp));show hs [a.2]=true;rw[L];exact aNS x|[a,b],I,G,_,_=>
  obtain⟨x,L⟩:=aCR (I a (by simp));obtain⟨y,M⟩:=aCR (I b (by simp));have G:1*(a.2+1)*(b.2+1)<=12:=G;show hs [a.2,b.2]=true;rw[L,M] at G ⊢;refine aNT x y ?_;rw[Iw] at G
  exact_mod_cast G
 | [a,b,c],I,G,_,_=>
  obtain⟨x,L⟩:=aCR (I a (by simp));obtain⟨y,M⟩:=aCR (I b (by simp));obtain⟨z,hz⟩:=aCR (I c (by simp));have G:1*(a.2+1)*(b.2+1)*(c.2+1)<=12:=G;show hs [a.2,b.2,c.2]=true;rw[L,M,hz] at G ⊢;refine aNU x y z ?_;rw[Iw] at G
  exact_mod_cast G
 | [a,b,c,d],I,G,_,_=>
  obtain⟨x,L⟩:=aHp (I a (by simp));obtain⟨y,M⟩:=aHp (I b (by simp));obtain⟨z,hz⟩:=aHp (I c (by simp));obtain⟨w,hw⟩:=aHp (I d (by simp));have G:1*(a.2+1)*(b.2+1)*(c.2+1)*(d.2+1)<=12:=G;rw[L,M,hz,hw,Iw] at G;refine absurd ?_ (aNV x y z w)
  exact_mod_cast G
 | _::_::_::_::_::_,_,_,_,h=>simp at h
theorem tG{f:List Int->Int}:∀{l:List (List Int)},(l.map f).Nodup->∀x∈l,∀y∈l,f x=f y->x=y
 | [],_,x,hx,_,_,_=>absurd hx BI|a::l,h,x,hx,y,hy,e=>by rw[mC] at h;obtain⟨G,I⟩:=AZ.mp h;rcases As.mp hx with h3|h3 <;> rcases As.mp hy with B|B;rw[h3,B];exact absurd (A0.mpr ⟨y,B,by rw[<-e,h3]⟩) G;exact absurd (A0.mpr ⟨x,h3,by rw[e,B]⟩) G;exact tG I x h3 y B e
theorem Bs.ok(B:Bs bs):∀{l:List (List Int)},l.Nodup->(∀x∈l,St bs x)->jO l=true:=λ{l} h s=>Ao (by
 induction l with
 | nil=>exact BM|cons a l U=>
  obtain⟨I,L⟩:=AZ.mp h;rw[mC];refine AZ.mpr ⟨λz=>?_,U L λx M=>s x (Ag _ M)⟩;obtain⟨y,G,e⟩:=A0.mp z;have:=tG B.hash y (aAt (s y (Ag _ G))) a (aAt (s a Ai)) e;rw[this] at G;exact I G)
abbrev Rs:=List (List Int)
abbrev wy(g:Cn)(ps:List (Nat×Sm)):Way:=⟨g,ps,0⟩
section
variable (bs:List (Str×Int))
mutual
noncomputable def gN:Dd->Rs->Rs
 | .put ps,r=>ssT (r.filterMap (gW bs (wy .yes ps)))|.wait g ps,r=>ssT (r.filterMap (gW bs (wy g ps)))|.cho q,r=>ssT (comQ q r)|.lp k p,r=>Dv (λx=>comP p x) k r
noncomputable def comP:List Dd->Rs->Rs
 | [],r=>r|d::p,r=>comP p (gN d r)
noncomputable def comQ:List (List Dd)->Rs->Rs
 | [],_=>[]
 | p::q,r=>comP p r++comQ q r
end
end
variable {bs:List (Str×Int)}
theorem qX(ps:List (Nat×Sm))(r:Rs):gN bs (.put ps) r=ssT (r.filterMap (gW bs (wy .yes ps))):=by rw[gN]
theorem nA(g:Cn)(ps:List (Nat×Sm))(r:Rs):gN bs (.wait g ps) r=ssT (r.filterMap (gW bs (wy g ps))):=by rw[gN]
theorem qY(q:List (List Dd))(r:Rs):gN bs (.cho q) r=ssT (comQ bs q r):=by rw[gN]
theorem vO(k:Nat)(p:List Dd)(r:Rs):gN bs (.lp k p) r=Dv (comP bs p) k r:=by rw[gN]
theorem lQ(q:List Dd):∀(p:List Dd) (r:Rs),comP bs (p++q) r=comP bs q (comP bs p r)
 | [],r=>by rw[Dg,comP]|d::p,r=>by rw[Ig,comP,lQ q p,comP]
theorem yO(d:Dd)(r:Rs):comP bs [d] r=gN bs d r:=by rw[comP,comP]
theorem nB(p:List Dd)(r:Rs):∀q:List (List Dd),comQ bs (q++[p]) r=comQ bs q r++comP bs p r
 | []=>by simp only[Dg,comQ,AH]|x::q=>by rw[Ig,comQ,nB p r q,comQ,Cd]
theorem yP(p:List Dd)(r:Rs):∀k:Nat,comP bs (Ae k p).flatten r=Dv (comP bs p) k r
 | 0=>by rw[List.replicate_zero,List.flatten_nil,comP];rfl|k+1=>by rw[List.replicate_succ',List.flatten_append,lQ,yP p r k,List.flatten_singleton];rfl
structure Rok (bs:List (Str×Int)) (r:Rs):Prop where
 up:r.Pairwise (lexI · ·=true)
 st:∀x∈r,St bs x
theorem yQ{r:Rs}(h:r.Pairwise (lexI · ·=true)):r.Nodup:=h.imp λ{a b} h z=>by rw[z,L2.lexI_ir] at h;cases h
theorem Rok.nd{r:Rs}(h:Rok bs r):r.Nodup:=yQ h.up
theorem aAu(h:∀x∈r,St bs x):Rok bs (ssT r):=⟨iF r,λx B=>h x (iU.mp B)⟩
theorem aFm(h:Rok bs r):ssT r=r:=(uL h.up λ_=>Iff.rfl).symm
theorem aHq(h:∀x,x∈r↔x∈s):ssT r=ssT s:=uL (iF r) λx=>by rw[iU,h]
theorem vP(o:lJ bs.length w){r:Rs}(h:∀x∈r,St bs x):∀x∈r.filterMap (gW bs w),St bs x:=λx B=>by obtain⟨y,G,e⟩:=B3.mp B;exact aKR (h y G) o e
theorem vQ(h:vK bs.length ps):lJ bs.length (wy .yes ps):=⟨trivial,by show 1<=31;decide,h.all,h.up⟩
theorem qZ{g:Cn}(B:g.wf bs.length true)(G:g.sz<=31)(h:vK bs.length ps):lJ bs.length (wy g ps):=⟨B,G,h.all,h.up⟩
theorem aFn(h:Ok m l (.put ps)):vK m ps:=by cases l <;> exact h
theorem aAv{g:Cn}(h:Ok m l (.wait g ps)):g.wf m true/\g.sz<=31/\vK m ps:=by cases l <;> exact h
def KD(bs:List (Str×Int))(l:Nat):Prop:=∀d,Ok bs.length l d->∀r,Rok bs r->Rok bs (gN bs d r)
theorem fD(h:KD bs l):∀p:List Dd,(∀d∈p,Ok bs.length l d)->∀r,Rok bs r->Rok bs (comP bs p r)
 | [],_,r,hr=>by rw[comP];exact hr|d::p,hp,r,hr=>by rw[comP];exact fD h p (λx B=>hp x (Ag _ B)) _ (h d (hp d Ai) r hr)
theorem lR(h:KD bs l)(B:Bs bs)(L:Rok bs r):∀q:List (List Dd),(∀p∈q,∀d∈p,Ok bs.length l d)->(∀x∈comQ bs q r,St bs x)/\(comQ bs q r).length<=12*q.length
 | [],_=>by rw[comQ];exact⟨λx G=>(BI G).elim,AA _⟩|p::q,hq=>by obtain⟨M,U⟩:=lR h B L q λx G=>hq x (Ag _ G);have I:=fD h p (hq p Ai) r L;rw[comQ];refine⟨λx G=>?_,?_⟩;rcases AY.mp G with G|G;exact I.st x G;exact M x G;have:=B.len I.nd I.st;rw[lA,lC];omega
theorem vR{f:Rs->Rs}(h:∀r,Rok bs r->Rok bs (f r))(B:Rok bs r):∀k:Nat,Rok bs (Dv f k r)
 | 0=>B|k+1=>h _ (vR h B k)
theorem dU(B:Bs bs):∀l,KD bs l
 | l,.put ps,o,r,hr=>by rw[qX];exact aAu (vP (vQ (aFn o)) hr.st)|l,.wait g ps,o,r,hr=>by rw[nA];obtain⟨G,I,L⟩:=aAv o;exact aAu (vP (qZ G I L) hr.st)|0,.cho _,o,_,_=>o.elim|0,.lp _ _,o,_,_=>o.elim|l+1,.cho q,o,r,hr=>by rw[qY];exact aAu (lR (dU B l) B hr q λp M=>(o.2.2 p M).2).1|l+1,.lp k p,o,r,hr=>by rw[vO];exact vR (fD (dU B l) p o.2.2) hr k
abbrev rD(r:Rs):D:=.lst (r.map aE)
theorem vS(k:List Int):nF (aE k)=some k:=jY k
theorem aBE:∀r:Rs,gO (r.map aE)=some r
 | []=>rfl|k::r=>by rw[mC,gO,vS,aBE r]
theorem rA(r:Rs):noLs (r.map aE)=true:=lG aP r
section
variable {P:Pg} {W:Caller} {Z:Sg}
theorem oK{f:Nat}{a b c:E}{x y:Vl}{z d:D}{fr:Bool}(B:ev P W Z a=.ok x)(G:ev P W Z b=.ok y)(I:ev P W Z c=.ok ⟨z,fr',false,[]⟩)(M:aCb P f 2=true)(L:W f [x.d,y.d,.err 2 [z]]=.ok (d,fr,false)):ev P W Z (.callC f a b c)=.ok (.cl d):=by show(ev P W Z a >>= λx=>ev P W Z b >>= λy=>ev P W Z c >>= λz=>if z.pa=true then (W f [x.d,y.d,z.d] >>= λr=>R.ok (cS [x,y,z] r)) else R.iff (aCb P f 2) (W f [x.d,y.d,.err 2 [z.d]] >>= λr=>R.ok (aDx x y z r)))=_;rw[B,aC,G,aC,I,aC,if_neg bN,M];show(W f [x.d,y.d,.err 2 [z]] >>= λr=>R.ok (aDx x y ⟨z,fr',false,[]⟩ r))=_;rw[L];rfl
theorem aKS{ds ds' r:List D}(h:ev P W Z e=.ok (.cl (.lst ds')))(n:noLs ds'=true)(hi:Z[i]? = some (.own false ds))(I:r.length<=lim)(G:r=ds++ds'):ex P W Z (.ext i e)=.next (Z.set i (.own false r)):=by
 subst G;rw[aEK,h,aG];have B:oW (.cl (.lst ds'))=some (.cl .non,ds'):=by show(if (false||(noLs ds'&&true))=true then some (Vl.mk .non false (false&&!noLs ds') (if noLs ds'=true then [] else []),ds') else none)=_;rw[n];rfl
 rw[B];show put Z i (.cl .non) (λds=>some (ds++ds'))=_;unfold put fJ;rw[jJ,bU,hi];show(if (ds++ds').length<=lim then O.next _ else .bad)=_;rw[if_pos I];rfl
theorem aKT{a:E}{ks:Rs}{fr pa:Bool}{al:List Nat}(h:ev P W Z a=.ok ⟨.lst (ks.map aE),fr,pa,al⟩)(n:neK ks=true)(l:(ssT ks).length<=18):ev P W Z (.sset a)=.ok ⟨rD (ssT ks),true,false,[]⟩:=by
 show(ev P W Z a >>= λx=>(match x.d with
  | .lst ds=>(match gO ds with
   | some ks=>R.iff (neK ks&&decide ((ssT ks).length<=18)) (R.ok (⟨.lst ((ssT ks).map rG),true,false,[]⟩:Vl))|none=>.bad)
  | _=>.bad))=_
 rw[h,aC];show(match gO (ks.map aE) with
  | some ks=>R.iff (neK ks&&decide ((ssT ks).length<=18)) (R.ok (⟨.lst ((ssT ks).map rG),true,false,[]⟩:Vl))|none=>.bad)=_
 rw[aBE];show R.iff (neK ks&&decide ((ssT ks).length<=18)) _=_;rw[n,Ao l];rfl
theorem jZ{α:Type}{f:α->D}(nf:∀t,noL (f t)=true){a:E}{ts:List α}{fr pa:Bool}{al:List Nat}(h:ev P W Z a=.ok ⟨.lst (ts.map f),fr,pa,al⟩):walk P W Z (.seq a)=.ok (ts.map λt=>Vl.cl (f t),al):=by rw[iJ,h,aC];show R.ok (items _ (ts.map f),al)=_;rw[jA nf]
end
theorem vT:∀os:List (Option (List Int)),(os.filter GU).map stD=(os.filterMap id).map aE
 | []=>rfl|none::os=>vT os|some x::os=>by show stD (some x)::(os.filter GU).map stD=aE x::(os.filterMap id).map aE;rw[vT os];rfl
variable {bs:List (Str×Int)}
theorem aBF{n:Nat}(B:Bs bs){s0 s1 s2 s4 s5:Sl}{os:List (Option (List Int))}{ks:Rs}(M:os.length<=1000)(I:os.filterMap id=ks)(hs:∀x∈ks,St bs x) :
 exs pg (call pg n) [s0,s1,s2,.own false (os.map stD),s4,s5] (drp 4 f25.body)=.ret ⟨rD (ssT ks),true,false,[]⟩:=by
 have G:=aEO (P:=pg) (W:=call pg n) (Z:=[s0,s1,s2,.own false (os.map stD),s4,s5]) (k:=1) (caps:=[]) (al:=[3]) (T:=.n 0) (it:=.seq (.v 3)) (c:=.cmp .IsNot (.v 0) (.c .non)) (elt:=.v 0) (λo=>Vl.cl (stD o)) stD GU vI (jZ vI (lF 3 false _)) (by unfold lim;omega) λo _=>⟨[.sh false (stD o)],by rw[eE,bS];rfl,by cases o <;> rfl,aV 0 _⟩
 rw[vT,I] at G;exact cV (aKT G (B.ne hs) (AI (B.len (yQ (iF ks)) λx L=>hs x (iU.mp L)) (by decide)))
theorem aCS(n:Nat)(ps:List (Nat×Sm)):call pg (n+1) 21 [(Dd.put ps).d]=.ok (Cn.yes.d,false,false):=by rw[lK];exact aN (F:=f21) (v:=.cl Cn.yes.d) rfl rfl (cV (qF (k:=false) (aX (aY rfl rfl rfl) (by decide +kernel)) rfl))
theorem aAw(n:Nat)(g:Cn)(ps:List (Nat×Sm)):call pg (n+1) 21 [(Dd.wait g ps).d]=.ok (g.d,false,false):=by
 rw[gM];have B:noL (.tup [.str "wait",g.d,dN ps])=true:=by simp[noL,noLs,g.noL,cZ]
 exact aN (F:=f21) (v:=.cl g.d) rfl rfl (cV (qF (k:=true) (aX (aY (v0_ B) rfl rfl) (by decide +kernel)) (aY (v0_ B) rfl (fI _ _ _ g.noL))))
theorem rB(ps:List (Nat×Sm)):noL (Dd.put ps).d=true:=by rw[lK];simp[noL,noLs,cZ]
theorem nC(g:Cn)(ps:List (Nat×Sm)):noL (Dd.wait g ps).d=true:=by rw[gM];simp[noL,noLs,g.noL,cZ]
theorem yR(ps:List (Nat×Sm)):bH (.cl (Dd.put ps).d) (.cl (.int (-1)))=.ok (.cl (dN ps)):=by rw[lK];show R.ok (Vl.sub _ (dN ps))=_;unfold Vl.sub;rw[if_pos (qS ps)]
theorem tH(g:Cn)(ps:List (Nat×Sm)):bH (.cl (Dd.wait g ps).d) (.cl (.int (-1)))=.ok (.cl (dN ps)):=by rw[gM];show R.ok (Vl.sub _ (dN ps))=_;unfold Vl.sub;rw[if_pos (qS ps)]
theorem aHr(n:Nat){d:Dd}{g:Cn}(nd:noL d.d=true)(B:call pg (n+1) 21 [d.d]=.ok (g.d,false,false))(G:bH (.cl d.d) (.cl (.int (-1)))=.ok (.cl (dN ps))):call pg (n+2) 22 [d.d,.int 0]=.ok ((wy g ps).d,false,false):=
 aN (F:=f22) (v:=.cl (wy g ps).d) rfl rfl (cV (aFg (fC (v0_ nd) B) (aY (v0_ nd) rfl G) rfl))
theorem aBG(n:Nat)(B:Bs bs){d:Dd}{g:Cn}{ps:List (Nat×Sm)}(nd:noL d.d=true)(hg:∀n,call pg (n+1) 21 [d.d]=.ok (g.d,false,false))(hl:bH (.cl d.d) (.cl (.int (-1)))=.ok (.cl (dN ps)))(o:lJ bs.length (wy g ps)){w:Str}(hw:bH (.cl d.d) (.cl (.int 0))=.ok (.cl (.str w)))(w1:(w==("loop" : Str))=false)(w2:(w==("choose" : Str))=false){r:Rs}(G:Rok bs r) :
 call pg (n+33) 25 [.lst (aB bs),d.d,.err 2 [rD r]]=.ok (rD (ssT (r.filterMap (gW bs (wy g ps)))),true,false):=by
 have hb:=B.m4;refine aN (F:=f25) (v:=⟨rD (ssT (r.filterMap (gW bs (wy g ps)))),true,false,[]⟩) rfl rfl ?_
 let I:Sl->Sl->Sg:=λM s5=>[.sh true (.lst (aB bs)),.sh true d.d,.sh false (rD r),M,.dead,s5]
 have U:∀M s5,ev pg (call pg (n+32)) (I M s5) (.v 1)=.ok (.cl d.d):=λ_ _=>bE 1 true nd;refine cs (Z':=I .dead .dead) rfl (cs (dJ (aX (aY (U _ _) rfl hw) w1)) (cs (Z':=I (.own false []) .dead) rfl ?_));have hc:=aAn (P:=pg) (W:=call pg (n+32)) (Z:=I (.own false []) (.sh false (wy g ps).d)) (k:=1) (caps:=[0,5]) (al:=[]) (T:=.n 0) (it:=.seq (.v 2)) (elt:=.call 2 (.cons (.v 1) (.cons (.v 2) (.cons (.v 0) .nil)))) (λst=>Vl.cl (aE st)) (λst=>stD (gW bs (wy g ps) st)) (λst=>vI _) (jZ (ts:=r) aP (aV 2 _)) (by have:=B.len G.nd G.st;unfold lim;omega) λst L=>⟨[.sh false (aE st),.sh true (.lst (aB bs)),.sh false (wy g ps).d],by rw[eE,bS];rfl,cW (x:=⟨.lst (aB bs),false,true,[]⟩) rfl (aV 2 _) (aV 0 _) (aAp n (G.st st L).1 (by omega) o)⟩
 refine cs (Z':=I (.own false ((r.map (gW bs (wy g ps))).map stD)) (.sh false (wy g ps).d)) ?_ ?_;rw[aW,aX (aY (U _ _) rfl hw) w2,aG,if_neg bN];refine cs (dM (aHj (U _ _) (y:=.cl (.int 0)) rfl (aHr (n+30) nd (hg _) hl))) (cs (vJ hc) ?_);rw[AJ];rfl;refine aBF B (by rw[lM];have:=B.len G.nd G.st;omega) ?_ (vP o G.st);rw[EN];rfl
theorem aBH{α B:Type}(f:α->B)(p:List α):∀k:Nat,(Ae k p).flatten.map f=(Ae k (p.map f)).flatten
 | 0=>rfl|k+1=>by rw[Bb,B8,Bd,aBH f p k,Bb,B8]
theorem aHs{ds:List D}(L:k<=8)(I:ds.length*k<=lim):∃B,opD .Mult ⟨.lst ds,f,b,[]⟩ (.cl (.int (k:Int)))=.ok ⟨.lst (Ae k ds).flatten,true,B,[]⟩:=by
 have hs:aH (k:Int)=true:=gJ (by omega);have e:aBZ ⟨.lst ds,f,b,[]⟩ (.cl (.int (k:Int)))=R.iff (aH (k:Int)&&decide (ds.length*(k:Int).toNat<=lim)) (R.ok ⟨.lst (Ae (k:Int).toNat ds).flatten,true,b&&!noLs ds,if noLs ds=true then [] else []⟩):=by unfold aBZ;rfl
 have G:opD .Mult ⟨.lst ds,f,b,[]⟩ (.cl (.int (k:Int)))=aBZ ⟨.lst ds,f,b,[]⟩ (.cl (.int (k:Int))):=by unfold opD;rfl
 refine⟨b&&!noLs ds,?_⟩;rw[G,e,hs,Bt,Ao I,show(if noLs ds=true then ([]:List Nat) else [])=[] by split <;> rfl];rfl
theorem aHt{α:Type}{x:α}{p:List α}{k:Nat}(h:x∈(Ae k p).flatten):x∈p:=by obtain⟨q,B,G⟩:=List.mem_flatten.mp h;rwa [(List.mem_replicate.mp B).2] at G
theorem aBI{α:Type}(p:List α):∀k:Nat,(Ae k p).flatten.length=k*p.length
 | 0=>by simp|k+1=>by rw[Bb,B8,lA,aBI p k,Hz];omega
variable {bs:List (Str×Int)}
def CD(N:Nat)(bs:List (Str×Int))(l:Nat):Prop:=∀d,Ok bs.length l d->∀r,Rok bs r->∃fr,call pg N 25 [.lst (aB bs),d.d,.err 2 [rD r]]=.ok (rD (gN bs d r),fr,false)
def CP(N:Nat)(bs:List (Str×Int))(l:Nat):Prop:=∀p:List Dd,p.length<=100->(∀d∈p,Ok bs.length l d)->∀r,Rok bs r->call pg N 24 [.lst (aB bs),prD p,.err 2 [rD r]]=.ok (rD (comP bs p r),false,false)
abbrev aPK:Ss:=match hdS (drp 1 f24.body) with|.for _ _ b=>b|_=>.nil
theorem aBJ{p:List Dd}(B:∀d∈p,Ok bs.length l d)(i:Nat):∀d∈p.take i,Ok bs.length l d:=λd hd=>B d (Bw hd)
theorem aAx(B:Bs bs)(h:CD N bs l):CP (N+1) bs l:=λp hl M r hr=>by
 let G:Rs->Sl->Sg:=λr s=>[.sh true (.lst (aB bs)),.sh true (prD p),.sh false (rD r),s]
 obtain⟨Z',L,s,I⟩:=eC (P:=pg) (W:=call pg N) (Z:=G r .dead) (t:=.n 3) (b:=aPK) (λi Z=>∃s,Z=G (comP bs (p.take i) r) s) (lP (ts:=p) (f:=Dd.d) (a:=.v 1) (fr:=false) rfl) ⟨.dead,by rw[Du,comP];rfl⟩ λi hi Z ⟨s,e⟩=>by rw[lM] at hi;subst e;rw[BJ];obtain⟨fr,U⟩:=h p[i] (M _ (AO hi)) (comP bs (p.take i) r) (fD (dU B l) _ (aBJ M i) r hr);refine⟨G (comP bs (p.take i) r) (sd p[i].d),G (comP bs (p.take (i+1)) r) (sd p[i].d),rfl,?_,sd p[i].d,rfl⟩;refine cs (dM (oK (x:=⟨.lst (aB bs),false,true,[]⟩) (y:=pv p[i].d) (fr':=false) rfl (eU 3 _) (aV 2 _) rfl U)) ?_;rw[dS hi,lQ,yO];rfl
 subst I;rw[lM,AF] at L;exact aN (F:=f24) (v:=.cl (rD (comP bs p r))) rfl rfl (cs (Z':=G r .dead) rfl (cs L rfl))
abbrev aPL:Ss:=match hdS (drp 3 f25.body) with|.iff _ (.cons (.for _ _ b) _) _=>b|_=>.nil
theorem aAy(B:Bs bs)(h:∀l',l=l'+1->CP (n+32) bs l'):CD (n+33) bs l:=λd o r I=>by
 cases d with
 | put ps=>have M:=aFn o;rw[qX];exact⟨true,aBG n B (rB ps) (λn=>aCS n ps) (yR ps) (vQ M) (w:= "put") (by rw[lK];rfl) (by decide +kernel) (by decide +kernel) I⟩|wait g ps=>obtain⟨M,h2,h3⟩:=aAv o;rw[nA];exact⟨true,aBG n B (nC g ps) (λn=>aAw n g ps) (tH g ps) (qZ M h2 h3) (w:= "wait") (by rw[gM];rfl) (by decide +kernel) (by decide +kernel) I⟩|cho q=>
  cases l with
  | zero=>exact o.elim|succ l=>
   have o:2<=q.length/\q.length<=4/\∀p∈q,p.length<=4/\∀d∈p,Ok bs.length l d:=o;have U:=h l rfl;refine⟨true,?_⟩;rw[qY,qT]
   let G:Sl->Sl->Sg:=λs3 s4=>[.sh true (.lst (aB bs)),.sh true (.tup [.str "choose",.lst (q.map prD)]),.sh false (rD r),s3,s4,.dead]
   have v1:∀s3 s4,ev pg (call pg (n+32)) (G s3 s4) (.idx (.v 1) (.c (.int 1)))=.ok ⟨.lst (q.map prD),false,true,[]⟩:=λ_ _=>aY rfl rfl rfl;obtain⟨Z',ef,s,q1⟩:=eC (P:=pg) (W:=call pg (n+32)) (Z:=G (.own false []) .dead) (t:=.n 4) (b:=aPL) (λi Z=>∃s,Z=G (.own false ((comQ bs (q.take i) r).map aE)) s) (lP (ts:=q) (f:=prD) (v1 _ _)) ⟨.dead,by rw[Du,comQ];rfl⟩ λi hi Z ⟨s,e⟩=>by
    rw[lM] at hi;subst e;rw[BJ];have q0:=o.2.2 q[i] (AO hi);have L:=U q[i] (by omega) q0.2 r I;have hk:=(lR (dU B l) B I (q.take (i+1)) λp hp=>(o.2.2 p (Bw hp)).2).2;have q3:(q.take (i+1)).length<=4:=by rw[Bl];omega
    refine⟨G (.own false ((comQ bs (q.take i) r).map aE)) (sd (prD q[i])),G (.own false ((comQ bs (q.take (i+1)) r).map aE)) (sd (prD q[i])),rfl,cs (aKS (oK (x:=⟨.lst (aB bs),false,true,[]⟩) (y:=pv (prD q[i])) (fr':=false) rfl (eU 4 (prD q[i])) (aV 2 _) rfl L) (rA _) rfl (by rw[lM];unfold lim;omega) ?_) rfl,_,rfl⟩;rw[dS hi,nB,Bd]
   subst q1;rw[lM,AF] at ef;have hQ:=lR (dU B l) B I q λp hp=>(o.2.2 p hp).2;refine aN (F:=f25) (v:=⟨rD (ssT (comQ bs q r)),true,false,[]⟩) rfl rfl (cs (Z':=G .dead .dead) rfl (cs (dJ (aX (aY rfl rfl rfl) (by decide +kernel:(("choose" : Str) == "loop")=false))) (cs (Z':=G (.own false []) .dead) rfl (cs (Z':=G (.own false (((comQ bs q r).map some).map stD)) s) (aHk (aX (aY rfl rfl rfl) (by decide +kernel:(("choose" : Str) == "choose")=true)) (cs ef (by rw[AJ];rfl))) (aBF B ?_ ?_ hQ.1)))));rw[lM];have:=hQ.2;omega;rw[EN];exact List.filterMap_some
 | lp k p=>
  cases l with
  | zero=>exact o.elim|succ l=>have o:k<=8/\p.length<=4/\∀d∈p,Ok bs.length l d:=o;have q2:k*p.length<=8*4:=Jq o.1 o.2.1;have L:=h l rfl (Ae k p).flatten (by rw[aBI];omega) (λd hd=>o.2.2 d (aHt hd)) r I;rw[yP,prD,aBH] at L;refine⟨false,?_⟩;rw[vO,aCL];obtain⟨b',hm⟩:=aHs (ds:=p.map Dd.d) (k:=k) (f:=false) (b:=true) o.1 (by rw[lM,D3];unfold lim;omega);refine aN (F:=f25) (v:=.cl (rD (Dv (comP bs p) k r))) rfl rfl (cs (Z':=[.sh true (.lst (aB bs)),.sh true (.tup [.str "loop",.int k,prD p]),.sh false (rD r),.dead,.dead,.dead]) rfl (gR (aX (aY rfl rfl rfl) (by decide +kernel:(("loop" : Str) == "loop")=true)) (cV (oK (x:=⟨.lst (aB bs),false,true,[]⟩) (fr':=false) rfl (qG (x:=⟨prD p,false,true,[]⟩) (y:=.cl (.int (k:Int))) (aY rfl rfl rfl) (aY rfl rfl rfl) hm) (aV 2 _) rfl L))))
theorem aNW(n:Nat)(B:Bs bs):CP (n+38) bs 2:=by
 have G:CD (n+33) bs 0:=aAy B λl' e=>by cases e
 have M:CP (n+34) bs 0:=aAx B G;have I:CD (n+35) bs 1:=aAy (n:=n+2) B λl' e=>by cases e;exact M
 have U:CP (n+36) bs 1:=aAx B I;have L:CD (n+37) bs 2:=aAy (n:=n+4) B λl' e=>by cases e;exact U
 exact aAx B L
theorem aKU(n m:Nat):aCM (n+6) m 2:=by
 have B:aFl (n+1) m 0:=qV λl' e=>by cases e
 have L:aCM (n+2) m 0:=qU B;have G:aFl (n+3) m 1:=qV λl' e=>by cases e;exact L
 have M:aCM (n+4) m 1:=qU G;have I:aFl (n+5) m 2:=qV λl' e=>by cases e;exact M
 exact qU I
theorem aCT(n:Nat)(B:Bs bs){p:List Dd}(W:p.length<=4)(G:∀d∈p,Ok bs.length 2 d)(I:cntP p<=8)(hs:St bs st):call pg (n+39) 23 [.lst (aB bs),prD p,aE st]=.ok (rD (comP bs p [st]),false,false):=by have h:=aNW n B p (by omega) G [st] ⟨Cf _ _,λx M=>by rw[Ap.mp M];exact hs⟩;have L:=aCP (aKU (n+31) bs.length) (p:=p) (by omega) G I;refine aN (F:=f23) (v:=.cl (rD (comP bs p [st]))) rfl rfl (cs (aPJ (fC (x:=⟨prD p,false,true,[]⟩) rfl L)) (cV (oK (x:=⟨.lst (aB bs),false,true,[]⟩) (y:=⟨prD p,false,true,[]⟩) (fr':=true) rfl rfl ?_ rfl h)));have U:ev pg (call pg (n+38)) [.sh true (.lst (aB bs)),.sh true (prD p),.sh true (aE st)] (.v 2)=.ok (.cl (aE st)):=bE 2 true (aP st);show ev pg (call pg (n+38)) [.sh true (.lst (aB bs)),.sh true (prD p),.sh true (aE st)] _=_;rw[jX,aF,U];rfl
theorem aBK:x∈putKs ks k↔x∈ks\/x=k:=by unfold putKs;split;rename_i h;exact⟨.inl,λz=>z.elim id λe=>e▸h⟩;rw[AY,Ap]
theorem aFo{ks:Rs}(h:ks.Nodup):(putKs ks k).Nodup:=by unfold putKs;split;exact h;rename_i c;exact Fl.mpr ⟨h,AZ.mpr ⟨BI,BM⟩,λa B b G z=>c (by rw[Ap.mp G] at z;rwa [z] at B)⟩
theorem lT:∀{js ks:Rs},x∈js.foldl putKs ks↔x∈ks\/x∈js
 | [],ks=>by simp|j::js,ks=>by rw[Bm,lT (js:=js),aBK,As,or_assoc]
theorem oM:∀{js ks:Rs},ks.Nodup->(js.foldl putKs ks).Nodup
 | [],_,h=>h|j::js,_,h=>oM (js:=js) (aFo h)
abbrev prT(k:List Int):D:=.tup [aE k,.bl true]
theorem rC:∀r:Rs,cP (r.map prT)=some r
 | []=>rfl|k::r=>by rw[mC,prT,cP,vS,rC r]
section
variable {P:Pg} {W:Caller} {Z:Sg}
theorem aKV{ks:Rs}(h:ev P W Z e=.ok ⟨.lst (ks.map prT),true,pa,al⟩)(l:ks.length<=1000):ex P W Z (.dset i e)=.next (Z.set i (.dct (ks.foldl putKs []))):=by
 show O.from Z (ev P W Z e) (λv=>match v.fr,v.d with
  | true,.lst ds=>(match cP ds with
   | some ks=>if ks.length<=1000 then O.next (Z.set i (.dct (ks.foldl putKs []))) else .bad|none=>.bad)
  | _,_=>.bad)=_
 rw[h,aG];show(match cP (ks.map prT) with
  | some ks=>if ks.length<=1000 then O.next (Z.set i (.dct (ks.foldl putKs []))) else .bad|none=>.bad)=_
 rw[rC];exact if_pos l
theorem aKW{js ks:Rs}(h:ev P W Z e=.ok ⟨.lst (ks.map prT),true,pa,al⟩)(hi:Z[i]? = some (.dct js))(l:js.length<=1000)(B:ks.length<=1000)(o:jO (ks.foldl putKs [])=true):ex P W Z (.dupd i e)=.next (Z.set i (.dct ((ks.foldl putKs []).foldl putKs js))):=by
 show O.from Z (ev P W Z e) (λv=>match v.fr,v.d with
  | true,.lst ds=>(match gX Z i,cP ds with
   | some js,some ks=>if js.length<=1000/\ks.length<=1000/\jO (ks.foldl putKs [])=true then O.next (Z.set i (.dct ((ks.foldl putKs []).foldl putKs js))) else .bad|_,_=>.bad)
  | _,_=>.bad)=_
 rw[h,aG];show(match gX Z i,cP (ks.map prT) with
  | some js,some ks=>if js.length<=1000/\ks.length<=1000/\jO (ks.foldl putKs [])=true then O.next (Z.set i (.dct ((ks.foldl putKs []).foldl putKs js))) else .bad|_,_=>.bad)=_
 unfold gX;rw[rC,hi];exact if_pos ⟨l,B,o⟩
theorem aKX{js:Rs}(h:ev P W Z e=.ok (.cl (aE k)))(hi:Z[i]? = some (.dct js))(l:js.length<=1000):ex P W Z (.dput i e (.c (.bl true)))=.next (Z.set i (.dct (putKs js k))):=by
 show O.from Z (R.ok (Vl.cl (.bl true))) (λv=>O.from Z (ev P W Z e) λx=>match v.d,gX Z i,nF x.d with
  | .bl true,some ks,some k=>if ks.length<=1000 then O.next (Z.set i (.dct (putKs ks k))) else .bad|_,_,_=>.bad)=_
 rw[aG,h,aG,cH,cH,vS];unfold gX;rw[hi];exact if_pos l
theorem aNX{ks:Rs}(hi:Z[i]? = some (.dct ks))(n:neK ks=true)(l:ks.length<=60):ev P W Z (.srtD i)=.ok ⟨rD (ssT ks),true,false,[]⟩:=by
 show(match gX Z i with
  | some ks=>R.iff (neK ks&&decide (ks.length<=60)) (R.ok (⟨.lst ((ssT ks).map rG),true,false,[]⟩:Vl))|none=>.bad)=_
 unfold gX;rw[hi];show R.iff (neK ks&&decide (ks.length<=60)) _=_;rw[n,Ao l];rfl
theorem aBL{r:Rs}(h:walk P W Z it=.ok (r.map (λk=>Vl.cl (aE k)),al))(l:r.length<=1000):ev P W Z (.comp 1 [] (.n 0) it .nil (.tup (.cons (.v 0) (.cons (.c (.bl true)) .nil))))=.ok ⟨.lst (r.map prT),true,false,[]⟩:=
 aAn (λk=>Vl.cl (aE k)) prT (λk=>vC (aP k) rfl) h (by unfold lim;omega) λk _=>⟨[.sh false (aE k)],by rw[eE,bS];rfl,aKO (aV 0 _) rfl⟩
theorem aHu{e:E}{k:Nat}(h:ev P W Z e=.ok (.cl (.int (k:Int))))(B:k<=100):walk P W Z (.rng (.c (.int 0)) e)=.ok ((A9 k).map λ(j:Nat)=>Vl.cl (.int (j:Int)),[]):=by have hs:=gJ (n:=k) (by omega);simp only[pX,eB,h,aC,cH,uX,hs,DG,xY,qB]
end
theorem aAz(h:tst P W Z c=.ok false)(r:exs P W Z b=.next Z'):ex P W Z (.iff c a b)=.next Z':=by rw[aW,h,aG,if_neg bN,r]
def Has(r:Rs)(s:Sl):Prop:=(∃b,s=.sh b (rD r))\/s=.own false (r.map aE)
theorem lU(h:Has r s)(i:Nat):∃b al,Sl.val i s=.ok ⟨rD r,false,b,al⟩/\(al=[]\/al=[i]):=by rcases h with⟨b,rfl⟩|rfl;exact⟨_,[],rfl,.inl rfl⟩;exact⟨_,[i],rfl,.inr rfl⟩
theorem aFp{P:Pg}{W:Caller}{Z:Sg}{i f:Nat}{a b c:E}{x y z:Vl}{B:Rs}{fr:Bool}(I:ev P W Z a=.ok x)(L:ev P W Z b=.ok y)(M:ev P W Z c=.ok z)(hx:x.al=[])(hy:y.al=[])(hz:z.al=[]\/z.al=[i])(U:W f [x.d,y.d,z.d]=.ok (rD B,fr,!fr)) :
 ∃s,Has B s/\ex P W Z (.set (.n i) (.call f (.cons a (.cons b (.cons c .nil)))))=.next (Z.set i s):=by
 have e:evs P W Z (.cons a (.cons b (.cons c .nil)))=.ok [x,y,z]:=by rw[aF,I,aC,aF,L,aC,aF,M,aC,bD];rfl
 have G:ev P W Z (.call f (.cons a (.cons b (.cons c .nil))))=.ok (cS [x,y,z] (rD B,fr,!fr)):=by rw[eJ,e,aC,show [x,y,z].map (·.d)=[x.d,y.d,z.d] from rfl,U];rfl
 rw[eS,G,aG];cases fr with
 | true=>exact⟨.own false (B.map aE),.inr rfl,rfl⟩|false=>
  refine⟨.sh (aU [x,y,z]) (rD B),.inl ⟨_,rfl⟩,?_⟩;show O.next ((freeze Z (bR [x,y,z])).set i _)=_;have hu:bR [x,y,z]=z.al:=by simp[bR,hx,hy]
  rw[hu];rcases hz with hz|hz;rw[hz];rfl;rw[hz];show O.next (Ky (match Z[i]? with|some s=>Z.set i s.freeze|none=>Z) i _)=_;split;rw[List.set_set];rfl;rfl
variable {bs:List (Str×Int)}
def LC(N:Nat)(bs:List (Str×Int))(l:Nat):Prop:=∀p:List Dd,p.length<=100->(∀d∈p,Ok bs.length l d)->∀r,Rok bs r->∃fr,call pg N 26 [.lst (aB bs),prD p,rD r]=.ok (rD (comP bs p r),fr,!fr)
abbrev lc(bs:List (Str×Int))(s1 s2 s3 s4 s5 s6 s7 s8 s9:Sl):Sg:=[.sh true (.lst (aB bs)),s1,s2,s3,s4,s5,s6,s7,s8,s9]
abbrev lwB:Ss:=match hdS f26.body with|.for _ _ b=>b|_=>.nil
abbrev bxV(bs:List (Str×Int)):Vl:=⟨.lst (aB bs),false,true,[]⟩
structure Dk (bs:List (Str×Int)) (ks t:Rs):Prop where
 nd:ks.Nodup
 mem:∀x,x∈ks↔x∈t
theorem Dk.nil:Dk bs [] []:=⟨BM,λ_=>Iff.rfl⟩
theorem Dk.st(K:Dk bs ks t)(h:∀x∈t,St bs x):∀x∈ks,St bs x:=λx B=>h x ((K.mem x).mp B)
abbrev lcI:S:=hdS (drp 1 lwB)
theorem vU(B:Bs bs){d:Dd}(h:ex pg (call pg n) (lc bs s1 s2 (sd d.d) (.dct []) s5 s6 s7 s8 s9) lcI=.next (lc bs s1 s2' (sd d.d) (.dct ks) s5' s6' s7' s8' s9'))(K:Dk bs ks t)(G:∀x∈t,St bs x)(e:ssT t=gN bs d r) :
 exs pg (call pg n) (lc bs s1 s2 (sd d.d) s4 s5 s6 s7 s8 s9) lwB=.next (lc bs s1 (.own false ((gN bs d r).map aE)) (sd d.d) (.dct ks) s5' s6' s7' s8' s9'):=by have hs:=aNX (P:=pg) (W:=call pg n) (Z:=lc bs s1 s2' (sd d.d) (.dct ks) s5' s6' s7' s8' s9') (i:=4) rfl (B.ne (K.st G)) (AI (B.len K.nd (K.st G)) (by decide));rw[aHq K.mem,e] at hs;exact cs rfl (cs h (cs (vJ hs) rfl))
theorem yS{d:Dd}(G:bH (pv d.d) (.cl (.int 0))=.ok (.cl (.str w)))(B:(w==x)=b):tst pg (call pg n) (lc bs s1 s2 (sd d.d) s4 s5 s6 s7 s8 s9) (.cmp .Eq (.idx (.v 3) (.c (.int 0))) (.c (.str x)))=.ok b:=aX (aY (eU 3 d.d) rfl G) B
theorem aNY(B:Bs bs)(h:LC n bs l){p:List Dd}(o:k<=8/\p.length<=4/\∀d∈p,Ok bs.length l d)(hr:Rok bs r)(h2:Has r s2) :
 ∃q0 G,exs pg (call pg n) (lc bs s1 s2 (sd (Dd.lp k p).d) s4 s5 s6 s7 s8 s9) lwB=.next (lc bs s1 (.own false ((gN bs (.lp k p) r).map aE)) (sd (Dd.lp k p).d) q0 G s6 s7 s8 s9):=by
 have hd:sd (Dd.lp k p).d=sd (.tup [.str "loop",.int k,prD p]):=by rw[aCL]
 have ix:∀s2 s4 s5,ev pg (call pg n) (lc bs s1 s2 (sd (Dd.lp k p).d) s4 s5 s6 s7 s8 s9) (.idx (.v 3) (.c (.int 1)))=.ok (.cl (.int (k:Int)))/\ev pg (call pg n) (lc bs s1 s2 (sd (Dd.lp k p).d) s4 s5 s6 s7 s8 s9) (.idx (.v 3) (.c (.int 2)))=.ok ⟨prD p,false,true,[]⟩:=λs2 s4 s5=>by rw[hd];exact⟨aY (eU 3 (.tup [.str "loop",.int k,prD p])) rfl rfl,aY (eU 3 (.tup [.str "loop",.int k,prD p])) rfl rfl⟩
 have hK:=fD (dU B l) p o.2.2;obtain⟨Z',ef,U,G,hs,M⟩:=eC (P:=pg) (W:=call pg n) (Z:=lc bs s1 s2 (sd (Dd.lp k p).d) (.dct []) s5 s6 s7 s8 s9) (t:=.n 5) (b:=.cons (.set (.n 2) (.call 26 (.cons (.v 0) (.cons (.idx (.v 3) (.c (.int 2))) (.cons (.v 2) .nil))))) .nil) (λi Z=>∃s2 s5,Has (Dv (comP bs p) i r) s2/\Z=lc bs s1 s2 (sd (Dd.lp k p).d) (.dct []) s5 s6 s7 s8 s9) (aHu (ix _ _ _).1 (by omega)) ⟨s2,s5,h2,rfl⟩ λi hi Z ⟨s2,s5,hh,e⟩=>by subst e;obtain⟨b,al,L,I⟩:=lU hh 2;obtain⟨fr,hc⟩:=h p (by omega) o.2.2 (Dv (comP bs p) i r) (vR hK hr i);rw[BJ];obtain⟨s,hs,he⟩:=aFp (P:=pg) (W:=call pg n) (Z:=lc bs s1 s2 (sd (Dd.lp k p).d) (.dct []) ((Vl.cl (.int (((A9 k)[i]'(by simpa using hi):Nat):Int))).slot) s6 s7 s8 s9) (i:=2) (f:=26) (a:=.v 0) (b:=.idx (.v 3) (.c (.int 2))) (c:=.v 2) (x:=bxV bs) rfl (ix _ _ _).2 L rfl rfl I hc;exact⟨_,_,rfl,cs he rfl,s,_,hs,rfl⟩
 subst M;rw[lM,Ce] at hs;have hok:=vR hK hr k;obtain⟨b,al,L,I⟩:=lU hs 2;have hp:=aBL (P:=pg) (W:=call pg n) (Z:=lc bs s1 U (sd (Dd.lp k p).d) (.dct []) G s6 s7 s8 s9) (it:=.seq (.v 2)) (jZ aP (ts:=Dv (comP bs p) k r) L) (by have:=B.len hok.nd hok.st;omega);refine⟨_,G,vU B (aHk (yS (w:= "loop") (by rw[aCL];rfl) (by decide +kernel)) (cs ef (cs (aKV hp (by have:=B.len hok.nd hok.st;omega)) rfl))) (t:=Dv (comP bs p) k r) ⟨oM BM,λx=>by rw[lT];exact⟨λz=>z.elim (λq=>(BI q).elim) id,.inr⟩⟩ hok.st (by rw[aFm hok,vO])⟩
theorem aKY(B:Bs bs)(h:LC n bs l){q:List (List Dd)}(o:2<=q.length/\q.length<=4/\∀p∈q,p.length<=4/\∀d∈p,Ok bs.length l d)(hr:Rok bs r)(h2:Has r s2) :
 ∃q2 L,exs pg (call pg n) (lc bs s1 s2 (sd (Dd.cho q).d) s4 s5 s6 s7 s8 s9) lwB=.next (lc bs s1 (.own false ((gN bs (.cho q) r).map aE)) (sd (Dd.cho q).d) q2 s5 L s7 s8 s9):=by
 have hd:sd (Dd.cho q).d=sd (.tup [.str "choose",.lst (q.map prD)]):=by rw[qT]
 have ix:∀s4 s6,ev pg (call pg n) (lc bs s1 s2 (sd (Dd.cho q).d) s4 s5 s6 s7 s8 s9) (.idx (.v 3) (.c (.int 1)))=.ok ⟨.lst (q.map prD),false,true,[]⟩:=λs4 s6=>by rw[hd];exact aY (eU 3 (.tup [.str "choose",.lst (q.map prD)])) rfl rfl
 obtain⟨b,al,hv,q3⟩:=lU h2 2;have hQ:=λi=>lR (dU B l) B hr (q.take i) λp U=>(o.2.2 p (Bw U)).2;obtain⟨Z',ef,ks,L,G,q0⟩:=eC (P:=pg) (W:=call pg n) (Z:=lc bs s1 s2 (sd (Dd.cho q).d) (.dct []) s5 s6 s7 s8 s9) (t:=.n 6) (b:=.cons (.dupd 4 (.comp 1 [] (.n 0) (.seq (.call 26 (.cons (.v 0) (.cons (.v 6) (.cons (.v 2) .nil))))) .nil (.tup (.cons (.v 0) (.cons (.c (.bl true)) .nil))))) .nil) (λi Z=>∃ks s6,Dk bs ks (comQ bs (q.take i) r)/\Z=lc bs s1 s2 (sd (Dd.cho q).d) (.dct ks) s5 s6 s7 s8 s9) (lP (ts:=q) (f:=prD) (ix _ _)) ⟨[],s6,by rw[Du,comQ];exact Dk.nil,rfl⟩ λi hi Z ⟨ks,s6,G,e⟩=>by
  rw[lM] at hi;subst e;rw[BJ];have oq:=o.2.2 q[i] (AO hi);obtain⟨fr,hc⟩:=h q[i] (by omega) oq.2 r hr;have hok:=fD (dU B l) q[i] oq.2 r hr;have hl:=B.len hok.nd hok.st;have q4:=B.len G.nd (G.st (hQ i).1);have v6:ev pg (call pg n) (lc bs s1 s2 (sd (Dd.cho q).d) (.dct ks) s5 (sd (prD q[i])) s7 s8 s9) (.v 6)=.ok (pv (prD q[i])):=eU 6 (prD q[i]);have ec:ev pg (call pg n) (lc bs s1 s2 (sd (Dd.cho q).d) (.dct ks) s5 (sd (prD q[i])) s7 s8 s9) (.call 26 (.cons (.v 0) (.cons (.v 6) (.cons (.v 2) .nil))))=.ok (cS [bxV bs,pv (prD q[i]),⟨rD r,false,b,al⟩] (rD (comP bs q[i] r),fr,!fr)):=by rw[eJ,aF,show ev pg (call pg n) (lc bs s1 s2 (sd (Dd.cho q).d) (.dct ks) s5 (sd (prD q[i])) s7 s8 s9) (.v 0)=.ok (bxV bs) from rfl,aC,aF,v6,aC,aF,show ev pg (call pg n) (lc bs s1 s2 (sd (Dd.cho q).d) (.dct ks) s5 (sd (prD q[i])) s7 s8 s9) (.v 2)=_ from hv,aC,bD];show(call pg n 26 [.lst (aB bs),prD q[i],rD r] >>= λx=>R.ok (cS _ x))=_;rw[hc];rfl
  have I:∃fr' pa' M,cS [bxV bs,pv (prD q[i]),⟨rD r,false,b,al⟩] (rD (comP bs q[i] r),fr,!fr)=⟨rD (comP bs q[i] r),fr',pa',M⟩:=by cases fr <;> exact⟨_,_,_,rfl⟩
  obtain⟨fr',pa',M,I⟩:=I;rw[I] at ec;have U:=aBL (jZ aP (ts:=comP bs q[i] r) ec) (by omega);have q1:((comP bs q[i] r).foldl putKs []).Nodup:=oM BM;have m0:∀x,x∈(comP bs q[i] r).foldl putKs []↔x∈comP bs q[i] r:=λx=>by rw[lT];exact⟨λz=>z.elim (λq=>(BI q).elim) id,.inr⟩
  refine⟨lc bs s1 s2 (sd (Dd.cho q).d) (.dct ks) s5 (sd (prD q[i])) s7 s8 s9,_,rfl,cs (aKW U (js:=ks) rfl (by omega) (by omega) (B.ok q1 λx hx=>hok.st x ((m0 x).mp hx))) rfl,_,sd (prD q[i]),⟨oM G.nd,λx=>?_⟩,rfl⟩;rw[lT,m0,G.mem,dS hi,nB,AY]
 subst q0;rw[lM] at G;have hq:=hQ q.length;rw[AF] at G hq;refine⟨_,L,vU B (s4:=s4) (aAz (yS (w:= "choose") (by rw[qT];rfl) (by decide +kernel)) (cs (aHk (yS (w:= "choose") (by rw[qT];rfl) (by decide +kernel)) (cs ef rfl)) rfl)) G hq.1 (by rw[qY])⟩
variable {bs:List (Str×Int)}
abbrev aKZ:E:=.idx (.lst (.cons (.tup (.cons (.c (.str "yes")) .nil)) (.cons (.idx (.v 3) (.c (.int 1))) .nil))) (.bi .int (.cons (.cmp .Eq (.idx (.v 3) (.c (.int 0))) (.c (.str "wait"))) .nil))
theorem tJ{α B:Type}(f:α->Option B)(l:List α)(x:α):(l++[x]).filterMap f=l.filterMap f++(f x).toList:=by rw[Ge,Cj];cases f x <;> rfl
theorem aFq(B:Bs bs){d:Dd}{g:Cn}(nd:noL d.d=true)(hg:∀s1 s2 s4 s5 s6 s7 s8 s9,ev pg (call pg (n+32)) (lc bs s1 s2 (sd d.d) s4 s5 s6 s7 s8 s9) aKZ=.ok (.cl g.d))(hl:bH (.cl d.d) (.cl (.int (-1)))=.ok (.cl (dN ps)))(o:lJ bs.length (wy g ps))(hw:bH (.cl d.d) (.cl (.int 0))=.ok (.cl (.str w)))(w1:(w==("loop" : Str))=false)(w2:(w==("choose" : Str))=false){r:Rs}(hr:Rok bs r)(hd:gN bs d r=ssT (r.filterMap (gW bs (wy g ps))))(h2:Has r s2) :
 ∃q3 q4 U q0,exs pg (call pg (n+32)) (lc bs s1 s2 (sd d.d) s4 s5 s6 s7 s8 s9) lwB=.next (lc bs s1 (.own false ((gN bs d r).map aE)) (sd d.d) q3 s5 s6 q4 U q0):=by
 have I:pv d.d=.cl d.d:=by unfold pv;rw[nd];rfl
 obtain⟨b,al,hv,q1⟩:=lU h2 2;have hb:=B.m4
 let τ:Sl->Rs->Sl->Sl->Sg:=λs2 ks s8 s9=>lc bs s1 s2 (sd d.d) (.dct ks) s5 s6 (.sh false g.d) s8 s9
 have hS:=λi=>vP o (r:=r.take i) λx hx=>hr.st x (Bw hx);obtain⟨Z',ef,ks,q5,U,q0,G,q2⟩:=eC (P:=pg) (W:=call pg (n+32)) (Z:=τ s2 [] s8 s9) (t:=.n 8) (it:=.seq (.v 2)) (b:=.cons (.set (.n 9) (.call 11 (.cons (.v 0) (.cons (.tup (.cons (.v 7) (.cons (.idx (.v 3) (.neg (.c (.int 1)))) (.cons (.c (.int 0)) .nil)))) (.cons (.v 8) .nil))))) (.cons (.iff (.cmp .IsNot (.v 9) (.c .non)) (.cons (.dput 4 (.v 9) (.c (.bl true))) .nil) .nil) .nil)) (λi Z=>∃ks s2 s8 s9,Dk bs ks ((r.take i).filterMap (gW bs (wy g ps)))/\Z=τ s2 ks s8 s9) (jZ aP (ts:=r) hv) (by
  rcases q1 with rfl|rfl;exact⟨[],s2,s8,s9,Dk.nil,rfl⟩;exact⟨[],s2.freeze,s8,s9,Dk.nil,rfl⟩) λi hi Z ⟨ks,s2,s8,s9,G,e⟩=>by
  rw[lM] at hi;subst e;rw[BJ];have M:=hr.st r[i] (AO hi);have hc:=yH n M.1 hb o;rw[aFb M.1 M.2 o] at hc;have v3:ev pg (call pg (n+32)) (τ s2 ks (.sh false (aE r[i])) s9) (.v 3)=.ok (.cl d.d):=by rw[<-I];exact eU 3 d.d
  have e9:=dM (P:=pg) (W:=call pg (n+32)) (Z:=τ s2 ks (.sh false (aE r[i])) s9) (i:=9) (cW (x:=bxV bs) (a:=.v 0) (c:=.v 8) rfl (aFg (a:=.v 7) (c:=.c (.int 0)) (aV 7 g.d) (aY (b:=.neg (.c (.int 1))) v3 rfl hl) rfl) (aV 8 (aE r[i])) hc);have hk:=B.len G.nd (G.st (hS i));refine⟨τ s2 ks (.sh false (aE r[i])) s9,?_⟩;cases L:gW bs (wy g ps) r[i] with
  | none=>rw[L] at e9;refine⟨τ s2 ks (.sh false (aE r[i])) (.sh false .non),by rw[eE,bS];rfl,cs e9 (cs (dJ rfl) rfl),ks,s2,_,_,?_,rfl⟩;rw[dS hi,tJ,L];simpa using G|some x=>rw[L] at e9;refine⟨τ s2 (putKs ks x) (.sh false (aE r[i])) (.sh false (aE x)),by rw[eE,bS];rfl,cs e9 (cs (aHk rfl (cs (aKX (aV 9 (aE x)) rfl (by omega)) rfl)) rfl),putKs ks x,s2,_,_,⟨aFo G.nd,λy=>?_⟩,rfl⟩;rw[aBK,G.mem,dS hi,tJ,L,AY];simp
 subst q2;rw[lM] at G;have L:=hS r.length;rw[AF] at G L;exact⟨_,_,U,q0,vU B (s4:=s4) (aAz (yS (w:=w) (by rw[I];exact hw) w1) (cs (aAz (yS (w:=w) (by rw[I];exact hw) w2) (cs (dM (hg _ _ _ _ _ _ _ _)) (cs ef rfl))) rfl)) G L hd.symm⟩
theorem aHv(ps:List (Nat×Sm))(s1 s2 s4 s5 s6 s7 s8 s9:Sl):ev pg (call pg n) (lc bs s1 s2 (sd (Dd.put ps).d) s4 s5 s6 s7 s8 s9) aKZ=.ok (.cl Cn.yes.d):=by have B:ev pg (call pg n) (lc bs s1 s2 (sd (Dd.put ps).d) s4 s5 s6 s7 s8 s9) (.v 3)=.ok (.cl (Dd.put ps).d):=(eU 3 _).trans (by unfold pv;rw[rB];rfl);rw[lK] at B ⊢;refine aY (x:=⟨.lst [Cn.yes.d,dN ps],true,false,[]⟩) ?_ (yB (aHX (aY B rfl rfl) (by decide +kernel:(("put" : Str) == "wait")=false)) rfl) rfl;rw[jX,aF,show ev pg (call pg n) (lc bs s1 s2 (sd (.tup [.str "put",dN ps])) s4 s5 s6 s7 s8 s9) (.tup (.cons (.c (.str "yes")) .nil))=.ok (.cl Cn.yes.d) from rfl,aC,aF,aY B rfl (fI _ _ _ (qS ps))];rfl
theorem aFr(g:Cn)(ps:List (Nat×Sm))(s1 s2 s4 s5 s6 s7 s8 s9:Sl):ev pg (call pg n) (lc bs s1 s2 (sd (Dd.wait g ps).d) s4 s5 s6 s7 s8 s9) aKZ=.ok (.cl g.d):=by have B:ev pg (call pg n) (lc bs s1 s2 (sd (Dd.wait g ps).d) s4 s5 s6 s7 s8 s9) (.v 3)=.ok (.cl (Dd.wait g ps).d):=(eU 3 _).trans (by unfold pv;rw[nC];rfl);rw[gM] at B ⊢;refine aY (x:=⟨.lst [Cn.yes.d,g.d],true,false,[]⟩) ?_ (yB (aHX (aY B rfl rfl) (by decide +kernel:(("wait" : Str) == "wait")=true)) rfl) ?_;rw[jX,aF,show ev pg (call pg n) (lc bs s1 s2 (sd (.tup [.str "wait",g.d,dN ps])) s4 s5 s6 s7 s8 s9) (.tup (.cons (.c (.str "yes")) .nil))=.ok (.cl Cn.yes.d) from rfl,aC,aF,aY B rfl (fI _ _ _ g.noL)];rfl;show R.ok (Vl.sub _ g.d)=_;unfold Vl.sub;rw[if_pos g.noL]
theorem aHw(B:Bs bs)(h:∀l',l=l'+1->LC (n+32) bs l'){d:Dd}(o:Ok bs.length l d)(I:Rok bs r)(G:Has r s2) :
 ∃L M U W q0 q1,exs pg (call pg (n+32)) (lc bs s1 s2 (sd d.d) s4 s5 s6 s7 s8 s9) lwB=.next (lc bs s1 (.own false ((gN bs d r).map aE)) (sd d.d) L M U W q0 q1):=by
 cases d with
 | put ps=>obtain⟨a,b,c,e,h⟩:=aFq (n:=n) (s1:=s1) (s4:=s4) (s5:=s5) (s6:=s6) (s7:=s7) (s8:=s8) (s9:=s9) B (rB ps) (aHv ps) (yR ps) (vQ (aFn o)) (w:= "put") (by rw[lK];rfl) (by decide +kernel) (by decide +kernel) I (qX ps r) G;exact⟨_,_,_,_,_,_,h⟩|wait g ps=>obtain⟨h1,h3,h4⟩:=aAv o;obtain⟨a,b,c,e,h⟩:=aFq (n:=n) (s1:=s1) (s4:=s4) (s5:=s5) (s6:=s6) (s7:=s7) (s8:=s8) (s9:=s9) B (nC g ps) (aFr g ps) (tH g ps) (qZ h1 h3 h4) (w:= "wait") (by rw[gM];rfl) (by decide +kernel) (by decide +kernel) I (nA g ps r) G;exact⟨_,_,_,_,_,_,h⟩|cho q=>
  cases l with
  | zero=>exact o.elim|succ l=>obtain⟨a,b,h⟩:=aKY B (h l rfl) o I G;exact⟨_,_,_,_,_,_,h⟩
 | lp k p=>
  cases l with
  | zero=>exact o.elim|succ l=>obtain⟨a,b,h⟩:=aNY B (h l rfl) o I G;exact⟨_,_,_,_,_,_,h⟩
theorem aAA(B:Bs bs)(h:∀l',l=l'+1->LC (n+32) bs l'):LC (n+33) bs l:=λp hl hp r hr=>by
 obtain⟨Z',I,s2,U,s4,s5,s6,s7,s8,s9,L,G,M⟩:=eC (P:=pg) (W:=call pg (n+32)) (Z:=lc bs (.sh true (prD p)) (.sh true (rD r)) .dead .dead .dead .dead .dead .dead .dead) (t:=.n 3) (b:=lwB) (λi Z=>∃s2 U s4 s5 s6 s7 s8 s9,(i=0->s2=.sh true (rD r))/\(0<i->s2=.own false ((comP bs (p.take i) r).map aE))/\Z=lc bs (.sh true (prD p)) s2 U s4 s5 s6 s7 s8 s9) (lP (ts:=p) (f:=Dd.d) (a:=.v 1) (fr:=false) rfl) ⟨_,_,_,_,_,_,_,_,λ_=>rfl,λz=>absurd z (AC _),rfl⟩ λi hi Z ⟨s2,U,s4,s5,s6,s7,s8,s9,L,G,e⟩=>by
  rw[lM] at hi;subst e;rw[BJ];have h2:Has (comP bs (p.take i) r) s2:=by by_cases hz:i=0;rw[L hz,hz,Du,comP];exact .inl ⟨true,rfl⟩;exact .inr (G (by omega))
  obtain⟨t4,t5,t6,t7,t8,t9,ht⟩:=aHw (s1:=.sh true (prD p)) (s4:=s4) (s5:=s5) (s6:=s6) (s7:=s7) (s8:=s8) (s9:=s9) B h (hp _ (AO hi)) (fD (dU B l) _ (aBJ hp i) r hr) h2;refine⟨lc bs (.sh true (prD p)) s2 (sd p[i].d) s4 s5 s6 s7 s8 s9,_,rfl,ht,_,_,_,_,_,_,_,_,λz=>absurd z (Nat.succ_ne_zero _),λ_=>?_,rfl⟩;rw[dS hi,lQ,yO]
 subst M;rw[lM] at L G;rw[AF] at G;cases p with
 | nil=>refine⟨false,?_⟩;rw[L rfl] at I;exact aN (F:=f26) (v:=⟨rD (comP bs [] r),false,true,[]⟩) rfl rfl (cs I (by rw[comP];rfl))|cons d p=>refine⟨true,?_⟩;rw[G (EC _)] at I;exact aN (F:=f26) (v:=⟨rD (comP bs (d::p) r),true,false,[]⟩) rfl rfl (cs I rfl)
theorem aLa(n:Nat)(B:Bs bs):LC (n+35) bs 2:=by
 have G:LC (n+33) bs 0:=aAA B λl' e=>by cases e
 have I:LC (n+34) bs 1:=aAA (n:=n+1) B λl' e=>by cases e;exact G
 exact aAA (n:=n+2) B λl' e=>by cases e;exact I
theorem aIc(n:Nat):∀r:Rs,eF (n+2) (r.map aE) (r.map aE)=some true
 | []=>rfl|k::r=>by rw[mC,eF,aIc n r];show(match eqF (n+1+1) (.tup (k.map D.int)) (.tup (k.map D.int)),some true with|some x,some y=>some (x&&y)|_,_=>none)=_;rw[aHa,aBB n k];rfl
theorem aPM(r:Rs):eqD (rD r) (rD r)=some true:=by show(if (r.map aE).length=(r.map aE).length then eqL (eqF 119) (r.map aE) (r.map aE) else some false)=_;rw[if_pos rfl,zG];exact aIc 117 r
section
variable {P:Pg} {W:Caller} {Z:Sg}
theorem aBM{x y:Vl}(B:ev P W Z a=.ok x)(G:ev P W Z b=.ok y)(I:W f [x.d,y.d]=.ok (.bl k,false,false)):tst P W Z (.call f (.cons a (.cons b .nil)))=.ok k:=by
 have e:evs P W Z (.cons a (.cons b .nil))=.ok [x,y]:=by rw[aF,B,aC,aF,G,aC,bD];rfl
 rw[iI,e,aC,show [x,y].map (·.d)=[x.d,y.d] from rfl,I];rfl
theorem aHx{α B:Type}(f:α->B)(xs:List α)(lo hi:Option Int):cut (xs.map f) lo hi=(cut xs lo hi).map f:=by unfold cut;rw[lM,J3,J4]
theorem vV{α:Type}{x:α}{xs:List α}{lo hi:Option Int}(h:x∈cut xs lo hi):x∈xs:=G1 (Bw h)
theorem aBN{α:Type}(xs:List α)(lo hi:Option Int):(cut xs lo hi).length<=xs.length:=by unfold cut;rw[Bl,CT];omega
theorem aFs(r:Rs)(lo hi:Option Int){fr pa:Bool}{al:List Nat}:eG ⟨rD r,fr,pa,al⟩ lo hi=.ok ⟨rD (cut r lo hi),true,false,[]⟩:=by show R.ok (⟨.lst (cut (r.map aE) lo hi),true,pa&&!noLs (r.map aE),if noLs (r.map aE)=true then [] else al⟩:Vl)=_;rw[rA,aHx,if_pos rfl,CI,Jm]
theorem aNZ(r s:Rs)(h:r.length+s.length<=lim):opD .Add ⟨rD r,true,false,[]⟩ ⟨rD s,true,false,[]⟩=.ok ⟨rD (r++s),true,false,[]⟩:=by show R.iff (decide ((r.map aE).length+(s.map aE).length<=lim)) (R.ok (⟨.lst (r.map aE++s.map aE),true,(false&&!noLs (r.map aE))||(false&&!noLs (s.map aE)),(if noLs (r.map aE)=true then [] else [])++(if noLs (s.map aE)=true then [] else [])⟩:Vl))=_;rw[rA,rA,lM,lM,Ao h,<-Bd];rfl
theorem aPN(B:ev P W Z a=.ok x)(G:ev P W Z b=.ok (.cl (.int i)))(s:aH i=true):ev P W Z (.sli a (.cons b .nil) .nil)=eG x (some i) none:=by show(ev P W Z a >>= λx=>evs P W Z (.cons b .nil) >>= λl=>evs P W Z .nil >>= λh=>_)=_;rw[B,aC,aF,G,aC,bD,aC,aC,aC];show R.iff (aH i) _=_;rw[s];rfl
theorem aOa(B:ev P W Z a=.ok x)(G:ev P W Z b=.ok (.cl (.int i)))(s:aH i=true):ev P W Z (.sli a .nil (.cons b .nil))=eG x none (some i):=by rw[aGW,B,aC,G,aC];show R.iff (aH i) _=_;rw[s];rfl
theorem aFt{x y z:Vl}(B:ev P W Z a=.ok x)(G:ev P W Z b=.ok y)(I:ev P W Z c=.ok z)(n:noLs ds=true)(L:W f [x.d,y.d,z.d]=.ok (.lst ds,false,false)):ev P W Z (.callP f (.cons a (.cons b (.cons c .nil))))=.ok ⟨.lst ds,true,false,[]⟩:=by
 have e:evs P W Z (.cons a (.cons b (.cons c .nil)))=.ok [x,y,z]:=by rw[aF,B,aC,aF,G,aC,aF,I,aC,bD];rfl
 show(evs P W Z (.cons a (.cons b (.cons c .nil))) >>= λvs=>W f (vs.map (·.d)) >>= λr=>aFX r)=_;rw[e,aC,show [x,y,z].map (·.d)=[x.d,y.d,z.d] from rfl,L,aC];show R.iff (noLs ds&&true) _=_;rw[n];rfl
end
theorem aFu(n:Nat)(r:Rs)(M:∀x∈r,x.length<=1000):call pg (n+2) 27 [rD r,rD r]=.ok (.bl true,false,false):=by
 refine aN (F:=f27) (v:=.cl (.bl true)) rfl rfl ?_;obtain⟨Z',L,s,B⟩:=eC (P:=pg) (W:=call pg (n+1)) (Z:=[.sh true (rD r),.sh true (rD r),.dead]) (t:=.n 2) (it:=.seq (.v 0)) (b:=.cons (.iff (.orr (.nt (.isi (.v 2) [.tTuple])) (.cmp .NotEq (.comp 1 [] (.n 0) (.seq (.v 2)) (.cons (.nt (.call 13 (.cons (.v 0) .nil))) .nil) (.v 0)) (.lst .nil))) (.cons (.ret (.c (.bl false))) .nil) .nil) .nil) (λi Z=>∃s,Z=[.sh true (rD r),.sh true (rD r),s]) (jZ aP (ts:=r) (gK 0 _)) ⟨.dead,rfl⟩ λi hi Z ⟨s,e⟩=>by
  rw[lM] at hi;subst e;rw[BJ];have I:ev pg (call pg (n+1)) [.sh true (rD r),.sh true (rD r),.sh false (aE r[i])] (.v 2)=.ok (.cl (aE r[i])):=aV 2 _;have U:walk pg (call pg (n+1)) [.sh true (rD r),.sh true (rD r),.sh false (aE r[i])] (.seq (.v 2))=.ok (r[i].map λj=>Vl.cl (.int j),[]):=by rw[iJ,I,aC];show R.ok (items _ (r[i].map D.int),[])=_;rw[jA (λ_=>rfl)]
  have G:=aEO (P:=pg) (W:=call pg (n+1)) (k:=1) (caps:=[]) (T:=.n 0) (c:=.nt (.call 13 (.cons (.v 0) .nil))) (elt:=.v 0) (λj=>Vl.cl (.int j)) D.int (λ_=>false) (λ_=>rfl) U (by have:=M _ (AO hi);unfold lim;omega) λj _=>⟨[.sh false (.int j)],rfl,zV (k:=true) (aHl (P:=pg) (W:=call pg (n+1)) (Z:=[.sh false (.int j)]) (a:=.v 0) (x:=.cl (.int j)) (aV 0 (.int j)) (aFd n j)),aV 0 _⟩
  rw[List.filter_eq_nil_iff.mpr λ_ _=>bN] at G;exact⟨_,_,by rw[eE,bS];rfl,cs (dJ (aHZ (zV (aIa I rfl)) (kQ G (y:=⟨.lst [],true,false,[]⟩) rfl rfl))) rfl,_,rfl⟩
 subst B;exact cs (dJ (aHZ (zV (aIa (v:=⟨rD r,false,true,[]⟩) rfl rfl)) (kQ (x:=⟨rD r,false,true,[]⟩) (y:=⟨rD r,false,true,[]⟩) rfl rfl (aNP (aPM r))))) (cs L rfl)
theorem aOb(n m:Nat):yM (n+3) m 2:=by
 have B:yM (n+1) m 0:=qW λl' e=>by cases e
 have G:yM (n+2) m 1:=qW λl' e=>by cases e;exact B
 exact qW λl' e=>by cases e;exact G
def aAB(p:List Dd)(s:Sl):Prop:=s=.sh false (prD p)\/s=.own false (p.map Dd.d)
theorem yT(h:aAB p s):∃al,Sl.val 3 s=.ok ⟨prD p,false,false,al⟩/\(al=[]\/al=[3]):=by rcases h with rfl|rfl;exact⟨[],rfl,.inl rfl⟩;exact⟨[3],rfl,.inr rfl⟩
theorem aFv{s:Sl}(h:aAB p s):aAB p s.freeze:=by rcases h with rfl|rfl;exact .inl rfl;exact .inl rfl
abbrev la(s0 s1:Sl)(bs:List (Str×Int))(s3 s4 s5 s6 s7 s8:Sl):Sg:=[s0,s1,.sh false (.lst (aB bs)),s3,s4,s5,s6,s7,s8]
abbrev aOc:Ss:=match hdS (drp 5 f28.body) with|.for _ _ b=>b|_=>.nil
theorem aFw{bs:List (Str×Int)}(B:Bs bs){p:List Dd}(hl:p.length<=4)(hp:∀d∈p,Ok bs.length 2 d)(hc:cntP p<=8)(hs:St bs st)(h3:aAB p G) :
 ∃I U q7,aAB p I/\exs pg (call pg 59) (la s0 s1 bs G s4 s5 (.sh false (aE st)) s7 s8) aOc=.next (la s0 s1 bs I s4 s5 (.sh false (aE st)) U q7):=by
 have hr:Rok bs [st]:=⟨Cf _ _,λx hx=>by rw[Ap.mp hx];exact hs⟩
 have hR:=fD (dU B 2) p hp [st] hr;obtain⟨fr,q5⟩:=aLa 24 B p (by omega) hp [st] hr;have q0:=aCT 20 B hl hp hc hs;have q8:=B.m4;have q1:=aFu 57 (comP bs p [st]) λx hx=>by have:=(hR.st x hx).1;omega
 have q4:=B.len hR.nd hR.st;generalize comP bs p [st]=R at hR q5 q0 q1 q4;have v2:∀G s7 s8,ev pg (call pg 59) (la s0 s1 bs G s4 s5 (.sh false (aE st)) s7 s8) (.v 2)=.ok (.cl (.lst (aB bs))):=λ_ _ _=>aV 2 _;have v6:∀G s7 s8,ev pg (call pg 59) (la s0 s1 bs G s4 s5 (.sh false (aE st)) s7 s8) (.v 6)=.ok (.cl (aE st)):=λ_ _ _=>aV 6 _;have b1:∃I U,aAB p I/\Has R U/\ex pg (call pg 59) (la s0 s1 bs G s4 s5 (.sh false (aE st)) s7 s8) (.set (.n 7) (.call 26 (.cons (.v 2) (.cons (.v 3) (.cons (.lst (.cons (.v 6) .nil)) .nil)))))=.next (la s0 s1 bs I s4 s5 (.sh false (aE st)) U s8):=by
  obtain⟨al,W,q3⟩:=yT h3;have e2:ev pg (call pg 59) (la s0 s1 bs G s4 s5 (.sh false (aE st)) s7 s8) (.call 26 (.cons (.v 2) (.cons (.v 3) (.cons (.lst (.cons (.v 6) .nil)) .nil))))=.ok (cS [.cl (.lst (aB bs)),⟨prD p,false,false,al⟩,⟨rD [st],true,false,[]⟩] (rD R,fr,!fr)):=by rw[eJ,aF,v2,aC,aF,show ev pg (call pg 59) (la s0 s1 bs G s4 s5 (.sh false (aE st)) s7 s8) (.v 3)=_ from W,aC,aF,jX,aF,v6];show(call pg 59 26 [.lst (aB bs),prD p,rD [st]] >>= λx=>Hp.R.ok (cS _ x))=_;rw[q5];rfl
  rw[eS,e2,aG];cases fr with
  | true=>exact⟨G,.own false (R.map aE),h3,.inr rfl,rfl⟩|false=>rcases q3 with rfl|rfl;exact⟨G,.sh false (rD R),h3,.inl ⟨false,rfl⟩,rfl⟩;exact⟨G.freeze,.sh false (rD R),aFv h3,.inl ⟨false,rfl⟩,rfl⟩
 obtain⟨L,M,g3,g7,b1⟩:=b1;obtain⟨al,W,q3⟩:=yT g3;obtain⟨b,q2,q6,_⟩:=lU g7 7;have w3:∀s7 s8,ev pg (call pg 59) (la s0 s1 bs L s4 s5 (.sh false (aE st)) s7 s8) (.v 3)=.ok ⟨prD p,false,false,al⟩:=λ_ _=>W;have w7:∀s8,ev pg (call pg 59) (la s0 s1 bs L s4 s5 (.sh false (aE st)) M s8) (.v 7)=.ok ⟨rD R,false,b,q2⟩:=λ_=>q6;have b2:ex pg (call pg 59) (la s0 s1 bs L s4 s5 (.sh false (aE st)) M s8) (.set (.n 8) (.callP 23 (.cons (.v 2) (.cons (.v 3) (.cons (.v 6) .nil)))))=.next (la s0 s1 bs L s4 s5 (.sh false (aE st)) M (.own false (R.map aE))):=
  vJ (aFt (v2 _ _ _) (w3 _ _) (v6 _ _ _) (rA R) q0)
 have b3:ex pg (call pg 59) (la s0 s1 bs L s4 s5 (.sh false (aE st)) M (.own false (R.map aE))) (.iff (.nt (.call 27 (.cons (.v 8) (.cons (.v 7) .nil)))) (.cons (.ret (.c (.bl false))) .nil) .nil)=.next (la s0 s1 bs L s4 s5 (.sh false (aE st)) M (.own false (R.map aE))):=
  dJ (zV (k:=true) (aBM (x:=⟨rD R,false,false,[8]⟩) (a:=.v 8) (b:=.v 7) (y:=⟨rD R,false,b,q2⟩) (lF 8 false _) (w7 _) q1))
 have b4:ex pg (call pg 59) (la s0 s1 bs L s4 s5 (.sh false (aE st)) M (.own false (R.map aE))) (.app 8 (.v 6))=.next (la s0 s1 bs L s4 s5 (.sh false (aE st)) M (.own false (R.map aE++[aE st]))):=
  aKP (v6 _ _ _) rfl (by rw[lM];unfold lim;omega) rfl rfl
 have b5:ex pg (call pg 59) (la s0 s1 bs L s4 s5 (.sh false (aE st)) M (.own false (R.map aE++[aE st]))) (.iff (.nt (.call 27 (.cons (.call 23 (.cons (.v 2) (.cons (.v 3) (.cons (.v 6) .nil)))) (.cons (.v 7) .nil)))) (.cons (.ret (.c (.bl false))) .nil) .nil)=.next (la s0 s1 bs L s4 s5 (.sh false (aE st)) M (.own false (R.map aE++[aE st]))):=
  dJ (zV (aBM (cW (v2 _ _ _) (w3 _ _) (v6 _ _ _) q0) (w7 _) q1))
 exact⟨L,M,_,g3,cs b1 (cs b2 (cs b3 (cs b4 (cs b5 rfl))))⟩
theorem pure(ns:List Int)(_:ns.length<=63):∃fr pa,call pg 60 28 [.lst (ns.map D.int)]=.ok (.bl true,fr,pa):=by
 refine⟨false,false,aN (F:=f28) rfl rfl (v:=.cl (.bl true)) ?_⟩;show exs pg (call pg 59) [.sh true (.lst (ns.map D.int)),.dead,.dead,.dead,.dead,.dead,.dead,.dead,.dead] _=_;obtain⟨bs,k,T,q9,hm,q2,hk,q7⟩:=aCH 56 ns;have B:Bs bs:=⟨T,q9,hm,q2⟩
 have q6:cD 2<=90000:=by decide
 obtain⟨p0,I,o0,w9,q8⟩:=vM 45 ns hm q2 k (by have:=q6;omega);obtain⟨p,b,hl,hp,hc,w3⟩:=aCO (aOb 55 bs.length) o0.1 o0.2
 let G:Nat->Sl->Sl->Sl->Sl->Sl->Sl->Sl->Sg:=λk s2 L s4 s5 s6 s7 s8=>[.sh true (.lst (ns.map D.int)),.own true (aO ns k),s2,L,s4,s5,s6,s7,s8]
 have e1:ex pg (call pg 59) [.sh true (.lst (ns.map D.int)),.dead,.dead,.dead,.dead,.dead,.dead,.dead,.dead] (hdS f28.body)=.next (G 0 .dead .dead .dead .dead .dead .dead .dead):=rfl;have e2:ex pg (call pg 59) (G 0 .dead .dead .dead .dead .dead .dead .dead) (.setL 2 1 [] (.call 5 (.cons (.e (.c (.int 12))) .nil)))=.next (G k (.own false (aB bs)) .dead .dead .dead .dead .dead .dead):=by rw[eL,bU,mU (P:=pg) (W:=call pg 59) (l:=1) (Z:=G 0 .dead .dead .dead .dead .dead .dead .dead) (z:=(true,aO ns 0)) rfl rfl (vs:=[.cl (.int 12)]) (Z1:=G 0 .dead .dead .dead .dead .dead .dead .dead) rfl (pa:=true) (cs:=aO ns 0) rfl q7];rfl
 have e3:ex pg (call pg 59) (G k (.own false (aB bs)) .dead .dead .dead .dead .dead .dead) (.setL 3 1 [2] (.pcall 18 (.cons (.call 16 (.cons (.e (.v 2)) (.cons (.e (.c (.int 1))) .nil))) .nil)))=.next (G I (.sh false (.lst (aB bs))) (.own false (p.map Dd.d)) .dead .dead .dead .dead .dead):=by rw[eL];show O.from _ (evls' pg (call pg 59) 1 (G k (.sh false (.lst (aB bs))) .dead .dead .dead .dead .dead .dead) (.cons (.call 16 (.cons (.e (.v 2)) (.cons (.e (.c (.int 1))) .nil))) .nil) >>= λr=>call pg 59 18 (r.1.map (·.d)) >>= λq=>noAl (cS r.1 q) r.2) _=_;rw[gL,mU (P:=pg) (W:=call pg 59) (l:=1) (Z:=G k (.sh false (.lst (aB bs))) .dead .dead .dead .dead .dead .dead) (z:=(true,aO ns k)) rfl rfl (vs:=[.cl (.lst (aB bs)),.cl (.int 1)]) (Z1:=G k (.sh false (.lst (aB bs))) .dead .dead .dead .dead .dead .dead) rfl (pa:=true) (cs:=aO ns k) rfl q8];show O.from _ (call pg 59 18 [prD p0] >>= λq=>noAl (cS [⟨prD p0,true,false,[]⟩] q) (G I (.sh false (.lst (aB bs))) .dead .dead .dead .dead .dead .dead)) _=_;rw[w3,aC];cases b <;> rfl
 have q4:=aCG (P:=pg) (f:=12) rfl 58 T;have e4:ex pg (call pg 59) (G I (.sh false (.lst (aB bs))) (.own false (p.map Dd.d)) .dead .dead .dead .dead .dead) (.set (.n 4) (.call 12 (.cons (.v 2) .nil)))=.next (G I (.sh false (.lst (aB bs))) (.own false (p.map Dd.d)) (.own false ((standsL bs).map aE)) .dead .dead .dead .dead):=
  vJ (fC (x:=.cl (.lst (aB bs))) (aV 2 _) q4)
 have q1:((standsL bs).length:Int)=dB bs:=by have:=(qC T bs.length (Ak _)).1;rwa [AF] at this
 have w8:1<=dB bs:=by have:=(lE bs (λb hb=>(T.one b hb).1) bs.length).1;rwa [AF] at this
 have M:∀x∈standsL bs,St bs x:=λx hx=>aFf hx;generalize standsL bs=S at e4 q1 M q4;have q3:=aBw 57 ns (k:=I) (by omega) (m:=(S.length:Int)) (by omega);have rg:=cK ns I (m:=(S.length:Int)) (by omega);generalize nxt ns I (S.length:Int)=w at q3 rg;have e5:ex pg (call pg 59) (G I (.sh false (.lst (aB bs))) (.own false (p.map Dd.d)) (.own false (S.map aE)) .dead .dead .dead .dead) (.setL 5 1 [4] (.call 4 (.cons (.e (.bi .len (.cons (.v 4) .nil))) .nil)))=.next (la (.sh true (.lst (ns.map D.int))) (.own true (aO ns (I+1))) bs (.own false (p.map Dd.d)) (.sh false (rD S)) (.sh false (.int w)) .dead .dead .dead):=by
  have ha:evls' pg (call pg 59) 1 (G I (.sh false (.lst (aB bs))) (.own false (p.map Dd.d)) (.sh false (rD S)) .dead .dead .dead .dead) (.cons (.e (.bi .len (.cons (.v 4) .nil))) .nil)=.ok ([.cl (.int (S.length:Int))],G I (.sh false (.lst (aB bs))) (.own false (p.map Dd.d)) (.sh false (rD S)) .dead .dead .dead .dead):=
   aKI (cF (yB (x:=.cl (rD S)) (aV 4 _) (by show R.ok (Vl.cl (.int ((S.map aE).length:Int)))=_;rw[lM])))
  rw[eL];show O.from _ (evl pg (call pg 59) 1 (G I (.sh false (.lst (aB bs))) (.own false (p.map Dd.d)) (.sh false (rD S)) .dead .dead .dead .dead) _) _=_;rw[mU (P:=pg) (W:=call pg 59) (l:=1) (z:=(true,aO ns I)) rfl rfl ha (pa:=true) (cs:=aO ns I) rfl q3];rfl
 let U:Sl->Sl->Sl->Sl->Sg:=λL s6 s7 s8=>la (.sh true (.lst (ns.map D.int))) (.own true (aO ns (I+1))) bs L (.sh false (rD S)) (.sh false (.int w)) s6 s7 s8
 have sw:aH w=true:=by have:=gJ (n:=w.toNat) (by omega);rwa [CM rg.1] at this
 have v4:ev pg (call pg 59) (U (.own false (p.map Dd.d)) .dead .dead .dead) (.v 4)=.ok ⟨rD S,false,false,[]⟩:=rfl;have v5:ev pg (call pg 59) (U (.own false (p.map Dd.d)) .dead .dead .dead) (.v 5)=.ok (.cl (.int w)):=aV 5 _;have w7:S.length<=12:=by omega
 have c1:=aBN S (some w) none;have c2:=aBN S none (some w);have q0:=(aOa (qG ((aPN v4 v5 sw).trans (aFs _ _ _)) ((aOa v4 v5 sw).trans (aFs _ _ _)) (aNZ _ _ (by unfold lim;omega))) (show ev pg (call pg 59) (U (.own false (p.map Dd.d)) .dead .dead .dead) (.c (.int 5))=.ok (.cl (.int 5)) from rfl) (by decide)).trans (aFs _ _ _);have hX:∀x∈cut (cut S (some w) none++cut S none (some w)) none (some 5),St bs x:=λx hx=>by rcases AY.mp (vV hx) with h|h;exact M x (vV h);exact M x (vV h)
 generalize cut (cut S (some w) none++cut S none (some w)) none (some 5)=X at q0 hX;obtain⟨Z',ef,L,s6,s7,s8,h3,z0⟩:=eC (P:=pg) (W:=call pg 59) (Z:=U (.own false (p.map Dd.d)) .dead .dead .dead) (t:=.n 6) (b:=aOc) (λi Z=>∃L s6 s7 s8,aAB p L/\Z=U L s6 s7 s8) (jZ aP (ts:=X) q0) ⟨_,_,_,_,.inr rfl,rfl⟩ λi hi Z ⟨L,s6,s7,s8,h3,e⟩=>by rw[lM] at hi;subst e;rw[BJ];obtain⟨w4,w5,w6,q5,ht⟩:=aFw B hl hp hc (hX X[i] (AO hi)) (s0:=.sh true (.lst (ns.map D.int))) (s1:=.own true (aO ns (I+1))) (s4:=.sh false (rD S)) (s5:=.sh false (.int w)) (s7:=s7) (s8:=s8) h3;exact⟨U L (.sh false (aE X[i])) s7 s8,_,by rw[eE,bS];rfl,ht,w4,_,w5,w6,q5,rfl⟩
 exact cs e1 (cs e2 (cs e3 (cs e4 (cs e5 (cs ef (cV rfl))))))
end K77
noncomputable section
set_option maxRecDepth 100000
set_option maxHeartbeats 0
namespace K77
open PySem PySem.W L2 Hp Hh
noncomputable def ix:List (Nat×List Str):=(4,["one", "ahead", "behind", "word", "left", "right"]) ::
 (5,["cond", "ahead", "behind", "word", "left", "right"]) ::
 (10,["boxes", "way", "stand", "held", "box", "one", "amount"]) ::
 (21,["_law_script", "_law_k", "_law_base"]) ::
 (22,["_law_pen", "_law_many_here", "_law_cell_here"]) ::
 (23,["_law_pen", "_law_most", "_law_boxes_here", "_law_room", "_law_k", "_law_top", "_law_letter"]) ::
 (24,["_law_pen", "_law_boxes_here", "_law_deep", "_law_way_here"]) ::
 (25,["_law_pen", "_law_boxes_here", "_law_deep", "_law_way_here"]) ::
 (14,["program"]) ::
 (27,["_law_one", "_law_stand"]) ::
 (28,["_law_cond_here", "_law_stand"]) ::
 (29,["_law_boxes_here", "_law_way_here", "_law_stand", "_law_found", "_law_k", "_law_one", "_law_number", "_law_box"]) ::
 (30,["_law_boxes_here", "_law_found", "_law_name", "_law_top", "_law_longer", "_law_stand"]) ::
 (31,["_law_thing"]) ::
 (32,["_law_pen", "_law_boxes_here", "_law_puts_here", "_law_k"]) ::
 (33,["_law_pen", "_law_boxes_here", "_law_deep", "_law_way_here", "_law_times"]) ::
 (34,["_law_pen", "_law_boxes_here", "_law_deep"]) ::
 (35,["_law_program_here", "_law_many_here", "_law_deed_here"]) ::
 (36,["_law_program_here", "_law_found"]) ::
 (15,["program"]) ::
 (16,["deed"]) ::
 (12,["deed"]) ::
 (13,["deed", "place"]) ::
 (17,["boxes", "program", "stand"]) ::
 (18,["boxes", "program", "reached", "deed"]) ::
 (19,["boxes", "deed", "reached", "found", "program", "way"]) ::
 (37,["_law_boxes_here", "_law_program_here", "_law_some", "_law_deed_here", "_law_found", "_law_k", "_law_one", "_law_guard", "_law_stand", "_law_after"]) ::
 (38,["_law_found", "_law_due", "_law_stand"]) ::
 (39,["_law_script", "_law_pen", "_law_boxes_here", "_law_program_here", "_law_some", "_law_at", "_law_stand", "_law_due", "_law_found"])::[]
noncomputable def sn:Sn:=⟨[("MOST_ROWS",(.int 8)),("GUARD",(.int 0)),("PUTS",(.int 1))],[]⟩
abbrev pw:=En
theorem chk:iG ⟨[],[],(ix.map (nX pw)).map (·.x),sn.cns,[],true,sn.tbs.map (·.1)⟩ pg.fns (ix.map (nX pw))=true:=by decide +kernel
abbrev Lq(w:AG)(os:IM):Prop:=aNp pw (sW pw) (uU pw) (λs=>iY pw sn s.heap) 100000 w os=some (true,Kx (sW pw) (uU pw),mR pw sn w)
theorem lf1(os:IM)(w:AG):Lq (w.withFollow "special-get-raises" false) os:=by kernel_rfl
theorem lf2(os:IM)(w:AG):Lq (w.withFollow "special-get-raises" true) os:=by kernel_rfl
theorem lft:KZ pw (sW pw) (uU pw) (λ_=>true) (λs=>iY pw sn s.heap) (λw=>mR pw sn w) 100000:=aKs (by kernel_rfl) rfl (λ_=>by kernel_rfl) λw os=>byRow2 "special-get-raises" (P:=λw=>Lq w os) (lf1 os) (lf2 os) w
abbrev rr:=BW
theorem w0:looksOpen rr.row.prog=true:=by kernel_rfl
theorem w1:rr.row.wellSaid=true:=by unfold OpenRow.wellSaid OpenRow.partSaid;rw[w0];kernel_rfl
theorem ws:rr.wellSaid=true:=by unfold OpenLaw.wellSaid;rw[w1];kernel_rfl
end K77
end
noncomputable section
open PySem PySem.W PyProof.Rows Hh
set_option maxRecDepth 100000 in
set_option maxHeartbeats 0 in
theorem PySem.Challenge.cw_handpromise_k77_what_a_program_comes_to_holds : PySem.Challenge.rw_handpromise_k77_what_a_program_comes_to.Holds := by
 refine holds_law K77.ws λ said => ?_;refine aKx (l := BW) (k := 59) (f := 28) (x := "_law_script") (sl := ["_law_pen", "_law_boxes_here", "_law_program_here", "_law_some", "_law_at", "_law_stand", "_law_due", "_law_found"]) said K77.lft (by kernel_rfl) (by kernel_rfl) rfl rfl (by decide +kernel) ⟨rfl, rfl, rfl, rfl, rfl, by decide +kernel⟩ ?hw rfl rfl (by decide +kernel) (by decide +kernel) K77.chk rfl (by decide +kernel) ⟨rfl, rfl, by decide, by decide⟩ (by kernel_rfl) rfl K77.pure
 w_witness2
end
