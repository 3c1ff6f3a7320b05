import PyProof.Rows.All
import Wide.All
import OpenK.AllK
import Wide.FinOn
import Lean
import PyProof.EqAt
import PyProof.EqKinds
import PyProof.TupleCall
import PyProof.TupleKey
import PyProof.DictRoadsH
import PyProof.Rows.TupTab
import PyProof.AttrMissHeap
import KE.KDictOf
import PySem.Syntax
import PySem.Builtin.Str.Common
import PyProof.ReprReads
import PyProof.ReprRoads
import PyProof.FitsInt
import PyProof.NeKinds
import KE.KIsAll
import PyProof.Rows.SetFrom
import PyProof.SetRoads
import PyProof.StrLaws
import PyProof.ZipIter
import PyProof.StrWalks
import PyProof.EnumFor
import PyProof.EnumStmt
import PyProof.ListNew
import PyProof.CollectIter
import PyProof.Rows.SortWalk
import PyProof.Rows.Range3
import PySem.Challenge.RW_handpromise_k68_whole_weavings_alike
set_option compiler.extract_closed false
set_option compiler.postponeCompile true
set_option genSizeOf false
set_option genInjectivity false
set_option bootstrap.genMatcherCode false
set_option Elab.async false
set_option linter.all false
noncomputable section
open PySem renaming wpAny_bind->Aa,Value->Ad,Shared->Ag,wpAny_pure->Ah,wpAny->Aw,Program->A2,Expr->A7,model->AA,World->AL,wpAny_setField_rec->AQ,wpAny_callSpecial?_slot->AS,wpAny_field->Bc,Around->Be,wpAny_call_entry->Bh,starEach->Bj,wpAny_newObj_type->Bm,mainGlobals->Bo,wpAny_Call_Name_kw->Bt,mem_of_lookup->B0,wpAny_truthy_bool->B5,wpAny_holding->B8,bootBuiltins->BD,compareOp->BI,codeAny_builtin->BJ,wpAny_pyIter_list->BS,foldedSetIterable->BU,rawInt->BW,NameKind->BZ,sizeLine_eq->Cb,wpAny_seqItems->Ce,Stmt->Cg,wpAny_passesOwn->Ck,Builtin->C4,wpAny_mono->C8,assignEach->C9,pyNext->CK,Paired->CP,IsPair->CU,codeAny_mono->CV,scanBound->CW,wpAny_askSetting->CY,Scope->Da,binaryOp->De,wpAny_attempt->Di,wpAny_execs_nil->Dk,eval->Dm,sliceBounds->Dw,Pos->Dy,FuncData->D2,intKind->D6,wpAny_setState_of->D8,wpAny_rule->DG,wpAny_isInstance->DH,codeAny->DK,plainId_quiet->DL,wpAny_updateSeq_pair->DM,letOwnedTupleGo->DP,wpAny_setEntries_of->DZ,wpAny_typeOf->Eb,DictEntry->Ef,cLine->Ej,call_meets->Em,sysModules->En,backTo->E2,wpAny_comprehension_free->E3,wpAny_onRaise->E5,noFill_tuple_add->EB,wpAny_pyNext_range_end->EJ,wpAny_pyIter_rangeiter->EK,concat_meets->EO,IsPart->EQ,wpAny_Call_method_late->ES,callerA->EU,valueAt->EV,IsEnum->EY,codeAny_of_tree->Ff,importedModules->Fi,weight_type_call_type->Fk,builtinLookup_eq_fast->Fl,GenState->Fu,codeAny_call_builtin->Fy,wpAny_runValue->F0,field->F2,IsZip->F6,wpAny_letGo->F8,isSubtype_stop->F9,isSubtype_type->FA,holding->FC,Arguments->FD,getItem->FE,seqIndex?->FF,wpAny_standAt->FN,behindInMarks->FO,seq_tuple_add->FP,builtinsNs->FU,pyIter->FV,wpAny_pyIter_range->FW,Result->FX,intKind_is->Gb,wpAny_pyIter_tuple->Gg,wpAny_assign_Name->Gq,wpAny_sequenceKey->Gr,seqIndex_neg->Gu,slot_list_getitem->Gv,list_append->Gw,ZipApart->G2,wpAny_pyIter_enum->G4,wpAny_pyIter_slot->G6,wpAny_execs_cons->GD,check_set_init_1->GH,wpAny_pyIter_zip->GK,IsEnumOut->GL,treeTable->GN,IsRangeIter->GR,seqIndex_of->GU,wpAny_of_eq->GW,typeLookup_type->Hf,hashInt->Hk,OsState->Hn,Tok->Ho,wpAny_Name->Hq,assign->Hr,recursionLimit->Hu,bindArgs->Hv,wpAny_call->Hw,bindL->Hx,bindC->Hy,fitsIndex_both->HB,Params->HD,call->HE,wpAny_setField->HH,firstArgMember->HI,wpAny_newTuple->HJ,entryFor_alias->HM,setsByText->HP,wpAny_fieldsOf->HQ,Thread->HR,intBits_le_64->Ib,evalPart_none->Ih,call_list_seq->Ij,wpAny_handled->Il,fenceModules?->Iq,swapsWith->Iw,lastMarks->Ix,cellsFrom->Iy,tupleKind->I0,seqItems?->I9,spliced->IC,BindsTo->ID,relabel->IG,callType_new->IH,setAddHashed->II,setNext->IJ,denote->IM,Env->IT,interactive->IU,subscripted->IX,compEnvC->Ja,newTuple->Jd,wpAny_throw->Je,entryFor->Jf,slotArgs->Jg,setAdd->Js,newExc->Jt,argsOk->Jv,hashStr->Jz,standAt->J0,Keyword->J2,Sem->JC,Model->JD,atKey->JF
open PySem.Heap renaming get?_push_of_some->Ab,get?_push_size->An,lt_size->Aq,size_push->Bq,SameBut->B9,get?_update_other->CB,get?_update_self->DC,ExtBut->F5,get?_update_ne->FJ
open List renaming getElem?_eq_getElem->Ac,getD_eq_getElem?_getD->Ae,getElem?_set_ne->Af,range->Ai,size_toArray->Aj,mem_cons_of_mem->Al,replicate->Am,mem_cons_self->Ar,map_map->As,getElem?_eq_some_iff->Au,length_set->Av,map_append->Ax,getElem?_map->Ay,getElem?_set_self->Az,length_take->A0,mem_cons->A4,mem_append_right->A5,getElem_map->A6,mem_map->A8,mem_range->AC,getElem?_append_right->AD,mem_singleton->AE,getElem_mem->AF,length_range->AG,getElem?_append_left->AI,not_mem_nil->AJ,length_replicate->AK,getElem_range->AR,all_eq_true->AT,zip_cons_cons->AV,mem_append_left->AY,append_assoc->Ba,getElem?_eq_none->Bb,map_congr_left->Bf,nodup_cons->Bg,mem_append->Bl,append_nil->Bu,length_drop->Bw,take_length->Bx,drop_eq_getElem_cons->Bz,replicate_succ->B2,length_eq_zero_iff->BB,take_of_length_le->BE,length_eraseIdx_of_lt->BF,take_succ_eq_append_getElem->BG,length_singleton->BK,filterMap_cons_none->BP,flatten_cons->BV,foldl_cons->BX,getElem?_range->Ca,mem_filterMap->Cc,pairwise_cons->Cf,mem_filter->Cj,getElem?_of_mem->Cp,mem_of_mem_take->Cq,map_take->Cy,filterMap_cons->C3,range_succ_eq_map->CC,getElem?_take->CD,map_drop->CI,filterMap_append->CM,foldl_append->CO,filter_cons->CZ,getElem?_zip_eq_some->Dc,toList_toArray->Dd,all_cons->Dg,length_append->Dq,getElem?_replicate->Du,zip_nil_left->D3,take_succ->D7,flatMap_cons->DA,filter_eq_nil_iff->DB,getElem?_toArray->DD,take_append_drop->DE,length_filter_le->DF,isEmpty_nil->DI,mem_iff_getElem->DN,of_mem_zip->DQ,nil_append->DR,find?_cons->DS,range_succ->DW,all_map->Ec,filter_append->Eu,filterMap->Ew,ext_getElem?->Ez,map_inj_left->E1,filterMap_cons_some->E7,length_cons->EA,mem_flatMap->ED,any_eq_true->EE,drop_length->EG,filter_cons_of_pos->EH,filter_cons_of_neg->EI,length_map->Fc,length_nil->Fd,forIn_cons->Fe,forIn_nil->F7,foldl_nil->FB,flatMap_append->FL,filter_eq_self->FM,zip_nil_right->FY,map_replicate->Gm,getElem?_drop->Gn,map_set->GA,find?_append->GB,zipIdx_cons->GI,isEmpty_iff->GM,cons_append->GP,flatten_nil->GQ,length->GS,map_id->GX,lookup->GY,zipIdx_nil->Hb,map_const'->Hj,foldl->H9,drop_zero->HG,take_zero->HW,map_cons->Ig,any_cons->Ir,set_comm->Iu,map_nil->IE,set_set->IL,map->JI
open Nat renaming le_refl->Ao,lt_of_lt_of_le->A1,ne_of_lt->AB,le_trans->AM,add_sub_cancel_left->AU,lt_irrefl->Br,zero_le->B6,ne_of_gt->BO,lt_succ_self->C6,not_lt_zero->CH,lt_succ_of_lt->CN,le_succ->CT,le_of_lt->Ea,sub_zero->EW,sub_self->Fb,lt_trans->Gz,le_succ_of_le->G0,not_lt->HK,mod_lt->HN,zero_add->IQ
open PySem.W renaming Frag->Ap,boot_heap->BN,kia_one->CF,keepIn->CQ,cellsFrom_some->EM,fnOf->EN,SharedT->FG,boot_drawn->Gh,boot_toks->GO,OpenLaw->Hi,codeIn->Hz,namesBound->HS,staticsOk->IB,stepOk->IN,gensDone->Jh,laidKept->Ji,openGood->Jj,OpenLaw->J3,through->J6,stepT->J7,topStub->J8,topFrom->J9,LeftO->JJ
open Option.some renaming inj->A9,injEq->Co
open PySem.F renaming called_set->AH,plainAttrs_list->Bs,slot_tuple_iterator_next->Cd,slot_list_append->Cz,type_list_append->C0,slot_enumerate_next->CL,args_tuple_add_2->Df,entry_tuple_add->Dv,slot_tuple_add->D4,args_tuple_iterator_next_1->DU,slot_zip_next->DV,entry_tuple_iterator_next->Ed,sub_list_frozenset->Ep,args_enumerate_next_1->EF,typeCall_set_1->EX,entry_enumerate_next->EZ,slot_dict_get->Fj,slot_set_iter->Fm,slot_list_pop->Fp,type_list_pop->Fq,args_list_append_2->Fx,sub_list_set->Fz,entry_list_append->FI,slot_list_append->Ga,entry_type_call->G1,args_zip_next_1->G3,plain_list_iadd->G7,entry_set_init->GG,entry_zip_next->GJ,slot_int_rmul->Ha,plain_set_new->He
open PySem.Builtin.SmallTypes renaming nextOf->AN,ownedTupleIsFree->AZ,ownedTupleHandOut->B4
open PyProof.Rows.F renaming plain_set_update_loop->AW,entry_set_update_loop->B3
open PyProof.Rows renaming callWith_type1->AX,slot_tuple_getitem->Bk,callWith_builtin1->BM,IntsAre->Cm,subscriptTail_builtinR->D5,AllBare->Ex,envOfC->Fv,entry_tuple_getitem->FH,args_tuple_getitem->FZ,get?_update_seq->Hg,boot_range->Ht,slicePart_none->H0,tupleItemsOf_->Ie,subscriptTail->Ii,listUpdate_at->Ip,SetOf_congr->Jb,TupTab->Jk,lt_int->Jl,seqObj->Jx,Call_->J1
open PySem.NameKind renaming free->Bn
open Option renaming map_eq_some_iff->Bp,isSome_iff_exists->Cu,getD_some->DJ,getD_none->EC,none->IZ
open Bool renaming eq_iff_iff->Bv,or_eq_true->BY,not_true->CJ,and_true->Dh,false_ne_true->Dl,not_false->Et,or_false->FQ,not_eq_true'->G8,false_and->Hs,and_false->HA,false_or->Iv,or_true->IF
open Array renaming length_toList->B1,getElem?_toList->BL,getElem?_eq_getElem->Ci,mk->HU
open Int renaming toNat_natCast->B7,toNat_of_nonneg->C5,emod_lt_of_pos->Ds,emod_nonneg->DX,ofNat->Eg,le_trans->Fa,mul_le_mul->HV
open PySem.Builtin.Range renaming rangeSize->BA,small->FK,rangeFitsLong->Hm
open PySem.Around renaming under_plainId->BC,under_plain->Ge
open PySem.Value renaming int->BH,none->Cr,bool->Cs,ref->Dt,type->Eh,isInt->Ft,isStrOf->HZ,str->JA
open PySem.Challenge renaming rw_handpromise_k68_whole_weavings_alike->BQ,pw_handpromise_k68_whole_weavings_alike->DO
open Sum renaming inr->BR,inl->Gp
open PySem.Builtin.Slice renaming slicePlaces->Ch,sliceAdjust->Db,sliceApplied->Ek,slicePartIndex->GZ,sliceFields->HX
open PySem.Builtin.Tuple renaming tupleExact->Cv,tupleItemsOf->El,tupleCompareSizes->GC,tupleIsExact->HF,tupleHashOf->HY
open PySem.Builtin.List renaming listTooLong->Cw,listExtendWith->Ee,listSameRef->E6,listLengthHint->Hl,listFitsIndex->HC,listTouch->IK
open Prod.mk renaming injEq->C1
open PySem.AutoSeq1 renaming wpAny_loadPart'->C7,list_extend_list_list_0->Gx,sub_tuple_tuple->Ic
open PySem.Calls renaming spliced_cons->CA,spliced_nil->Dz,Name_function_global->Ei,callWith_builtin->ET,evalArgs_plain->Fw
open ForInStep renaming yield->CG
open Ne renaming symm->Dj
open False renaming elim->Dp
open PySem.Obj renaming mapSeq->Dr,data_mapFields->Gf
open Function renaming comp_def->D9
open PySem.Builtin.Frozenset renaming updateFrom->DT,newClass->HL,addrOf->Im,sizeOf->Io,slot0->IA
open PySem.Heap.SameBut renaming update->DY,refl->J4
open True renaming intro->Eo
open PySem.SetTable renaming below->Er,insertAt->Ey,orStandIn->Ju
open List.cons renaming inj->E4
open Sum.inr renaming injEq->E8
open PySem.Builtin.Str renaming occurrences->E9,occurrences->GV
open PyProof renaming noPylong_small->EL
open PySem.PassesOwn renaming never->Fh
open PySem.W.Fast renaming te10156331382660048174->FR,te11892475500146522536->FS,te14364793385576792824->FT,te6613529449190102663->Gi,te4187177175401517315->Gj,te5923862056798008813->Gk,sEq->G9,sEq_iff->IP
open PySem.Walks renaming list->Gc,range->IV
open PySem.Code renaming quiet_builtin->Gd
open PySem.AutoListH renaming list___mul___list_int_3->Go
open PySem.Str renaming ofString->Gs,length->Jq
open List.Pairwise renaming nil->Gy,sublist->IS
open PySem.pickOrder renaming go->G5
open PySem.IsL renaming update->GF
open PySem.Paired renaming length->Ia
open PySem.Shared renaming TypeIs->Ik
open PyProof.Rows.IsTup renaming new->Iz
open List.Perm renaming append_left->IR,cons_inv->Jw,refl->JG,swap->JH
open PySem.IsRange renaming new->IW
open PySem.MeetsSeq renaming list_pop_at->IY
open PySem.Moved renaming trans->Jc
open PySem.SeqAt.EqAt renaming int_str->Jm,str_int->Jn,int_int->Jo
open PySem.Heap.IsSliceOf renaming new->Jp
open PySem.W.WShape renaming has->Jr
open PySem.ScopeKind renaming function->Jy
open Classical renaming not_not->J5
open PySem.W.WData renaming int->JB
open Prod renaming ext->JE
def Ak:=@decide_eq_true
def A3:=@decide_eq_false
def AO:=@decide_eq_true_eq
def Ev:=@or_false
theorem nf{p:Prop}(h:false=true):p:=absurd h Dl
noncomputable def gS:=@List.getElem?_cons_succ.{0}
noncomputable def gZ:=@List.getElem?_cons_zero.{0}
noncomputable def lS:=@List.set_cons_succ.{0}
noncomputable def lZ:=@List.set_cons_zero.{0}
noncomputable def bF:=@Bool.false_eq_true
noncomputable def lC:=@List.length_cons.{0}
noncomputable def lN:=@List.length_nil.{0}
noncomputable def lA:=@List.length_append.{0}
noncomputable def mC:=@List.map_cons.{0,0}
noncomputable def mN:=@List.map_nil.{0,0}
noncomputable def lM:=@List.length_map.{0,0}
noncomputable def mG:=@List.mem_of_getElem?.{0}
noncomputable def bN:=@Bool.false_ne_true
noncomputable def bA:=@Bool.and_eq_true
noncomputable section
set_option maxRecDepth 100000
namespace L2
open PySem PySem.Spec PyProof.Rows
abbrev Key:=Sum Int Str
noncomputable def qN:Key->Ad->Bool
 | .inl k,v=>Ft k v|.inr x,v=>HZ x v
noncomputable def aPN(w:AL):Key->Int
 | .inl k=>Hk k|.inr x=>Jz w x
theorem keyIs_shape:∀{k:Key} {v:Ad},qN k v=true->(∃i t,k=Gp i/\v=BH i t)\/(∃x t,k=BR x/\v=JA x t)
 | .inl i,v,h=>by obtain⟨t,e⟩:=Value.isInt_shape (k:=i) (v:=v) h;exact .inl ⟨i,t,rfl,e⟩|.inr x,v,h=>by obtain⟨t,e⟩:=Value.isStrOf_shape (x:=x) (v:=v) h;exact .inr ⟨x,t,rfl,e⟩
theorem aCO(i:Int)(t:Ho):qN (.inl i) (.int i t)=true:=by simp[qN,Ft]
theorem oF(x:Str)(t:Ho):qN (.inr x) (.str x t)=true:=by simp[qN,HZ]
theorem aJG(a b:Int):decide ((Gp a:Key)=Gp b)=(a==b):=by grind
theorem aJH(a b:Str):decide ((BR a:Key)=BR b)=decide (a=b):=by grind
theorem aJI(a:Int)(b:Str):decide ((Gp a:Key)=BR b)=false:=A3 (λq=>nomatch q)
theorem aJJ(a:Str)(b:Int):decide ((BR a:Key)=Gp b)=false:=A3 (λq=>nomatch q)
noncomputable def cI(prog:A2)(w:AL):PySem.KeyKind prog w Key where
 is:=qN
 hash:=aPN w
 inj:=λv a b ha hb=>by
  rcases keyIs_shape ha with⟨i,t,rfl,rfl⟩|⟨x,t,rfl,rfl⟩
  rcases keyIs_shape hb with⟨j,u,rfl,e⟩|⟨y,u,rfl,e⟩
  grind;grind;rcases keyIs_shape hb with⟨j,u,rfl,e⟩|⟨y,u,rfl,e⟩
  grind;grind
 byValue:=λk v h=>by rcases keyIs_shape h with⟨i,t,rfl,rfl⟩|⟨x,t,rfl,rfl⟩ <;> rfl
 pyHash:=λhv h=>by
  rcases keyIs_shape hv with⟨i,t,rfl,rfl⟩|⟨x,t,rfl,rfl⟩
  exact wpAny_pyHash_int h;exact wpAny_pyHash_str h
 eqBool:=λhu hv h=>by
  rcases keyIs_shape hu with⟨i,t,rfl,rfl⟩|⟨x,t,rfl,rfl⟩
  rcases keyIs_shape hv with⟨j,u,rfl,rfl⟩|⟨y,u,rfl,rfl⟩
  rw[aJG] at h;exact wpAny_eqBool_int h;rw[aJI] at h;exact Jm i t y u _ _ _ _ h;rcases keyIs_shape hv with⟨j,u,rfl,rfl⟩|⟨y,u,rfl,rfl⟩
  rw[aJJ] at h;exact Jn x t j u _ _ _ _ h;rw[aJH] at h;exact wpAny_eqBool_str h
 «strs»:=λk x t v h=>by
  rcases keyIs_shape h with⟨i,u,rfl,e⟩|⟨y,u,rfl,e⟩
  grind;injection e with e1 _
  subst e1;cases v <;> rfl
theorem xY(prog:A2)(w:AL)(i:Int)(t:Ho):(cI prog w).is (.inl i) (.int i t)=true:=aCO i t
theorem xZ(prog:A2)(w:AL)(x:Str)(t:Ho):(cI prog w).is (.inr x) (.str x t)=true:=oF x t
set_option genInjectivity true in
inductive V where
 | non|bl (b:Bool)|int (i:Int)|str (x:Str)|ref (a:Addr)|ty (n:String)
 deriving DecidableEq
noncomputable def cC:V->Ad->Prop
 | .non,u=>u=Cr|.bl b,u=>u=Cs b|.int i,u=>∃t,u=BH i t|.str x,u=>∃t,u=JA x t|.ref a,u=>u=Dt a|.ty n,u=>u=Eh n
abbrev bJ:List V->List Ad->Prop:=CP cC
theorem bJ.length{xs:List V}{us:List Ad}(r:bJ xs us):xs.length=us.length:=Ia r
theorem bJ.get:∀{xs:List V} {us:List Ad} {i:Nat} {x:V},bJ xs us->xs[i]? = some x->∃u,us[i]? = some u/\cC x u
 | _,_,_,_,.nil,e=>by simp at e|_,_,0,_,.cons r _,e=>by grind|_,_,i+1,x,.cons _ t,e=>by obtain⟨u,h1,h2⟩:=bJ.get (i:=i) (x:=x) t (by simpa using e);grind
theorem bJ.set{x:V}{u:Ad}(r:cC x u):∀{xs:List V} {us:List Ad} (i:Nat),bJ xs us->bJ (xs.set i x) (us.set i u)
 | _,_,_,.nil=>.nil|_,_,0,.cons _ t=>.cons r t|_,_,i+1,.cons q t=>.cons q (bJ.set r i t)
theorem bJ.append:∀{xs q:List V} {us ws:List Ad},bJ xs us->bJ q ws->bJ (xs++q) (us++ws)
 | _,_,_,_,.nil,s=>s|_,_,_,_,.cons r t,s=>.cons r (bJ.append t s)
theorem bJ.take:∀{xs:List V} {us:List Ad} (n:Nat),bJ xs us->bJ (xs.take n) (us.take n)
 | _,_,0,_=>.nil|_,_,_+1,.nil=>.nil|_,_,n+1,.cons r t=>.cons r (bJ.take n t)
theorem bJ.drop:∀{xs:List V} {us:List Ad} (n:Nat),bJ xs us->bJ (xs.drop n) (us.drop n)
 | _,_,0,r=>r|_,_,_+1,.nil=>.nil|_,_,n+1,.cons _ t=>bJ.drop n t
noncomputable def kV:Key->V
 | .inl i=>.int i|.inr x=>.str x
inductive HO where
 | lst (xs:List V)
 | tup (xs:List V)
 | own (x:Addr)
 | frz (o:Obj) (u:HO)
 | tbl (ps:Array Ad)
 | ext (φ:Heap->Prop)
abbrev Hp:=Addr->Option HO
noncomputable def upd(H:Hp)(a:Addr)(o:HO):Hp:=λb=>if b=a then some o else H b
theorem bY{H:Hp}{a:Addr}{o:HO}:upd H a o a=some o:=by unfold upd;rw[if_pos rfl]
theorem aN{H:Hp}{a b:Addr}{o:HO}(h:b≠a):upd H a o b=H b:=by unfold upd;rw[if_neg h]
theorem cB{H:Hp}{a b:Addr}{o:HO}(h:H a=some o)(h':H b=none):a≠b:=by grind
noncomputable def fS(P:A2)(w:AL)(H:Hp)(h:Heap)(a:Addr):HO->Prop
 | .lst xs=>xs.length<=sizeLine/\∃(its:List Ad) (n:Nat),bJ xs its/\h.get? a=some { cls:=.type "list",data:=.seq its.toArray n }|.tup xs=>xs.length<=sizeLine/\∃its:List Ad,bJ xs its/\IsTup h a its.toArray|.own _=>∃o,h.get? a=some o|.frz o u=>h.get? a=some o/\fS P w H h a u|.tbl ps=>h.get? a=some { cls:=.none,data:=.fields ps }|.ext φ=>φ h/\(∃o,h.get? a=some o)/\∀h1 h2:Heap,φ h1->(∀o,h1.get? a=some o->h2.get? a=some o)->φ h2
noncomputable def HOk(P:A2)(w:AL)(H:Hp)(h:Heap):Prop:=∀a o,H a=some o->fS P w H h a o
section
variable {P:A2} {w:AL} {H H':Hp} {h h':Heap} {a:Addr} {o:HO}
theorem fS.lt(x:fS P w H h a o):a<h.objs.size:=by
 cases o with
 | lst xs=>obtain⟨_,_,_,_,e⟩:=x;exact Aq e|tup xs=>obtain⟨_,_,_,p⟩:=x;exact p.lt|own y=>obtain⟨_,e⟩:=x;exact Aq e|frz q u=>obtain⟨e,_⟩:=x;exact Aq e|tbl ps=>exact Aq (show h.get? a=some _ from x)|ext φ=>obtain⟨_,⟨_,e⟩,_⟩:=x;exact Aq e
theorem fS.stay(x:fS P w H h a o)(k:∀b u,(b=a\/H b=some (.own a))->h.get? b=some u->h'.get? b=some u)
 (U:∀b,H b=some (.own a)->H' b=some (.own a)) (W:∀b xs,H b=some (.tup xs)->H' b=some (.tup xs)):fS P w H' h' a o:=by
 induction o with
 | lst xs=>obtain⟨z,B,n,r,e⟩:=x;exact⟨z,B,n,r,k _ _ (.inl rfl) e⟩|tup xs=>obtain⟨z,B,r,I,e,c⟩:=x;exact⟨z,B,r,I,k _ _ (.inl rfl) e,c⟩|own y=>obtain⟨I,e⟩:=x;exact⟨I,k _ _ (.inl rfl) e⟩|frz I u L=>obtain⟨e,q⟩:=x;exact⟨k _ _ (.inl rfl) e,L q⟩|tbl ps=>have e:h.get? a=some { cls:=.none,data:=.fields ps }:=x;show h'.get? a=some { cls:=.none,data:=.fields ps };exact k a _ (.inl rfl) e|ext φ=>obtain⟨p,⟨o,e⟩,st⟩:=x;exact⟨st _ _ p λo q=>k _ _ (.inl rfl) q,⟨o,k _ _ (.inl rfl) e⟩,st⟩
theorem HOk.lt(x:HOk P w H h)(e:H a=some o):a<h.objs.size:=(x a o e).lt
theorem HOk.fresh(x:HOk P w H h)(e:h.objs.size<=a):H a=none:=by
 cases q:H a with
 | none=>rfl|some u=>exact absurd (A1 (x.lt q) e) (Br _)
theorem HOk.kept(x:HOk P w H h)(k:∀b u,h.get? b=some u->h'.get? b=some u):HOk P w H h':=λa o e=>(x a o e).stay (λb u _ q=>k b u q) (λ_ q=>q) λ_ _ q=>q
theorem HOk.laid(x:HOk P w H h)(k:∀b u,h.get? b=some u->h'.get? b=some u)(L:h.objs.size<=a)(new:fS P w (upd H a o) h' a o):HOk P w (upd H a o) h':=λb u e=>by have I:=x.fresh L;by_cases B:b=a;subst B;rw[bY] at e;grind;rw[aN B] at e;exact(x b u e).stay (λc v _ q=>k c v q) (λc q=>by rw[aN (cB q I)];exact q) λc xs q=>by rw[aN (cB q I)];exact q
end
noncomputable def Rd(H:Hp)(a:Addr)(u:HO):Prop:=H a=some u\/∃o,H a=some (.frz o u)
theorem Rd.ok{P:A2}{w:AL}{H:Hp}{h:Heap}{a:Addr}{u:HO}(r:Rd H a u)(x:HOk P w H h):fS P w H h a u:=by
 rcases r with r|⟨o,r⟩
 exact x a u r;obtain⟨_,q⟩:=x a _ r;exact q
noncomputable def Mut:Option HO->Prop
 | some (.lst _)=>True|some (.ext _)=>True|_=>False
section
variable {P:A2} {w:AL} {H:Hp} {h h':Heap} {x e:Addr} {o':HO}
theorem HOk.write(ok:HOk P w H h)(W:Mut (H x))(he:e=x\/H e=some (.own x))(k:∀b u,b≠e->h.get? b=some u->h'.get? b=some u)(q0:∃u,h'.get? e=some u)
 (new:fS P w (upd H x o') h' x o'):HOk P w (upd H x o') h':=λb u q=>by
 have B:∀c y,H c=some (.own y)->c≠x:=λc y r z=>by subst z;rw[r] at W;exact W
 have L:∀c xs,H c=some (.tup xs)->c≠x:=λc xs r z=>by subst z;rw[r] at W;exact W
 by_cases hb:b=x;subst hb;rw[bY] at q;grind;rw[aN hb] at q;by_cases I:b=e;have q':H b=some (.own x):=by grind
 rw[q] at q';cases q';obtain⟨v,hv⟩:=q0;exact⟨v,by rw[I];exact hv⟩;refine(ok b u q).stay (λc v U r=>k c v ?_ r) (λc r=>by rw[aN (B c b r)];exact r) λc xs r=>by rw[aN (L c xs r)];exact r
 rcases U with rfl|U;exact I;rintro rfl;rcases he with z|z;exact B c b U z;rw[U] at z;cases z;exact hb rfl
end
structure Un (fs ex:List Addr) (H H':Hp) (h h':Heap):Prop where
 keep:∀b o,h.get? b=some o->H b=none->b∉fs->b∉ex->h'.get? b=some o
 slot:∀b o,h.get? b=some o->H b=none->b∈fs->b∉ex->∃sl,h'.get? b=some { o with slots:=sl }
 free:∀b o,h.get? b=some o->H b=none->b∉ex->H' b=none
 there:∀b o,h.get? b=some o->b∉ex->∃o',h'.get? b=some o'
 tups:∀b xs,H b=some (.tup xs)->H' b=some (.tup xs)
 frzs:∀b o u,H b=some (.frz o u)->H' b=some (.frz o u)
 tbls:∀b ps,H b=some (.tbl ps)->∃more,H' b=some (.tbl (ps++more))
section
variable {fs fs' ex ex':List Addr} {H H1 H2:Hp} {h h1 h2 h':Heap} {a x e:Addr} {o:HO}
theorem Un.any(u:Un fs ex H H1 h h1){b:Addr}{B:Obj}(q:h.get? b=some B)(n:H b=none)(L:b∉ex):∃sl,h1.get? b=some { B with slots:=sl }:=by by_cases I:b∈fs;exact u.slot b B q n I L;exact⟨B.slots,u.keep b B q n I L⟩
theorem Un.kept(k:∀b u,h.get? b=some u->h'.get? b=some u):Un fs ex H H h h':=
 ⟨λb B q _ _ _=>k b B q,λb B q _ _ _=>⟨B.slots,k b B q⟩,λ_ _ _ n _=>n,λb B q _=>⟨B,k b B q⟩,λ_ _ q=>q,λ_ _ _ q=>q,λ_ ps q=>⟨#[],by rw[q];simp⟩⟩
theorem Un.refl:Un fs ex H H h h:=Un.kept λ_ _ q=>q
theorem Un.laid(k:∀b u,h.get? b=some u->h'.get? b=some u)(I:h.objs.size<=a)(B:H a=none):Un fs ex H (upd H a o) h h' where
 keep:=λb u q _ _ _=>k b u q
 slot:=λb u q _ _ _=>⟨u.slots,k b u q⟩
 free:=λb u q n _=>by rw[aN (AB (A1 (Aq q) I))];exact n
 there:=λb u q _=>⟨u,k b u q⟩
 tups:=λb xs q=>by rw[aN (cB q B)];exact q
 frzs:=λb u xs q=>by rw[aN (cB q B)];exact q
 tbls:=λb ps q=>⟨#[],by rw[aN (cB q B),q];simp⟩
theorem Un.write(L:Mut (H x))(he:e=x\/H e=some (.own x))(k:∀b u,b≠e->h.get? b=some u->h'.get? b=some u)(U:∃u,h'.get? e=some u):Un fs ex H (upd H x o) h h':=by
 have W:∀b,H b=none->b≠x:=λb n z=>by subst z;rw[n] at L;exact L
 have I:∀b,H b=none->b≠e:=λb n z=>by grind
 have B:∀b u,H b=some u->¬ Mut (some u)->b≠x:=λb u q nm z=>by grind
 refine⟨λb u q n _ _=>k b u (I b n) q,λb u q n _ _=>⟨u.slots,k b u (I b n) q⟩,λb u q n _=>by rw[aN (W b n)];exact n,λb u q _=>?_,
  λb xs q=>by rw[aN (B b _ q λz=>z)];exact q,λb u xs q=>by rw[aN (B b _ q λz=>z)];exact q,λb ps q=>⟨#[],by rw[aN (B b _ q λz=>z),q];simp⟩⟩
 grind
end
noncomputable def trk(h:Heap)(H:Hp):List Addr:=(Ai h.objs.size).filter λa=>(H a).isSome
noncomputable def vK(h:Heap)(H:Hp):Heap:=PySem.W.hideAll h (trk h H)
theorem aCP(h:Heap)(H:Hp):(vK h H).objs.size=h.objs.size:=PySem.W.hideAll_size _ _
theorem aEk{h:Heap}{H:Hp}{b:Addr}{o:Obj}(e:h.get? b=some o)(n:H b=none):(vK h H).get? b=some o:=
 PySem.W.hideAll_get _ e λB=>by have q:(H b).isSome=true:=(Cj.mp B).2;rw[n] at q;simp at q
theorem aHe{h:Heap}{H:Hp}{b:Addr}{o:Obj}(e:(vK h H).get? b=some o):h.get? b=some o/\H b=none:=by
 have B:h.get? b=some o:=PySem.W.of_hideAll (trk h H) e;refine⟨B,?_⟩;cases q:H b with
 | none=>rfl|some x=>have I:b∈trk h H:=Cj.mpr ⟨AC.mpr (Aq B),by simp[q]⟩;have z:(vK h H).get? b=none:=PySem.W.hideAll_none (trk h H) I;rw[z] at e;cases e
noncomputable def aHf(g h:Heap)(L:Addr):List (Addr×Obj):=(Ai h.objs.size).filterMap λa=>if a=L\/(g.get? a).isSome=true then none else (h.get? a).map λo=>(a,o)
noncomputable def rest(g h:Heap)(L d:Addr):List (Addr×Obj):=(aHf g h L).filter λp=>decide (p.1≠d)
structure Mod (K:Ap) (mg:Str->Option Ad) (base:Heap):Prop where
 kin:K.In base
 glob:base.Ns Bo mg
 blt:∃mb,base.Ns FU mb/\∀x:Str,x ≠ "__name__" -> mb x=BD x
 nolimit:base.NoLimit
set_option genInjectivity true in
set_option genInjectivity true in
structure Cx where
 prog:A2
 w:AL
 K:Ap
 mg:Str->Option Ad
 base:Heap
 A:Be
 N:List Str
 s₀:Ag
 H₀:Hp
 env:IT
 outer:List IT
 stack:List IT
 ex:List Addr
 fn:Str->Bool
 calm:Bool
 pn:List (Addr×Obj)
 xe:Ad->Ag->Prop
noncomputable def frs(l:List IT):List Addr:=l.filterMap (·.frame)
abbrev Cx.fs(X:Cx):List Addr:=frs X.outer
noncomputable def Vis(sc:Da)(x:Str):Prop:=sc.names.lookup x=some .local\/sc.names.lookup x=some .cell\/sc.names.lookup x=some .free
noncomputable def Loc(sc:Da)(x:Str):Prop:=sc.names.lookup x=some .local\/sc.names.lookup x=some .cell
noncomputable def aPO(env:IT)(h:Heap)(m:Str->Option Ad)(x:Str)(u:Ad):Prop:=
 (env.kindOf x=some .local/\m x=some u)\/((env.kindOf x=some .cell\/env.kindOf x=some .free)/\∃c,env.cells.lookup x=some c/\h.IsCell c (some u))
structure Cx.Ok (X:Cx):Prop where
 mod:Mod X.K X.mg X.base
 kind:X.env.scope.kind=.function
 glob:X.env.globals=Bo
 blt:X.env.builtins=FU
 above:X.s₀.heap.objs.size<=X.env.locals
 inj:∀x y c,X.env.cells.lookup x=some c->X.env.cells.lookup y=some c->x=y
 has:∀x,(X.env.kindOf x=some .cell\/X.env.kindOf x=some .free)->∃c,X.env.cells.lookup x=some c
 cab:∀x c,X.fn x=true->X.env.cells.lookup x=some c->X.s₀.heap.objs.size<=c
 hd:X.calm=true->X.A.handled=none
 frames:X.A.frames=some X.stack
 stk:X.stack=X.outer\/(X.stack=X.env::X.outer/\X.env.frame=some X.env.locals)
 exf:∀b∈X.ex,b≠X.env.locals/\∀x c,X.env.cells.lookup x=some c->c≠b
 bs:∀b o,X.base.get? b=some o->X.s₀.heap.get? b=some o/\X.H₀ b=none
 bsz:X.base.objs.size<=X.s₀.heap.objs.size
 noex:∀b o,X.base.get? b=some o->b∉X.ex
 exfs:∀b∈X.ex,b∉X.fs
 funs:X.s₀.heap.FunFrames X.base X.outer
 frf:∀b∈X.fs,X.H₀ b=none
structure Inv (X:Cx) (G:List (Addr×Obj)) (Z:List (Option V)) (H:Hp) (s:Ag):Prop where
 ok:X.Ok
 os:s.os=X.s₀.os
 bare:Ex s.gens
 base:Un X.fs X.ex X.H₀ H X.s₀.heap s.heap
 loc:∃m,s.heap.Ns X.env.locals m/\∀(i:Nat) (x:Str) (v:V),X.N[i]? = some x->Z[i]? = some (some v)->Vis X.env.scope x->∃u,cC v u/\aPO X.env s.heap m x u
 cell:∀x c,X.env.cells.lookup x=some c->∃v,s.heap.IsCell c v
 free:H X.env.locals=none
 freeC:∀x c,X.env.cells.lookup x=some c->H c=none
 pin:∀p∈X.pn++G,s.heap.get? p.1=some p.2/\H p.1=none/\p.1≠X.env.locals/\p.1∉X.fs/\∀v,p.2.data≠.cell v
 hok:HOk X.prog X.w H s.heap
 len:Z.length=X.N.length
section
variable {X:Cx} {G:List (Addr×Obj)} {Z:List (Option V)} {H H':Hp} {s:Ag} {h':Heap}
theorem Cx.Ok.nofr(ok:X.Ok){b:Addr}{o:Obj}(e:X.base.get? b=some o):b∉X.fs:=λq=>by have:=(ok.funs.mem q).1;rw[e] at this;cases this
theorem Inv.bs(I:Inv X G Z H s):∀b o,X.base.get? b=some o->s.heap.get? b=some o/\H b=none:=λb o e=>⟨I.base.keep b o (I.ok.bs b o e).1 (I.ok.bs b o e).2 (I.ok.nofr e) (I.ok.noex b o e),I.base.free b o (I.ok.bs b o e).1 (I.ok.bs b o e).2 (I.ok.noex b o e)⟩
theorem Inv.bk(I:Inv X G Z H s):∀b o,X.base.get? b=some o->s.heap.get? b=some o:=λb o e=>(I.bs b o e).1
theorem Inv.mod(I:Inv X G Z H s):Mod X.K X.mg X.base:=I.ok.mod
theorem Inv.kIn(I:Inv X G Z H s):X.K.In s.heap:=I.ok.mod.kin.keeps I.bk
theorem Inv.lt(I:Inv X G Z H s):X.env.locals<s.heap.objs.size:=let ⟨_,hn,_⟩:=I.loc;hn.lt
theorem Inv.sz(I:Inv X G Z H s):X.s₀.heap.objs.size<=s.heap.objs.size:=AM I.ok.above (Ea I.lt)
theorem Inv.nofs(I:Inv X G Z H s){a:Addr}(h:s.heap.objs.size<=a):a∉X.fs:=λq=>by obtain⟨_,o,B,_⟩:=I.ok.funs.mem q;exact absurd (A1 (Aq B) (AM I.sz h)) (Br _)
theorem Inv.cne(I:Inv X G Z H s):∀x c,X.env.cells.lookup x=some c->c≠X.env.locals:=λx c e z=>by obtain⟨v,o,L,hd⟩:=I.cell x c e;obtain⟨m,⟨o',es,ep,q,B,_⟩,_⟩:=I.loc;rw[z,q] at L;grind
theorem Inv.funs(I:Inv X G Z H s):s.heap.FunFrames X.base X.outer:=by
 have all:∀(l:List IT),(∀b∈frs l,b∈X.fs)->X.s₀.heap.FunFrames X.base l->s.heap.FunFrames X.base l:=by
  intro l
  induction l with
  | nil=>intro _ _;trivial|cons env r ih=>intro hs hl;obtain⟨W,⟨L,o,U,hn,ho,hd⟩,hr⟩:=hl;have q:=hs L (by unfold frs;rw[C3,U];grind);obtain⟨sl,e⟩:=I.base.slot L o ho (I.ok.frf L q) q λz=>I.ok.exfs L z q;exact⟨W,⟨L,_,U,hn,e,hd⟩,ih (λb B=>hs b (by unfold frs;rw[C3,U];exact Al _ B)) hr⟩
 exact all X.outer (λ_ B=>B) I.ok.funs
theorem Inv.stack(I:Inv X G Z H s):s.heap.FunFrames X.base X.stack:=by
 rcases I.ok.stk with e|⟨e,q⟩
 rw[e];exact I.funs;rw[e];obtain⟨m,B,_⟩:=I.loc;exact .cons (by rw[I.ok.kind];decide) q B (Heap.get?_none_of_le (AM I.ok.bsz I.ok.above)) I.funs
theorem Inv.stkSub(I:Inv X G Z H s):∀b∈frs X.stack,b∈X.env.locals::X.fs:=λb q=>by
 rcases I.ok.stk with e|⟨e,B⟩
 rw[e] at q;grind;rw[e] at q;unfold frs at q;rw[C3,B] at q;exact q
theorem Inv.stkFree(I:Inv X G Z H s):∀b∈frs X.stack,H b=none:=λb q=>by rcases A4.mp (I.stkSub b q) with e|q;rw[e];exact I.free;obtain⟨_,o,B,_⟩:=I.ok.funs.mem q;exact I.base.free b o B (I.ok.frf b q) λz=>I.ok.exfs b z q
theorem Inv.step{g':Array Fu}{t':Nat}{d':Drawn}{ch:List Addr}(I:Inv X G Z H s)
 (L:∀b∈ch,(b∈X.ex\/X.s₀.heap.objs.size<=b)/\b≠X.env.locals/\(∀x c,X.env.cells.lookup x=some c->c≠b)/\∀p∈X.pn++G,p.1≠b)
 (keep:∀b o,b≠X.env.locals->b∉X.fs->b∉ch->s.heap.get? b=some o->H b=none->h'.get? b=some o)
 (slot:∀b o,b≠X.env.locals->b∈X.fs->b∉ch->s.heap.get? b=some o->H b=none->∃sl,h'.get? b=some { o with slots:=sl }) (free:∀b o,b∉ch->s.heap.get? b=some o->H b=none->H' b=none)
 (there:∀b o,b∉ch->s.heap.get? b=some o->∃o',h'.get? b=some o')
 (tups:∀b xs,H b=some (.tup xs)->H' b=some (.tup xs)) (frzs:∀b o u,H b=some (.frz o u)->H' b=some (.frz o u)) (tbls:∀b ps,H b=some (.tbl ps)->∃more,H' b=some (.tbl (ps++more)))
 (ns:∀m,s.heap.Ns X.env.locals m->h'.Ns X.env.locals m) (hok:HOk X.prog X.w H' h') (hg:Ex g') :
 Inv X G Z H' { s with heap:=h',gens:=g',drawn:=d',toks:=t' }:=by
 have U:∀b o,X.s₀.heap.get? b=some o->b∉X.ex->b∉ch:=λb o e B hb=>by rcases(L b hb).1 with z|z;exact B z;exact absurd (A1 (Aq e) z) (Br _)
 have q0:∀x c,X.env.cells.lookup x=some c->∀v,s.heap.IsCell c v->h'.IsCell c v:=λx c e v ⟨o,ho,hd⟩=>by have q1:c∉ch:=λz=>(L c z).2.2.1 x c e rfl;by_cases hc:c∈X.fs;obtain⟨sl,q⟩:=slot c o (I.cne x c e) hc q1 ho (I.freeC x c e);exact⟨_,q,hd⟩;exact⟨o,keep c o (I.cne x c e) hc q1 ho (I.freeC x c e),hd⟩
 refine⟨I.ok,I.os,hg,⟨λb o e n hb B=>?_,λb o e n hb B=>?_,λb o e n B=>?_,λb o e B=>?_,λb xs e=>tups b xs (I.base.tups b xs e),λb o xs e=>frzs b o xs (I.base.frzs b o xs e),λb ps e=>?_⟩,?_,λx c e=>?_,?_,λx c e=>?_,λp hp=>?_,hok,I.len⟩;exact keep b o ((λb o e=>AB (A1 (Aq e) I.ok.above)) b o e) hb (U b o e B) (I.base.keep b o e n hb B) (I.base.free b o e n B);obtain⟨sl,W⟩:=I.base.slot b o e n hb B;obtain⟨q2,e2⟩:=slot b _ ((λb o e=>AB (A1 (Aq e) I.ok.above)) b o e) hb (U b o e B) W (I.base.free b o e n B);exact⟨q2,e2⟩;obtain⟨o',W⟩:=I.base.there b o e B;exact free b o' (U b o e B) W (I.base.free b o e n B);obtain⟨o',W⟩:=I.base.there b o e B;exact there b o' (U b o e B) W;obtain⟨m1,W⟩:=I.base.tbls b ps e;grind;obtain⟨m,hn,hl⟩:=I.loc;refine⟨m,ns m hn,λi x v W e2 e3=>?_⟩;obtain⟨u,r,l⟩:=hl i x v W e2 e3;refine⟨u,r,?_⟩;rcases l with l|⟨k,c,e,z⟩
 exact .inl l;exact .inr ⟨k,c,e,q0 x c e _ z⟩;obtain⟨v,z⟩:=I.cell x c e;grind;obtain⟨m,⟨o,_,_,ho,_⟩,_⟩:=I.loc;exact free _ o (λz=>(L _ z).2.1 rfl) ho I.free;obtain⟨v,o,ho,hd⟩:=I.cell x c e;exact free c o (λz=>(L c z).2.2.1 x c e rfl) ho (I.freeC x c e);obtain⟨e,n,ne,nf,d⟩:=I.pin p hp;grind
theorem Inv.un{t':Nat}(I:Inv X G Z H s)(u:Un X.fs [] H H' s.heap h')(hok:HOk X.prog X.w H' h'):Inv X G Z H' { s with heap:=h',toks:=t' }:=by
 obtain⟨m,⟨o,es,ep,W,r⟩,_⟩:=id I.loc;obtain⟨sl,hL⟩:=u.any W I.free (by simp);exact I.step (ch:=[]) (λ_ z=>nomatch z) (λb o _ U _ e n=>u.keep b o e n U (by simp)) (λb o _ U _ e n=>u.slot b o e n U (by simp)) (λb o _ e n=>u.free b o e n (by simp)) (λb o _ e=>u.there b o e (by simp)) u.tups u.frzs u.tbls (λm' hm=>by
  obtain⟨o',L,B,q,r'⟩:=hm;rw[W] at q;cases q;exact⟨_,L,B,hL,r'⟩) hok I.bare
theorem Inv.call{g':Array Fu}{t':Nat}{d':Drawn}{ch:List Addr}(I:Inv X G Z H s)(u:Un (frs X.stack) ch H H' s.heap h')(hok:HOk X.prog X.w H' h')(hg:Ex g')
 (B:∀b∈ch,(b∈X.ex\/X.s₀.heap.objs.size<=b)/\b≠X.env.locals/\(∀x c,X.env.cells.lookup x=some c->c≠b)/\∀p∈X.pn++G,p.1≠b) :
 Inv X G Z H' { s with heap:=h',gens:=g',drawn:=d',toks:=t' }:=by
 obtain⟨m,⟨o,es,ep,ho,r⟩,_⟩:=id I.loc;obtain⟨sl,hL⟩:=u.any ho I.free λz=>(B _ z).2.1 rfl;exact I.step B (λb o hL hb q e n=>u.keep b o e n (λz=>(A4.mp (I.stkSub b z)).elim hL hb) q) (λb o _ _ q e n=>u.any e n q) (λb o q e n=>u.free b o e n q) (λb o q e=>u.there b o e q) u.tups u.frzs u.tbls (λm' hm=>by
  obtain⟨o',W,U,L,r'⟩:=hm;rw[ho] at L;cases L;exact⟨_,W,U,hL,r'⟩) hok hg
theorem Inv.turned{t':Nat}{it:Addr}(I:Inv X G Z H s)(k:∀b o,b≠it->s.heap.get? b=some o->h'.get? b=some o)(hn:H it=none)(L:it≠X.env.locals)
 (h1:it∈X.ex\/X.s₀.heap.objs.size<=it) (h2:∀x c,X.env.cells.lookup x=some c->c≠it) (U:∀p∈X.pn++G,p.1≠it):Inv X G Z H { s with heap:=h',toks:=t' }:=by
 refine I.step (ch:=[it]) (λb W=>?_) (λb o _ _ B e _=>k b o (λz=>B (by simp[z])) e) (λb o _ _ B e _=>⟨o.slots,k b o (λz=>B (by simp[z])) e⟩) (λ_ _ _ _ n=>n)
  (λb o B e=>⟨o,k b o (λz=>B (by simp[z])) e⟩) (λ_ _ e=>e) (λ_ _ _ e=>e) (λb ps e=>⟨#[],by rw[e];simp⟩) (λm hm=>?_) (λb u e=>?_) I.bare
 have e:b=it:=by simpa using W
 subst e;exact⟨h1,L,h2,U⟩;obtain⟨o,es,ep,ho,r⟩:=hm;exact⟨o,es,ep,k _ o (Dj L) ho,r⟩;refine(I.hok b u e).stay (λc v B q=>k c v ?_ q) (λ_ q=>q) λ_ _ q=>q;grind
theorem Inv.tok(I:Inv X G Z H s)(t:Nat):Inv X G Z H { s with toks:=t }:=I.un Un.refl I.hok
theorem Inv.kept{t':Nat}(I:Inv X G Z H s)(k:∀b u,s.heap.get? b=some u->h'.get? b=some u):Inv X G Z H { s with heap:=h',toks:=t' }:=I.un (Un.kept k) (I.hok.kept k)
theorem Inv.laid{a:Addr}{o:HO}{t':Nat}(I:Inv X G Z H s)(k:∀b u,s.heap.get? b=some u->h'.get? b=some u)(q:s.heap.objs.size<=a)(new:fS X.prog X.w (upd H a o) h' a o) :
 Inv X G Z (upd H a o) { s with heap:=h',toks:=t' }:=I.un (Un.laid k q (I.hok.fresh q)) (I.hok.laid k q new)
theorem Inv.write{x e:Addr}{o:HO}{t':Nat}(I:Inv X G Z H s)(L:Mut (H x))(B:e=x\/H e=some (.own x))(k:∀b u,b≠e->s.heap.get? b=some u->h'.get? b=some u)(q:∃u,h'.get? e=some u)
 (new:fS X.prog X.w (upd H x o) h' x o):Inv X G Z (upd H x o) { s with heap:=h',toks:=t' }:=I.un (Un.write L B k q) (I.hok.write L B k q new)
theorem Inv.pins_of{pins':List (Addr×Obj)}(I:Inv X G Z H s)(h:∀p∈pins',s.heap.get? p.1=some p.2/\H p.1=none/\p.1≠X.env.locals/\p.1∉X.fs/\∀v,p.2.data≠.cell v):Inv X pins' Z H s:=
 ⟨I.ok,I.os,I.bare,I.base,I.loc,I.cell,I.free,I.freeC,λp q=>(Bl.mp q).elim (λz=>I.pin p (AY _ z)) (h p),I.hok,I.len⟩
theorem yA{N:List Str}(I:N.Nodup){i j:Nat}{x:Str}(a:N[i]? = some x)(b:N[j]? = some x):i=j:=by obtain⟨h1,q⟩:=Au.mp a;obtain⟨h2,B⟩:=Au.mp b;exact(List.getElem_inj I).mp (q.trans B.symm)
theorem tY{M:JD}{A:Be}{E:Ad->Ag->Prop}{i:Nat}{x:Str}{v:V}{u:Ad}{Q:Unit->Ag->Prop}(I:Inv X G Z H s)(hN:X.N.Nodup)(hi:X.N[i]? = some x)(U:Loc X.env.scope x)(r:cC v u)
 (h:∀s',Inv X G (Z.set i (some v)) H s'->(∃a,B9 a s.heap s'.heap/\(a=X.env.locals\/X.env.cells.lookup x=some a))->Q () s') (hf:X.fn x=true\/X.env.scope.names.lookup x=some .local:=by first|exact .inl rfl|exact .inr rfl|assumption):Aw M A (storeName X.env x u) Q E s:=by
 obtain⟨m,hn,hl⟩:=id I.loc;have L:∀{a:Addr} {h':Heap},(∃o,s.heap.get? a=some o/\H a=none)->B9 a s.heap h'->HOk X.prog X.w H h':=λ{a h'} ha hs b ob e=>by obtain⟨_,_,q3⟩:=ha;refine(I.hok b ob e).stay (λc w' W q=>(hs.2 c ?_).trans q) (λ_ q=>q) λ_ _ q=>q;grind
 rcases U with hk|hk;refine wpAny_storeName_local hk hn (λh' q4 hs=>?_) (by rw[I.ok.kind];rfl);obtain⟨oL,_,_,q5,_⟩:=id hn;refine h _ ⟨I.ok,I.os,I.bare,⟨λb o e n hb U=>?_,λb o e n hb U=>?_,I.base.free,λb o e U=>?_,I.base.tups,I.base.frzs,I.base.tbls⟩,⟨_,q4,λj y v' B e2 e3=>?_⟩,λy c e=>?_,I.free,I.freeC,λp hp=>?_,L ⟨oL,q5,I.free⟩ hs,by simpa using I.len⟩ ⟨_,hs,.inl rfl⟩;exact(hs.2 b (AB (A1 (Aq e) I.ok.above))).trans (I.base.keep b o e n hb U);obtain⟨sl,B⟩:=I.base.slot b o e n hb U;exact⟨sl,(hs.2 b (AB (A1 (Aq e) I.ok.above))).trans B⟩;obtain⟨o',B⟩:=I.base.there b o e U;exact⟨o',(hs.2 b (AB (A1 (Aq e) I.ok.above))).trans B⟩;by_cases hj:j=i;subst hj;rw[hi] at B;cases B;rw[Az (by rw[I.len];grind)] at e2;cases e2;exact⟨u,r,.inl ⟨hk,by simp⟩⟩;rw[Af (Dj hj)] at e2;obtain⟨u',r',q⟩:=hl j y v' B e2 e3;refine⟨u',r',?_⟩;rcases q with⟨k,e⟩|⟨k,c,e,z⟩
 refine .inl ⟨k,?_⟩;have:y≠x:=λe=>hj (yA hN B (e▸hi));grind;exact .inr ⟨k,c,e,z.sameBut hs (I.cne y c e)⟩;obtain⟨w',z⟩:=I.cell y c e;exact⟨w',z.sameBut hs (I.cne y c e)⟩;obtain⟨e,n,ne,nf,d⟩:=I.pin p hp;exact⟨(hs.2 p.1 ne).trans e,n,ne,nf,d⟩;have q0:X.fn x=true:=by grind
 obtain⟨c,W⟩:=I.ok.has x (.inl hk);obtain⟨w',z⟩:=I.cell x c W;refine wpAny_storeName_cell I.ok.kind hk W z (λh' q1 hs=>?_);obtain⟨oc,q6,q7⟩:=id z;refine h { s with heap:=h' } ⟨I.ok,I.os,I.bare,⟨λb o e n hb U=>?_,λb o e n hb U=>?_,I.base.free,λb o e U=>?_,I.base.tups,I.base.frzs,I.base.tbls⟩,⟨m,hn.sameBut hs (Dj (I.cne x c W)),λj y v' B e2 e3=>?_⟩,λy c' e=>?_,I.free,I.freeC,λp hp=>?_,L ⟨oc,q6,I.freeC x c W⟩ hs,by simpa using I.len⟩ ⟨c,hs,.inr W⟩;exact(hs.2 b (AB (A1 (Aq e) (I.ok.cab x c q0 W)))).trans (I.base.keep b o e n hb U);obtain⟨sl,B⟩:=I.base.slot b o e n hb U;exact⟨sl,(hs.2 b (AB (A1 (Aq e) (I.ok.cab x c q0 W)))).trans B⟩;obtain⟨o',B⟩:=I.base.there b o e U;exact⟨o',(hs.2 b (AB (A1 (Aq e) (I.ok.cab x c q0 W)))).trans B⟩;by_cases hj:j=i;subst hj;rw[hi] at B;cases B;rw[Az (by rw[I.len];grind)] at e2;cases e2;exact⟨u,r,.inr ⟨.inl hk,c,W,q1⟩⟩;rw[Af (Dj hj)] at e2;obtain⟨u',r',q⟩:=hl j y v' B e2 e3;refine⟨u',r',?_⟩;rcases q with q|⟨k,c',e,z'⟩
 exact .inl q;refine .inr ⟨k,c',e,z'.sameBut hs ?_⟩;rintro rfl;exact hj (yA hN B (I.ok.inj _ _ _ e W▸hi));by_cases q2:c'=c;grind;obtain⟨w2,z2⟩:=I.cell y c' e;exact⟨w2,z2.sameBut hs q2⟩;obtain⟨e,n,ne,nf,d⟩:=I.pin p hp;refine⟨(hs.2 p.1 ?_).trans e,n,ne,nf,d⟩;grind
theorem yB{M:JD}{A:Be}{E:Ad->Ag->Prop}{i:Nat}{x:Str}{v:V}{u:Ad}{Q:Unit->Ag->Prop}(I:Inv X G Z H s)(B:X.N.Nodup)(hi:X.N[i]? = some x)(U:Loc X.env.scope x)(r:cC v u)
 (h:∀s',Inv X G (Z.set i (some v)) H s'->Q () s') (L:X.fn x=true\/X.env.scope.names.lookup x=some .local:=by first|exact .inl rfl|exact .inr rfl|assumption):Aw M A (storeName X.env x u) Q E s:=
 tY I B hi U r (λs' q _=>h s' q) L
theorem Inv.call'{s':Ag}{ch:List Addr}(I:Inv X G Z H s)(L:s'.os=s.os)(u:Un (frs X.stack) ch H H' s.heap s'.heap)(hok:HOk X.prog X.w H' s'.heap)(B:Ex s'.gens)
 (q:∀b∈ch,(b∈X.ex\/X.s₀.heap.objs.size<=b)/\b≠X.env.locals/\(∀x c,X.env.cells.lookup x=some c->c≠b)/\∀p∈X.pn++G,p.1≠b):Inv X G Z H' s':=by obtain⟨h',W,U,t',o'⟩:=s';subst L;exact I.call u hok B q
end
abbrev XK:=Ad->Option Addr->Hp->Prop
abbrev St:=List (Option V)
abbrev VK:=V->Hp->Prop
abbrev TE:=St->Hp->VK->Prop
abbrev TT:=St->Hp->(Bool->Hp->Prop)->Prop
abbrev TA:=St->Hp->(List V->Hp->Prop)->Prop
structure Ends where
 nx:St->Hp->Prop
 rt:VK
 bk:St->Hp->Prop:=λ_ _=>False
 ct:St->Hp->Prop:=λ_ _=>False
abbrev TS:=Ends->St->Hp->Prop
noncomputable def EP(X:Cx)(G:List (Addr×Obj))(Z:St)(Q:VK)(u:Ad)(s':Ag):Prop:=∃v H',Inv X G Z H' s'/\cC v u/\Q v H'
noncomputable def TP(X:Cx)(G:List (Addr×Obj))(Z:St)(Q:Bool->Hp->Prop)(b:Bool)(s':Ag):Prop:=∃H',Inv X G Z H' s'/\Q b H'
noncomputable def AP(X:Cx)(G:List (Addr×Obj))(Z:St)(Q:List V->Hp->Prop)(us:List Ad)(s':Ag):Prop:=∃vs H',Inv X G Z H' s'/\bJ vs us/\Q vs H'
noncomputable def SP(X:Cx)(G:List (Addr×Obj))(D:Ends)(f:Flow)(s':Ag):Prop:=
 match f with
 | .next=>∃Z' H',Inv X G Z' H' s'/\D.nx Z' H'|.brk=>∃Z' H',Inv X G Z' H' s'/\D.bk Z' H'|.cont=>∃Z' H',Inv X G Z' H' s'/\D.ct Z' H'|.ret u=>∃v Z' H',Inv X G Z' H' s'/\cC v u/\D.rt v H'
noncomputable def PE(X:Cx)(e:A7)(t:TE):Prop:=
 ∀(G:List (Addr×Obj)) (s:Ag) (Z:St) (H:Hp) (Q:VK),Inv X G Z H s->t Z H Q->Aw (AA X.prog X.w) X.A (Dm e X.env) (EP X G Z Q) X.xe s
noncomputable def PT(X:Cx)(e:A7)(t:TT):Prop:=
 ∀(G:List (Addr×Obj)) (s:Ag) (Z:St) (H:Hp) (Q:Bool->Hp->Prop),Inv X G Z H s->t Z H Q->Aw (AA X.prog X.w) X.A (isTrue e X.env (Dm e X.env)) (TP X G Z Q) X.xe s
noncomputable def PW(X:Cx)(e:A7)(t:TT):Prop:=
 ∀(whole:JC Ad) (G:List (Addr×Obj)) (s:Ag) (Z:St) (H:Hp) (Q:Bool->Hp->Prop),Inv X G Z H s->t Z H Q->Aw (AA X.prog X.w) X.A (isTrue e X.env whole) (TP X G Z Q) X.xe s
theorem PW.pt{X:Cx}{e:A7}{t:TT}(h:PW X e t):PT X e t:=h _
noncomputable def PA(X:Cx)(es:List A7)(t:TA):Prop:=
 ∀(pos:Dy) (G:List (Addr×Obj)) (s:Ag) (Z:St) (H:Hp) (Q:List V->Hp->Prop),Inv X G Z H s->t Z H Q->Aw (AA X.prog X.w) X.A (IC (E2 pos (Bj es X.env))) (AP X G Z Q) X.xe s
noncomputable def PS(X:Cx)(st:Cg)(t:TS):Prop:=
 ∀(G:List (Addr×Obj)) (s:Ag) (Z:St) (H:Hp) (D:Ends),Inv X G Z H s->t D Z H->Aw (AA X.prog X.w) X.A (exec st X.env) (SP X G D) X.xe s
noncomputable def PSs(X:Cx)(st:List Cg)(t:TS):Prop:=
 ∀(G:List (Addr×Obj)) (s:Ag) (Z:St) (H:Hp) (D:Ends),Inv X G Z H s->t D Z H->Aw (AA X.prog X.w) X.A (execs st X.env) (SP X G D) X.xe s
theorem thn{α:Type}{t:JC α}{Q q:α->Ag->Prop}{M:JD}{A:Be}{E:Ad->Ag->Prop}{s:Ag}(h:Aw M A t Q E s)(B:∀a s,Q a s->q a s):Aw M A t q E s:=C8 h B λ_ _ x=>x
section
variable {X:Cx}
noncomputable def aJK(i:Nat):TE:=λZ H Q=>∃v,Z[i]? = some (some v)/\Q v H
noncomputable def tC(v:V):TE:=λ_ H Q=>Q v H
theorem vL{i:Nat}{x:Str}{pos:Dy}(hN:X.N[i]? = some x)(hv:Vis X.env.scope x)(hd:(x==("__debug__" : Str))=false:=by decide)(U:(x==("__classdict__" : Str))=false:=by decide):PE X (.Name x pos) (aJK i):=by
 intro G s Z H Q I h;obtain⟨v,e,h⟩:=h;obtain⟨m,hn,hl⟩:=I.loc;obtain⟨u,r,l⟩:=hl i x v hN e hv;have B:EP X G Z Q u s:=⟨v,H,I,r,h⟩
 rcases l with⟨L,hm⟩|⟨L,c,W,q⟩
 exact Hq (wpAny_loadName_local I.ok.kind L hn hm B) hd;rcases L with L|L;exact Hq (wpAny_loadName_cell I.ok.kind L W q B) hd;exact Hq (wpAny_loadName_free I.ok.kind L W q B U) hd
theorem aAB{i j pos}:PE X (.Constant (.int i) j pos) (tC (.int i)):=λ_ _ _ H _ I h=>wpAny_Constant_int ⟨.int i,H,I.tok _,⟨_,rfl⟩,h⟩
theorem aMN{b j pos}:PE X (.Constant (.bool b) j pos) (tC (.bl b)):=λ_ _ _ H _ I h=>Constant_bool ⟨.bl b,H,I,rfl,h⟩
theorem aJL{j pos}:PE X (.Constant .none j pos) (tC .non):=λ_ _ _ H _ I h=>Constant_none ⟨.non,H,I,rfl,h⟩
theorem aJM{x j pos}:PE X (.Constant (.str x) j pos) (tC (.str x)):=λ_ _ _ H _ I h=>Calls.Constant_str ⟨.str x,H,I.tok _,⟨_,rfl⟩,h⟩
noncomputable def Gl(X:Cx)(x:Str):Prop:=X.env.kindOf x=some .globalImplicit
theorem vM{E:Ad->Ag->Prop}{G:List (Addr×Obj)}{s:Ag}{Z:St}{H:Hp}{x:Str}{u:Ad}{pos:Dy}{Q:Ad->Ag->Prop}(I:Inv X G Z H s)(q:Gl X x)(B:X.mg x=some u)(h:Q u s)
 (hd:(x==("__debug__" : Str))=false:=by decide):Aw (AA X.prog X.w) X.A (Dm (.Name x pos) X.env) Q E s:=
 Ei I.ok.kind q (Calls.loadGlobal_global (by rw[I.ok.glob];exact I.mod.glob.keeps I.bk) B h) hd
theorem fL{E:Ad->Ag->Prop}{G:List (Addr×Obj)}{s:Ag}{Z:St}{H:Hp}{x:Str}{u:Ad}{pos:Dy}{Q:Ad->Ag->Prop}(I:Inv X G Z H s)(q:Gl X x)(B:X.mg x=none)(U:BD x=some u)(h:Q u s)
 (L:x ≠ "__name__" := by decide) (hd:(x==("__debug__" : Str))=false:=by decide):Aw (AA X.prog X.w) X.A (Dm (.Name x pos) X.env) Q E s:=by obtain⟨mb,h1,h2⟩:=I.mod.blt;exact Ei I.ok.kind q (Calls.loadGlobal_builtin (by rw[I.ok.glob];exact I.mod.glob.keeps I.bk) B (by rw[I.ok.blt];exact h1.keeps I.bk) ((h2 x L).trans U) h) hd
theorem aBE{x:Str}{v:V}{u:Ad}{pos:Dy}(q:Gl X x)(B:X.mg x=some u)(r:cC v u)(hd:(x==("__debug__" : Str))=false:=by decide):PE X (.Name x pos) (tC v):=
 λ_ _ _ H _ I h=>vM I q B ⟨v,H,I,r,h⟩ hd
variable {a b:A7} {ta tb:TE} {pos:Dy}
variable {tA tB':TT} {rest:List A7}
noncomputable def aPP(t u:TT):TT:=λZ H Q=>t Z H λc H1=>if c=true then u Z H1 Q else Q false H1
noncomputable def tOr(t u:TT):TT:=λZ H Q=>t Z H λc H1=>if c=true then Q true H1 else u Z H1 Q
noncomputable def aPQ(t:TT):TT:=λZ H Q=>t Z H λc H1=>Q (!c) H1
theorem aHg(q:PT X a tA):PW X (.BoolOp .And [a] pos) tA:=by
 intro B G s Z H Q I h;refine isTrue_and (thn (q G s Z H Q I h) λc s1 e=>?_);cases c with
 | true=>exact isTrue_and_nil e|false=>exact e
theorem aJN(q:PT X a tA):PW X (.BoolOp .Or [a] pos) tA:=by
 intro B G s Z H Q I h;refine isTrue_or (thn (q G s Z H Q I h) λc s1 e=>?_);cases c with
 | false=>exact isTrue_or_nil e|true=>exact e
theorem aJO(L:PT X a tA)(U:PW X (.BoolOp .And (b::rest) pos) tB'):PW X (.BoolOp .And (a::b::rest) pos) (aPP tA tB'):=by
 intro W G s Z H Q I h;refine isTrue_and (thn (L G s Z H _ I h) λc s1 ⟨H1,q,B⟩=>?_);cases c with
 | true=>exact U W G s1 Z H1 Q q B|false=>exact⟨H1,q,B⟩
theorem aMO(L:PT X a tA)(U:PW X (.BoolOp .Or (b::rest) pos) tB'):PW X (.BoolOp .Or (a::b::rest) pos) (tOr tA tB'):=by
 intro W G s Z H Q I h;refine isTrue_or (thn (L G s Z H _ I h) λc s1 ⟨H1,q,B⟩=>?_);cases c with
 | true=>exact⟨H1,q,B⟩|false=>exact U W G s1 Z H1 Q q B
theorem aJP(q:PT X a tA):PT X (.UnaryOp .Not a pos) (aPQ tA):=by intro G s Z H Q I h;exact isTrue_not (q G s Z H (λc H1=>Q (!c) H1) I h)
noncomputable def aMP(ta tb:TE):TE:=λZ H Q=>ta Z H λx H1=>∃c,x=.bl c/\if c=true then tb Z H1 Q else Q (.bl false) H1
noncomputable def aPR(ta tb:TE):TE:=λZ H Q=>ta Z H λx H1=>∃c,x=.bl c/\if c=true then Q (.bl true) H1 else tb Z H1 Q
theorem aEl{op}{t:TE}(h:PE X a t):PE X (.BoolOp op [a] pos) t:=λG s Z H Q I q=>BoolOp_one (h G s Z H Q I q)
theorem aJQ(L:PE X a ta)(U:PE X (.BoolOp .And (b::rest) pos) tb):PE X (.BoolOp .And (a::b::rest) pos) (aMP ta tb):=by
 intro G s Z H Q I h;refine BoolOp_and (thn (L G s Z H _ I h) λv s1 ⟨x,H1,B,W,q⟩=>?_);obtain⟨c,rfl,q⟩:=q;cases W;refine B5 ?_;cases c with
 | true=>exact U G s1 Z H1 Q B q|false=>exact⟨.bl false,H1,B,rfl,q⟩
theorem aMQ(L:PE X a ta)(U:PE X (.BoolOp .Or (b::rest) pos) tb):PE X (.BoolOp .Or (a::b::rest) pos) (aPR ta tb):=by
 intro G s Z H Q I h;refine BoolOp_or (thn (L G s Z H _ I h) λv s1 ⟨x,H1,B,W,q⟩=>?_);obtain⟨c,rfl,q⟩:=q;cases W;refine B5 ?_;cases c with
 | false=>exact U G s1 Z H1 Q B q|true=>exact⟨.bl true,H1,B,rfl,q⟩
noncomputable def tIf(t:TT)(ta tb:TE):TE:=λZ H Q=>t Z H λc H1=>if c=true then ta Z H1 Q else tb Z H1 Q
theorem aEm{c:A7}(W:PT X c tA)(L:PE X a ta)(U:PE X b tb):PE X (.IfExp c a b pos) (tIf tA ta tb):=by
 intro G s Z H Q I h;refine wpAny_IfExp (thn (W G s Z H _ I h) λd s1 ⟨H1,q,B⟩=>?_);cases d with
 | true=>exact L G s1 Z H1 Q q B|false=>exact U G s1 Z H1 Q q B
end
noncomputable def SqL(K:Ap)(H:Hp)(a:Addr)(xs:List V):Prop:=
 Rd H a (.lst xs) \/
  ∃(o:Obj) (its:Array Ad) (n:Nat),K.lookup a=some o/\o.cls=.type "list" /\ o.dict=none/\o.data=.seq its n/\its.size<=sizeLine/\bJ xs its.toList
noncomputable def SqT(K:Ap)(H:Hp)(a:Addr)(xs:List V):Prop:=
 Rd H a (.tup xs) \/
  ∃(o:Obj) (its:Array Ad) (n:Nat),K.lookup a=some o/\o.cls=.type "tuple" /\ o.data=.seq its n/\its.size<=sizeLine/\bJ xs its.toList
noncomputable def aPS:Ad->Option V
 | .none=>some .non|.bool b=>some (.bl b)|.int i _=>some (.int i)|.str x _=>some (.str x)|.ref a=>some (.ref a)|.type n=>some (.ty n)|_=>none
theorem cC.abs{x:V}{u:Ad}(r:cC x u):aPS u=some x:=by
 cases x with
 | non=>cases r;rfl|bl _=>cases r;rfl|int _=>obtain⟨t,rfl⟩:=r;rfl|str _=>obtain⟨t,rfl⟩:=r;rfl|ref _=>cases r;rfl|ty _=>cases r;rfl
theorem cC.inj{x y:V}{u:Ad}(r:cC x u)(q:cC y u):x=y:=A9 (r.abs.symm.trans q.abs)
theorem bJ.inj:∀{xs q:List V} {us:List Ad},bJ xs us->bJ q us->xs=q
 | _,_,_,.nil,.nil=>rfl|_,_,_,.cons r t,.cons r' t'=>by rw[r.inj r',bJ.inj t t']
section
variable {X:Cx} {G:List (Addr×Obj)} {Z:St} {H:Hp} {s:Ag} {a:Addr} {xs ys:List V}
theorem SqL.of{K:Ap}(h:H a=some (.lst xs)):SqL K H a xs:=.inl (.inl h)
theorem SqT.of{K:Ap}(h:H a=some (.tup xs)):SqT K H a xs:=.inl (.inl h)
theorem Inv.list(I:Inv X G Z H s)(h:SqL X.K H a xs):∃q:List Ad,bJ xs q/\PlainL s.heap a q.toArray/\xs.length<=sizeLine:=by
 rcases h with h|⟨o,q,n,L,B,hd,hs,U,r⟩
 obtain⟨z,q,n,r,e⟩:=h.ok I.hok;exact⟨q,r,⟨_,n,e,rfl,rfl,rfl⟩,z⟩;refine⟨q.toList,r,⟨o,n,I.kIn a o L,B,hd,by simpa using hs⟩,?_⟩;have e:=r.length;grind
theorem Inv.tuple(I:Inv X G Z H s)(h:SqT X.K H a xs):∃q:List Ad,bJ xs q/\IsTup s.heap a q.toArray/\xs.length<=sizeLine:=by
 rcases h with h|⟨o,q,n,L,B,hs,U,r⟩
 obtain⟨z,q,r,p⟩:=h.ok I.hok;exact⟨q,r,p,z⟩;refine⟨q.toList,r,⟨o,I.kIn a o L,B,n,by simpa using hs⟩,?_⟩;have e:=r.length;grind
theorem Inv.list_inj(I:Inv X G Z H s)(h:SqL X.K H a xs)(h':SqL X.K H a ys):xs=ys:=by
 obtain⟨q,r,⟨o,n,e,_,_,d⟩,_⟩:=I.list h;obtain⟨its',U,⟨o',W,L,_,_,B⟩,_⟩:=I.list h';rw[e] at L;cases L;rw[d] at B;injection B with d1 _
 have:q=its':=by grind
 subst this;exact r.inj U
theorem Inv.tuple_inj(I:Inv X G Z H s)(h:SqT X.K H a xs)(h':SqT X.K H a ys):xs=ys:=by
 obtain⟨q,r,⟨o,e,_,n,d⟩,_⟩:=I.tuple h;obtain⟨its',U,⟨o',L,_,W,B⟩,_⟩:=I.tuple h';rw[e] at L;cases L;rw[d] at B;injection B with d1 _
 have:q=its':=by grind
 subst this;exact r.inj U
end
abbrev Cx.wish(X:Cx)(E:Ad->Ag->Prop):Cx:={ X with xe:=E }
abbrev Cx.nox(X:Cx):Cx:=X.wish λ_ _=>False
theorem Cx.Ok.wish{X:Cx}(ok:X.Ok)(E:Ad->Ag->Prop):(X.wish E).Ok:=
 ⟨ok.mod,ok.kind,ok.glob,ok.blt,ok.above,ok.inj,ok.has,ok.cab,ok.hd,ok.frames,ok.stk,ok.exf,ok.bs,ok.bsz,ok.noex,ok.exfs,ok.funs,ok.frf⟩
theorem Cx.Ok.unwish{X:Cx}{E:Ad->Ag->Prop}(ok:(X.wish E).Ok):X.Ok:=
 ⟨ok.mod,ok.kind,ok.glob,ok.blt,ok.above,ok.inj,ok.has,ok.cab,ok.hd,ok.frames,ok.stk,ok.exf,ok.bs,ok.bsz,ok.noex,ok.exfs,ok.funs,ok.frf⟩
section
variable {X:Cx} {G:List (Addr×Obj)} {Z:St} {H:Hp} {s:Ag} {E:Ad->Ag->Prop}
theorem Inv.wish(I:Inv X G Z H s)(E:Ad->Ag->Prop):Inv (X.wish E) G Z H s:=⟨I.ok.wish E,I.os,I.bare,I.base,I.loc,I.cell,I.free,I.freeC,I.pin,I.hok,I.len⟩
theorem Inv.unwish(I:Inv (X.wish E) G Z H s):Inv X G Z H s:=⟨I.ok.unwish,I.os,I.bare,I.base,I.loc,I.cell,I.free,I.freeC,I.pin,I.hok,I.len⟩
theorem SP.unwish{D:Ends}{f:Flow}{s':Ag}(h:SP (X.wish E) G D f s'):SP X G D f s':=by
 cases f with
 | next=>obtain⟨Z',H',I,q⟩:=h;exact⟨Z',H',I.unwish,q⟩|brk=>obtain⟨Z',H',I,q⟩:=h;exact⟨Z',H',I.unwish,q⟩|cont=>obtain⟨Z',H',I,q⟩:=h;exact⟨Z',H',I.unwish,q⟩|ret u=>obtain⟨v,Z',H',I,r,q⟩:=h;exact⟨v,Z',H',I.unwish,r,q⟩
theorem PSs.nox{st:List Cg}{t:TS}(h:PSs X.nox st t):PSs X st t:=λG s Z H D I B=>C8 (h G s Z H D (I.wish _) B) (λ_ _ q=>q.unwish) λ_ _ z=>Dp z
end
section
variable {X:Cx} {st:Cg} {rest:List Cg} {t u:TS} {e:A7} {te:TE} {pos:Dy}
noncomputable def aIW:TS:=λD Z H=>D.nx Z H
noncomputable def aPT(t u:TS):TS:=λD Z H=>t { D with nx:=u D } Z H
theorem aBF:PSs X [] aIW:=λ_ _ Z H _ I h=>Dk ⟨Z,H,I,h⟩
theorem aEn(h1:PS X st t)(h2:PSs X rest u):PSs X (st::rest) (aPT t u):=by
 intro G s Z H D I h;refine GD (thn (h1 G s Z H { D with nx:=u D } I h) λf s1 q=>?_);cases f with
 | next=>obtain⟨Z',H',B,q⟩:=q;exact h2 G s1 Z' H' D B q|ret v=>exact q|brk=>exact q|cont=>exact q
theorem aBG(h1:PS X st t):PSs X [st] t:=by
 intro G s Z H D I h;refine GD (thn (h1 G s Z H D I h) λf s1 q=>?_);cases f with
 | next=>exact Dk q|ret v=>exact q|brk=>exact q|cont=>exact q
noncomputable def aJR:TS:=λD Z H=>D.bk Z H
noncomputable def aMR:TS:=λD Z H=>D.ct Z H
theorem aHh:PS X (.Pass pos) aIW:=λ_ _ Z H _ I h=>wpAny_Pass ⟨Z,H,I,h⟩
theorem aEo:PS X (.Break pos) aJR:=λ_ _ Z H _ I h=>wpAny_Break ⟨Z,H,I,h⟩
theorem yC:PS X (.Continue pos) aMR:=λ_ _ Z H _ I h=>wpAny_Continue ⟨Z,H,I,h⟩
theorem Inv.quiet{G:List (Addr×Obj)}{Z:St}{H:Hp}{s:Ag}(I:Inv X G Z H s):IU X.env=false:=by simp[IU,I.ok.kind]
noncomputable def aMS(te:TE):TS:=λD Z H=>te Z H λ_ H1=>D.nx Z H1
theorem iP(B:PE X e te)(hs:Iw e none pos.line X.env=pure false:=by rfl):PS X (.Expr e pos) (aMS te):=by intro G s Z H D I h;exact wpAny_Expr_any (thn (B G s Z H _ I h) λv s1 ⟨x,H1,q,U,L⟩=>⟨Z,H1,q,L⟩) I.quiet hs
noncomputable def aPU(te:TE):TS:=λD Z H=>te Z H D.rt
theorem aEp(B:PE X e te):PS X (.Return (some e) pos) (aPU te):=by intro G s Z H D I h;exact wpAny_Return_some (thn (B G s Z H _ I h) λv s1 ⟨x,H1,q,U,L⟩=>⟨x,Z,H1,q,U,L⟩)
noncomputable def aMT:TS:=λD _ H=>D.rt .non H
theorem aHi:PS X (.Return none pos) aMT:=λ_ _ Z H _ I h=>wpAny_Return_none ⟨.non,Z,H,I,rfl,h⟩
noncomputable def aPV(c:TT)(t u:TS):TS:=λD Z H=>c Z H λb H1=>if b=true then t D Z H1 else u D Z H1
theorem aIX{c:A7}{a b:List Cg}{tc:TT}(W:PT X c tc)(L:PSs X a t)(U:PSs X b u):PS X (.If c a b pos) (aPV tc t u):=by
 intro G s Z H D I h;refine wpAny_If (thn (W G s Z H _ I h) λd s1 ⟨H1,q,B⟩=>?_);cases d with
 | true=>exact L G s1 Z H1 D q B|false=>exact U G s1 Z H1 D q B
noncomputable def aJS:TS:=λ_ _ _=>False
theorem aEq:PS X st aJS:=λ_ _ _ _ _ _ h=>h.elim
end
abbrev TG:=V->St->Hp->(St->Hp->Prop)->Prop
abbrev TGs:=List V->St->Hp->(St->Hp->Prop)->Prop
noncomputable def PG(X:Cx)(target:A7)(t:TG):Prop:=
 ∀(G:List (Addr×Obj)) (s:Ag) (Z:St) (H:Hp) (v:V) (u:Ad) (Q:St->Hp->Prop),Inv X G Z H s->cC v u->t v Z H Q ->
  Aw (AA X.prog X.w) X.A (Hr target X.env u) (λ_ s'=>∃Z' H',Inv X G Z' H' s'/\Q Z' H') X.xe s
noncomputable def PGs(X:Cx)(ts:List A7)(t:TGs):Prop:=
 ∀(G:List (Addr×Obj)) (s:Ag) (Z:St) (H:Hp) (vs:List V) (us:List Ad) (Q:St->Hp->Prop),Inv X G Z H s->bJ vs us->t vs Z H Q ->
  Aw (AA X.prog X.w) X.A (assignInOrder ((C9 ts X.env).map (·.2)) us) (λ_ s'=>∃Z' H',Inv X G Z' H' s'/\Q Z' H') X.xe s
abbrev aJT:=V->V->V->Hp->(Hp->Prop)->Prop
noncomputable def aJU(X:Cx)(t:aJT):Prop:=
 ∀(G:List (Addr×Obj)) (s:Ag) (Z:St) (H:Hp) (o i v:V) (ov iv u:Ad) (Q:Hp->Prop),Inv X G Z H s->cC o ov->cC i iv->cC v u->t o i v H Q ->
  Aw (AA X.prog X.w) X.A (setItem ov iv u) (λ_ s'=>∃H',Inv X G Z H' s'/\Q H') X.xe s
section
variable {X:Cx} {pos:Dy}
noncomputable def yD(i:Nat):TG:=λv Z H Q=>Q (Z.set i (some v)) H
theorem pT{i:Nat}{x:Str}(B:X.N.Nodup)(hi:X.N[i]? = some x)(U:Loc X.env.scope x)(L:X.fn x=true\/X.env.scope.names.lookup x=some .local:=by first|exact .inl rfl|exact .inr rfl|assumption):PG X (.Name x pos) (yD i):=by intro G s Z H v u Q I r h;exact Gq (yB I B hi U r (λs' q=>⟨_,H,q,h⟩) L)
noncomputable def aMU:TGs:=λvs Z H Q=>vs=[]/\Q Z H
noncomputable def aIY(t:TG)(u:TGs):TGs:=λvs Z H Q=>∃v r,vs=v::r/\t v Z H λZ' H'=>u r Z' H' Q
theorem aHj:PGs X [] aMU:=by intro G s Z H vs us Q I r h;obtain⟨e,h⟩:=h;subst e;cases r;exact assignInOrder_nil ⟨Z,H,I,h⟩
theorem aEr{e:A7}{es:List A7}{t:TG}{u:TGs}(h1:PG X e t)(h2:PGs X es u)
 (hs:(C9 (e::es) X.env).map (·.2)=Hr e X.env::(C9 es X.env).map (·.2):=by rfl):PGs X (e::es) (aIY t u):=by
 intro G s Z H vs us Q I r h;obtain⟨v,W,L,h⟩:=h;subst L;cases r with
 | cons r rr=>rw[hs];exact assignInOrder_cons (thn (h1 G s Z H _ _ _ I r h) λ_ s1 ⟨B,H1,q,U⟩=>(h2 G s1 B H1 _ _ Q q rr U))
noncomputable def aMV(K:Ap)(n:Nat)(t:TGs):TG:=λv Z H Q=>∃a xs,v=.ref a/\SqT K H a xs/\xs.length=n/\t xs Z H Q
theorem aJV{es:List A7}{k:Nat}{t:TGs}{n:Nat}(U:X.calm=true)(h:PGs X es t)
 (hn:(C9 es X.env).length=n:=by rfl) (q:(C9 es X.env).findIdx? (·.1)=none:=by rfl):PG X (.Tuple es k pos) (aMV X.K n t):=by intro G s Z H v u Q I r B;obtain⟨a,xs,L,hq,W,B⟩:=B;subst L;cases r;obtain⟨q0,rv,ht,hz⟩:=I.tuple hq;exact assign_Tuple_tuple (I.ok.hd U) ht (by simp[hn,<-W,rv.length]) q λh' hx=>(h G _ Z H xs _ Q (I.kept λb o e=>hx b o (AB (Aq e)) e) (by grind) B)
noncomputable def aPW(to ti:TE)(t:aJT):TG:=λv Z H Q=>to Z H λo H1=>ti Z H1 λi H2=>t o i v H2 λH3=>Q Z H3
theorem aEs{o i:A7}{to L:TE}{t:aJT}(ho:PE X o to)(hi:PE X i L)(hs:aJU X t)
 (ha:∀v,Hr (.Subscript o i pos) X.env v=(do
  let q<-FC [v] (Dm o X.env)
  let B<-FC [v,q] (Dm i X.env)
  J0 pos
  FC [v,q,B] (setItem q B v)
  release [v,q,B] []):=by intro _;rfl):PG X (.Subscript o i pos) (aPW to L t):=by intro G s Z H v u Q I r h;rw[ha];refine Aa (B8 (thn (ho G s Z H _ I h) λq s1 ⟨x,H1,I1,r1,q1⟩=>?_));refine Aa (B8 (thn (hi G s1 Z H1 _ I1 q1) λB s2 ⟨y,U,I2,r2,q2⟩=>?_));exact Aa (FN (Aa (B8 (thn (hs G s2 Z U x y v q B u _ I2 r1 r2 r q2) λ_ s3 ⟨W,I3,q3⟩=>(wpAny_release ⟨Z,W,I3,q3⟩)))))
noncomputable def aJW(te:TE)(g:TG):TS:=λD Z H=>te Z H λx H1=>g x Z H1 D.nx
theorem vN{tg e:A7}{te:TE}{g:TG}(L:PE X e te)(U:PG X tg g)(hs:swapsWithSole [tg] e pos.line X.env=pure false:=by rfl)(W:swappedStores [tg] e X.env=pure none:=by rfl)
 (h1:(C9 [tg] X.env).map (·.2)=[Hr tg X.env]:=by rfl):PS X (.Assign [tg] e pos) (aJW te g):=by intro G s Z H D I h;refine wpAny_Assign_stores (thn (L G s Z H _ I h) λv s1 ⟨x,H1,B,r1,q1⟩=>?_) hs W;rw[h1];exact thn (U G s1 Z H1 x v _ B r1 q1) λ_ s2 q=>q
theorem vO{i:Nat}{x:Str}{e:A7}{te:TE}{q:Dy}(U:X.N.Nodup)(hi:X.N[i]? = some x)(hx:Loc X.env.scope x)(W:PE X e te)(hs:Iw e (some (.Name x q)) pos.line X.env=pure false:=by rfl)(hf:X.fn x=true\/X.env.scope.names.lookup x=some .local:=by first|exact .inl rfl|exact .inr rfl|assumption) :
 PS X (.Assign [.Name x q] e pos) (aJW te (yD i)):=by intro G s Z H D I h;exact wpAny_Assign_Name (thn (W G s Z H _ I h) λv s1 ⟨y,H1,B,r1,q1⟩=>(yB B U hi hx r1 (λs2 L=>⟨_,H1,L,q1⟩) hf)) hs
noncomputable def aJX(c:TT)(tb:TS):TS:=λD Z H=>∃W0:Nat->St->Hp->Prop,(∃m,W0 m Z H)/\∀m Z H,W0 m Z H ->
 c Z H λb H1=>if b=true then ∃N:St->Hp->Prop,(∀Z' H',N Z' H'->∃m',m'<m/\W0 m' Z' H')/\tb { D with nx:=N,ct:=N,bk:=D.nx } Z H1 else D.nx Z H1
theorem aEt{c:A7}{body:List Cg}{tc:TT}{tb:TS}(hp:PassesOwn (AA X.prog X.w) X.A X.env X.xe)(hc:PT X c tc)(hb:PSs X body tb):PS X (.While c body [] pos) (aJX tc tb):=by
 intro G s Z H D I h;obtain⟨W0,⟨m0,w0⟩,L⟩:=h;refine wpAny_While (codeAny_whileLoop (λn s'=>∃Z' H',Inv X G Z' H' s'/\W0 n Z' H') ?_ m0 ⟨Z,H,I,w0⟩);rintro n s1 ⟨U,H1,I1,w1⟩;refine Ck hp (thn (hc G s1 U H1 _ I1 (L n U H1 w1)) λb s2 ⟨H2,I2,W⟩=>?_);cases b with
 | true=>
  obtain⟨N,hN,W⟩:=W;rw[if_pos rfl];refine Ck hp (thn (hb G s2 U H2 _ I2 W) λf s3 q3=>?_);cases f with
  | next=>obtain⟨B,q,I3,n3⟩:=q3;obtain⟨m',hm,w3⟩:=hN B q n3;exact⟨m',hm,B,q,I3,w3⟩|cont=>obtain⟨B,q,I3,n3⟩:=q3;obtain⟨m',hm,w3⟩:=hN B q n3;exact⟨m',hm,B,q,I3,w3⟩|brk=>exact q3|ret v=>exact q3
 | false=>rw[if_neg Dl];exact Dk ⟨U,H2,I2,W⟩
end
structure It where
 go:Nat->Hp->Prop
 yld:Nat->Hp->V->Hp->Prop
 stop:Nat->Hp->Prop
noncomputable def mW(X:Cx)(G:List (Addr×Obj))(H:Hp)(b:Addr):Prop:=
 H b=none/\b≠X.env.locals/\b∉X.fs/\(b∈X.ex\/X.s₀.heap.objs.size<=b)/\(∀x c,X.env.cells.lookup x=some c->c≠b)/\∀p∈X.pn++G,p.1≠b
theorem Inv.fpOk{X:Cx}{G:List (Addr×Obj)}{Z:St}{H H':Hp}{s:Ag}{b:Addr}(I:Inv X G Z H s)(B:s.heap.objs.size<=b)(L:H' b=none):mW X G H' b:=by refine⟨L,BO (A1 I.lt B),I.nofs B,.inr (AM I.sz B),λx c e z=>?_,λp U z=>?_⟩;obtain⟨v,q⟩:=I.cell x c e;exact absurd (A1 q.lt (by rw[z];exact B)) (Br _);exact absurd (A1 (Aq (I.pin p U).1) (by rw[z];exact B)) (Br _)
structure vP (P:A2) (w:AL) (K:Ap) (tg:A7) (J'':It) (fp:List Addr) (it:Addr) (tn:Nat->Heap->Prop):Prop where
 mem:it∈fp
 obj:∀i h,tn i h->∀b∈fp,∃o,h.get? b=some o/\∀v,o.data≠.cell v
 keep:∀i h h',tn i h->(∀b∈fp,∀o,h.get? b=some o->h'.get? b=some o)->tn i h'
 item:∀(X:Cx),X.prog=P->X.w=w->X.K=K->X.calm=true->∀(i:Nat) (G:List (Addr×Obj)) (s:Ag) (Z:St) (H:Hp) (E:Ad->Ag->Prop),Inv X G Z H s->(∀b∈fp,mW X G H b)->tn i s.heap->J''.go i H ->
  Aw (AA P w) X.A (CK (.ref it)) (λr s1=>∃u,r=some u /\
   Aw (AA P w) X.A (DP tg (.ref it) u) (λ_ s2=>∃x H',Inv X G Z H' s2/\cC x u/\J''.yld i H x H'/\tn (i+1) s2.heap/\∀b∈fp,H' b=none) E s1) E s
 done:∀(X:Cx),X.prog=P->X.w=w->X.K=K->X.calm=true->∀(i:Nat) (G:List (Addr×Obj)) (s:Ag) (Z:St) (H:Hp) (E:Ad->Ag->Prop),Inv X G Z H s->(∀b∈fp,mW X G H b)->tn i s.heap->J''.stop i H ->
  Aw (AA P w) X.A (CK (.ref it)) (λr s1=>r=none/\Inv X G Z H s1) E s
 self:∀(A:Be) (i:Nat) (s:Ag) (Q:Ad->Ag->Prop) (E:Ad->Ag->Prop),tn i s.heap->Q (.ref it) s->Aw (AA P w) A (FV (.ref it)) Q E s
abbrev TI:=St->Hp->(It->Hp->Prop)->Prop
noncomputable def PIE(X:Cx)(G:List (Addr×Obj))(Z:St)(tg:A7)(R:It->Hp->Prop)(itv:Ad)(s2:Ag):Prop:=
 ∃(it:Addr) (fp:List Addr) (tn:Nat->Heap->Prop) (J'':It) (H':Hp),itv=.ref it/\Inv X G Z H' s2/\vP X.prog X.w X.K tg J'' fp it tn/\tn 0 s2.heap/\(∀b∈fp,mW X G H' b)/\R J'' H'
noncomputable def PI(X:Cx)(tg iter:A7)(wi:TI):Prop:=
 ∀(G:List (Addr×Obj)) (s:Ag) (Z:St) (H:Hp) (R:It->Hp->Prop),Inv X G Z H s->wi Z H R ->
  Aw (AA X.prog X.w) X.A (Dm iter X.env) (λv s1=>Aw (AA X.prog X.w) X.A (FV v) (PIE X G Z tg R) X.xe s1) X.xe s
theorem pD{M:JD}{A:Be}{E:Ad->Ag->Prop}{s:Ag}{tg:A7}{it:Addr}{u:Ad}{o:Obj}{n:String}{vs:Array Ad}{Q:Unit->Ag->Prop}(L:s.heap.get? it=some o)(B:o.cls=.type n)(hd:o.data=.fields vs)
 (I:["enumerate", "zip", "dict_itemiterator", "dict_reverseitemiterator", "odict_iterator", "itertools.zip_longest", "itertools.pairwise"].contains n=false) (q:Q () s):Aw M A (DP tg (.ref it) u) Q E s:=by
 unfold DP;cases tg <;> first
  | exact Ah q
  | (cases u <;> first
   | exact Ah q
   | (refine Aa (wpAny_load L ?_)
      rw[B,hd];show Aw M A (if (["enumerate", "zip", "dict_itemiterator", "dict_reverseitemiterator", "odict_iterator", "itertools.zip_longest", "itertools.pairwise"].contains n&&vs[0]?==some (BW _))=true then _ else _) Q E s;rw[if_neg (by intro h;rw[I,Hs] at h;cases h)];exact Ah q))
noncomputable def Itl(K:Ap)(a:Addr):It:=
 ⟨λi H=>∃xs x,SqL K H a xs/\xs[i]? = some x,λi H x H'=>H'=H/\∀xs,SqL K H a xs->xs[i]? = some x,λi H=>∃xs,SqL K H a xs/\xs.length<=i⟩
noncomputable def Itt(K:Ap)(a:Addr):It:=
 ⟨λi H=>∃xs x,SqT K H a xs/\xs[i]? = some x,λi H x H'=>H'=H/\∀xs,SqT K H a xs->xs[i]? = some x,λi H=>∃xs,SqT K H a xs/\xs.length<=i⟩
noncomputable def Itr(lo:Int)(n:Nat):It:=⟨λi _=>i<n,λi H x H'=>H'=H/\x=.int (lo+i),λi _=>n<=i⟩
theorem tZ{P:A2}{w:AL}{K:Ap}{tg:A7}(a it:Addr):vP P w K tg (Itl K a) [it] it (λi h=>h.IsListIter it a i) where
 mem:=by simp
 obj:=λi h st b q=>by
  have e:b=it:=by grind
  subst e;obtain⟨o,e,c,d⟩:=st;grind
 keep:=λi h h' st k=>st.at λo e=>k it (by simp) o e
 item:=by intro X hP hw W hc i G s Z H E I L st hg;subst hP hw W;obtain⟨xs,x,U,hx⟩:=hg;obtain⟨q0,rv,p,hz⟩:=I.list U;obtain⟨u,hu,ru⟩:=rv.get hx;obtain⟨f0,f1,f2,f3,f4,f5⟩:=L it (by simp);refine wpAny_pyNext_list_item st p.isList (by simpa using hu) λh' B sb=>?_;obtain⟨o,e,c,d⟩:=id B;exact⟨u,rfl,pD e c d (by decide) ⟨x,H,(I.turned (λb o q e=>(sb.2 b q).trans e) f0 f1 f3 f4 f5),ru,⟨rfl,λys hy=>by rw[I.list_inj hy U];exact hx⟩,B,λb q=>(L b q).1⟩⟩
 done:=by intro X hP hw W hc i G s Z H E I L st hg;subst hP hw W;obtain⟨xs,U,hx⟩:=hg;obtain⟨q0,rv,p,hz⟩:=I.list U;obtain⟨f0,f1,f2,f3,f4,f5⟩:=L it (by simp);have hl:=rv.length;exact wpAny_pyNext_list_end (I.ok.hd hc) st p.isList (by simp;omega) λh' eb=>⟨rfl,I.turned (λb o q e=>eb b o q e) f0 f1 f3 f4 f5⟩
 self:=λ_ _ _ _ _ st h=>wpAny_pyIter_listiter st h
theorem aAC{P:A2}{w:AL}{K:Ap}{tg:A7}(a it:Addr):vP P w K tg (Itt K a) [it] it (λi h=>h.IsTupleIter it a i) where
 mem:=by simp
 obj:=λi h st b q=>by
  have e:b=it:=by grind
  subst e;obtain⟨o,e,c,d⟩:=st;grind
 keep:=λi h h' st k=>st.at λo e=>k it (by simp) o e
 item:=by intro X hP hw W hc i G s Z H E I L st hg;subst hP hw W;obtain⟨xs,x,U,hx⟩:=hg;obtain⟨q0,rv,p,hz⟩:=I.tuple U;obtain⟨u,hu,ru⟩:=rv.get hx;obtain⟨f0,f1,f2,f3,f4,f5⟩:=L it (by simp);refine wpAny_pyNext_tuple_item st (p) (by simpa using hu) λh' B sb=>?_;obtain⟨o,e,c,d⟩:=id B;exact⟨u,rfl,pD e c d (by decide) ⟨x,H,(I.turned (λb o q e=>(sb.2 b q).trans e) f0 f1 f3 f4 f5),ru,⟨rfl,λys hy=>by rw[I.tuple_inj hy U];exact hx⟩,B,λb q=>(L b q).1⟩⟩
 done:=by intro X hP hw W hc i G s Z H E I L st hg;subst hP hw W;obtain⟨xs,U,hx⟩:=hg;obtain⟨q0,rv,p,hz⟩:=I.tuple U;obtain⟨f0,f1,f2,f3,f4,f5⟩:=L it (by simp);have hl:=rv.length;exact wpAny_pyNext_tuple_end (I.ok.hd hc) st (p) (by simp;omega) λh' eb=>⟨rfl,I.turned (λb o q e=>eb b o q e) f0 f1 f3 f4 f5⟩
 self:=λ_ _ _ _ _ st h=>wpAny_pyIter_tupleiter st h
theorem aAD{P:A2}{w:AL}{K:Ap}{tg:A7}(it:Addr)(lo:Int)(n:Nat):vP P w K tg (Itr lo n) [it] it (λi h=>GR h it (lo+(i:Nat)*1) ((n:Int)-(i:Nat)) 1) where
 mem:=by simp
 obj:=λi h st b q=>by grind
 keep:=λi h h' st k=>k it (by simp) _ st
 item:=by intro X W hw U hc i G s Z H E I L st hg;subst W hw U;obtain⟨f0,f1,f2,f3,f4,f5⟩:=L it (by simp);refine(IV (I.ok.hd hc) it lo 1 n).item i s _ _ hg st λv h' tk hv B kk=>?_;obtain⟨t,rfl⟩:=hv;refine⟨_,rfl,pD B rfl rfl (by decide) ⟨.int (lo+i),H,(I.turned (λb o q e=>kk b o (by grind) e) f0 f1 f3 f4 f5),⟨t,?_⟩,⟨rfl,rfl⟩,B,λb q=>(L b q).1⟩⟩;rw[Int.mul_one]
 done:=by intro X W hw U hc i G s Z H E I L st hg;subst W hw U;obtain⟨f0,f1,f2,f3,f4,f5⟩:=L it (by simp);exact EJ (I.ok.hd hc) st (by have:n<=i:=hg;omega) λh' eb=>⟨rfl,I.turned (λb o q e=>eb b o q e) f0 f1 f3 f4 f5⟩
 self:=λ_ _ _ _ _ st h=>EK st h
section
variable {X:Cx} {tg:A7}
noncomputable def aMW(K:Ap)(tl:TE):TI:=λZ H R=>tl Z H λx H1=>∃a,x=.ref a/\(∃xs,SqL K H1 a xs)/\R (Itl K a) H1
theorem aHk{l:A7}{L:TE}(U:PE X l L):PI X tg l (aMW X.K L):=by
 intro G s Z H R I h;refine thn (U G s Z H _ I h) λv s1 ⟨x,H1,B,r1,q1⟩=>?_;obtain⟨a,e,⟨xs,W⟩,q⟩:=q1;subst e;cases r1;obtain⟨q0,rv,p,hz⟩:=B.list W;refine BS p.isList ?_;refine⟨s1.heap.objs.size,[s1.heap.objs.size],_,_,H1,rfl,B.kept λb o e=>Ab _ e,tZ a _,⟨_,An _ rfl,rfl,rfl⟩,λb hb=>?_,q⟩;have e:b=s1.heap.objs.size:=by grind
 subst e;exact B.fpOk (Ao _) (B.hok.fresh (Ao _))
theorem yE{G:List (Addr×Obj)}{Z:St}{H:Hp}{s:Ag}{R:It->Hp->Prop}{E:Ad->Ag->Prop}{lo hi:Int}{t u v:Ho}{tk:Nat}(I:Inv X G Z H s)(h1:-(2 ^ 62)<=lo)(h2:lo<2 ^ 62)(W:-(2 ^ 62)<=hi)(h4:hi<2 ^ 62)
 (q:R (Itr lo (hi-lo).toNat) H):Aw (AA X.prog X.w) X.A (FV (.ref s.heap.objs.size)) (PIE X G Z tg R) E { s with heap:=s.heap.push { cls:=.type "range",data:=.fields #[.int lo t,.int hi u,.int 1 v] },toks:=tk }:=by
 refine FW (IW ..) (small_one h1 h2 W h4) ?_;have B:Inv X G Z H { s with heap:=s.heap.push { cls:=.type "range",data:=.fields #[.int lo t,.int hi u,.int 1 v] },toks:=tk }:=I.kept λb o e=>Ab _ e;refine⟨(s.heap.push { cls:=.type "range",data:=.fields #[.int lo t,.int hi u,.int 1 v] }).objs.size,[(s.heap.push { cls:=.type "range",data:=.fields #[.int lo t,.int hi u,.int 1 v] }).objs.size],_,_,H,rfl,
  B.kept λb o e=>Ab _ e,aAD _ lo (hi-lo).toNat,?_,λb hb=>?_,q⟩
 have L:lo+((0:Nat):Int)*1=lo:=by simp
 have U:(((hi-lo).toNat:Nat):Int)-((0:Nat):Int)=BA lo hi 1:=by rw[rangeSize_one];split <;> omega
 rw[L,U];exact An _ rfl;have e:b=(s.heap.push { cls:=.type "range",data:=.fields #[.int lo t,.int hi u,.int 1 v] }).objs.size:=by grind
 subst e;exact B.fpOk (Ao _) (B.hok.fresh (Ao _))
noncomputable def aMX(ta:TA):TI:=λZ H R=>ta Z H λvs H1=>∃j:Int,vs=[.int j]/\-(2 ^ 62)<=j/\j<2 ^ 62/\R (Itr 0 j.toNat) H1
noncomputable def aMY(ta:TA):TI:=λZ H R=>ta Z H λvs H1=>∃i j:Int,vs=[.int i,.int j]/\(-(2 ^ 62)<=i/\i<2 ^ 62/\-(2 ^ 62)<=j/\j<2 ^ 62)/\R (Itr i (j-i).toNat) H1
theorem aCQ{a:A7}{L:TA}{p pos:Dy}(hg:Gl X "range")(hm:X.mg "range" = none)(W:PA X [a] L)(hs:Bj [a] X.env=[(false,Dm a X.env)]:=by rfl):PI X tg (.Call (.Name "range" p) [a] [] pos) (aMX L):=by
 intro G s Z H R I h;refine J1 (fL I hg hm Ht (AX (thn (W pos G s Z H _ I h) λus s1 ⟨vs,H1,U,r1,B⟩=>?_) hs rfl));obtain⟨j,e,B,q2,q⟩:=B;subst e;cases r1 with
 | cons r rr=>cases rr;obtain⟨t,rfl⟩:=r;exact call_range_1 (yE U (by omega) (by omega) B q2 (by simpa using q))
theorem aCR{a b:A7}{U:TA}{p pos:Dy}(hg:Gl X "range")(hm:X.mg "range" = none)(ha:PA X [a,b] U)(hs:Bj [a,b] X.env=[(false,Dm a X.env),(false,Dm b X.env)]:=by rfl)(B:Bj [b] X.env=[(false,Dm b X.env)]:=by rfl) :
 PI X tg (.Call (.Name "range" p) [a,b] [] pos) (aMY U):=by
 intro G s Z H R I h;refine J1 (fL I hg hm Ht (AX (thn (ha pos G s Z H _ I h) λus s1 ⟨vs,H1,W,r1,L⟩=>?_) (by rw[hs,B]) (by rw[B];rfl)));obtain⟨i,j,e,⟨L,q2,q3,q4⟩,q⟩:=L;subst e;cases r1 with
 | cons r rr=>
  cases rr with
  | cons r' rr=>cases rr;obtain⟨t,rfl⟩:=r;obtain⟨t',rfl⟩:=r';exact call_range_2 (yE W L q2 q3 q4 q)
noncomputable def aPX(wi:TI)(g:TG)(tb:TS):TS:=λD Z H=>wi Z H λJ'' H1=>∃W0:Nat->Nat->St->Hp->Prop,(∃m,W0 0 m Z H1)/\∀i m Z H,W0 i m Z H ->
 (J''.stop i H/\D.nx Z H)\/(J''.go i H/\∃N:St->Hp->Prop,(∀Z' H',N Z' H'->∃m',m'<m/\W0 (i+1) m' Z' H')/\∀x H',J''.yld i H x H'->g x Z H' λZ2 H2=>tb { D with nx:=N,ct:=N,bk:=D.nx } Z2 H2)
noncomputable def qO(fp:List Addr)(h:Heap):List (Addr×Obj):=fp.filterMap λb=>(h.get? b).map λo=>(b,o)
theorem iQ{fp:List Addr}{h:Heap}{b:Addr}{o:Obj}(q:b∈fp)(e:h.get? b=some o):(b,o)∈qO fp h:=Cc.mpr ⟨b,q,by rw[e];rfl⟩
theorem aCS{fp:List Addr}{h:Heap}{p:Addr×Obj}(B:p∈qO fp h):p.1∈fp/\h.get? p.1=some p.2:=by
 obtain⟨b,I,e⟩:=Cc.mp B;cases q:h.get? b with
 | none=>rw[q] at e;cases e|some o=>rw[q] at e;grind
theorem Inv.pinned{G:List (Addr×Obj)}{Z:St}{H:Hp}{s:Ag}{fp:List Addr}(I:Inv X G Z H s)(B:∀b∈fp,mW X G H b)(U:∀b∈fp,∃o,s.heap.get? b=some o/\∀v,o.data≠.cell v):Inv X (G++qO fp s.heap) Z H s:=
 I.pins_of λp L=>(Bl.mp L).elim (λz=>I.pin p (A5 _ z)) λz=>by obtain⟨q,e⟩:=aCS z;obtain⟨f0,f1,f2,_⟩:=B p.1 q;grind
theorem Inv.unpinned{G pl:List (Addr×Obj)}{Z:St}{H:Hp}{s:Ag}(I:Inv X (G++pl) Z H s):Inv X G Z H s:=I.pins_of λp q=>I.pin p (A5 _ (AY _ q))
theorem aEu{q0:A7}{body:List Cg}{wi:TI}{g:TG}{tb:TS}{pos:Dy}(hp:PassesOwn (AA X.prog X.w) X.A X.env X.xe)(hc:X.calm=true)(hi:PI X tg q0 wi)(hg:PG X tg g)(W:PSs X body tb)
 (hs:∀x,BU q0 X.env x=pure x:=by intro _;rfl):PS X (.For tg q0 body [] pos) (aPX wi g tb):=by
 intro G s Z H D I h;refine wpAny_For (thn (hi G s Z H _ I h) λv s1 h1=>thn h1 λw4 s2 h2=>?_) hs;obtain⟨it,fp,tn,J'',H2,e,I2,T,q9,f2,W0,⟨m0,w0⟩,q5⟩:=h2;subst e;have q1:∀{H':Hp},(∀b∈fp,H' b=none)->∀b∈fp,mW X G H' b:=λhn b W=>⟨hn b W,(f2 b W).2⟩
 refine codeAny_forLoop_any (λn s'=>∃i Z' H',Inv X G Z' H' s'/\tn i s'.heap/\(∀b∈fp,H' b=none)/\W0 i n Z' H') ?_ m0 ⟨0,Z,H2,I2,q9,λb W=>(f2 b W).1,w0⟩;rintro n s3 ⟨i,Z3,H3,I3,q4,q3,w3⟩;rcases q5 i n Z3 H3 w3 with⟨stop,qn⟩|⟨go,N,hN,step⟩
 refine Ck hp (thn (T.done X rfl rfl rfl hc i G s3 Z3 H3 X.xe I3 (q1 q3) q4 stop) λr s4 ⟨hr,I4⟩=>?_);subst hr;exact Dk ⟨Z3,H3,I4,qn⟩;refine Ck hp (thn (T.item X rfl rfl rfl hc i G s3 Z3 H3 X.xe I3 (q1 q3) q4 go) λr s4 ⟨u,hr,h4⟩=>?_);subst hr;refine Ck hp (thn h4 λ_ s5 ⟨x,H5,I5,r5,y5,q2,q8⟩=>?_);refine Ck hp (thn (hg _ s5 Z3 H5 x u _ (I5.pinned (q1 q8) (T.obj _ _ q2)) r5 (step x H5 y5)) λ_ s6 ⟨Z6,H6,I6,q6⟩=>?_);refine Ck hp (thn (W _ s6 Z6 H6 _ I6 q6) λf s7 q7=>?_);have U:∀{L:St} {q:Hp},Inv X (G++qO fp s5.heap) L q s7->N L q->∃m,m<n/\∃i Z' H',Inv X G Z' H' s7/\tn i s7.heap/\(∀b∈fp,H' b=none)/\W0 i m Z' H':=λ{L q} B n7=>by obtain⟨m',hm,w7⟩:=hN L q n7;refine⟨m',hm,i+1,L,q,B.unpinned,T.keep _ _ _ q2 λb W o e=>(B.pin (b,o) (A5 _ (A5 _ (iQ W e)))).1,λb W=>?_,w7⟩;obtain⟨o,e,d⟩:=T.obj _ _ q2 b W;exact(B.pin (b,o) (A5 _ (A5 _ (iQ W e)))).2.1
 cases f with
 | next=>obtain⟨L,q,B,n7⟩:=q7;exact U B n7|cont=>obtain⟨L,q,B,n7⟩:=q7;exact U B n7|brk=>obtain⟨L,q,B,q7⟩:=q7;exact⟨L,q,B.unpinned,q7⟩|ret v=>obtain⟨x7,L,q,B,r7,q7⟩:=q7;exact⟨x7,L,q,B.unpinned,r7,q7⟩
end
theorem aEv{K:Ap}{a:Addr}{xs:List V}{g:TG}{tb:TS}{D:Ends}{Z:St}{H:Hp}(B:Nat->St->Hp->Prop)(h0:B 0 Z H)(hl:∀i Z H,i<=xs.length->B i Z H->SqL K H a xs)
 (hs:∀i x Z H,xs[i]? = some x->B i Z H->g x Z H λW L=>tb { D with nx:=B (i+1),ct:=B (i+1),bk:=D.nx } W L) (hd:∀Z H,B xs.length Z H->D.nx Z H) :
 ∃U:Nat->Nat->St->Hp->Prop,(∃m,U 0 m Z H)/\∀i m Z H,U i m Z H ->
  ((Itl K a).stop i H/\D.nx Z H)\/((Itl K a).go i H/\∃N:St->Hp->Prop,(∀Z' H',N Z' H'->∃m',m'<m/\U (i+1) m' Z' H')/\∀x H',(Itl K a).yld i H x H'->g x Z H' λW L=>tb { D with nx:=N,ct:=N,bk:=D.nx } W L):=by
 refine⟨λi m Z H=>m=xs.length-i/\i<=xs.length/\B i Z H,⟨xs.length,by simp,B6 _,h0⟩,?_⟩;rintro i m Z H ⟨rfl,hi,p⟩;have q:=hl i Z H hi p;by_cases I:i<xs.length;refine .inr ⟨⟨xs,xs[i],q,by simp[I]⟩,B (i+1),λZ' H' p'=>⟨xs.length-(i+1),by omega,rfl,I,p'⟩,λx H' y=>?_⟩;obtain⟨e,y⟩:=y;subst e;exact hs i x Z _ (y xs q) p;have e:i=xs.length:=by omega
 subst e;exact .inl ⟨⟨xs,q,Ao _⟩,hd Z H p⟩
abbrev R2:=V->V->Hp->VK->Prop
noncomputable def OpR(X:Cx)(f:Ad->Ad->JC Ad)(r:R2):Prop:=
 ∀(G:List (Addr×Obj)) (s:Ag) (Z:St) (H:Hp) (x y:V) (v u:Ad) (Q:VK),Inv X G Z H s->cC x v->cC y u->r x y H Q ->
  Aw (AA X.prog X.w) X.A (f v u) (EP X G Z Q) X.xe s
noncomputable def UnR(X:Cx)(f:Ad->JC Ad)(r:V->Hp->VK->Prop):Prop:=
 ∀(G:List (Addr×Obj)) (s:Ag) (Z:St) (H:Hp) (x:V) (v:Ad) (Q:VK),Inv X G Z H s->cC x v->r x H Q ->
  Aw (AA X.prog X.w) X.A (f v) (EP X G Z Q) X.xe s
noncomputable def gM(X:Cx)(f:Ad)(r:List V->Hp->VK->Prop):Prop:=
 ∀(G:List (Addr×Obj)) (s:Ag) (Z:St) (H:Hp) (xs:List V) (us:List Ad) (Q:VK),Inv X G Z H s->bJ xs us->r xs H Q ->
  Aw (AA X.prog X.w) X.A (call f us) (EP X G Z Q) X.xe s
noncomputable def aPY(X:Cx)(r:V->Hp->(Bool->Hp->Prop)->Prop):Prop:=
 ∀(G:List (Addr×Obj)) (s:Ag) (Z:St) (H:Hp) (x:V) (v:Ad) (Q:Bool->Hp->Prop),Inv X G Z H s->cC x v->r x H Q ->
  Aw (AA X.prog X.w) X.A (truthy v) (TP X G Z Q) X.xe s
noncomputable def tOp(r:R2)(ta tb:TE):TE:=λZ H Q=>ta Z H λx H1=>tb Z H1 λy H2=>r x y H2 Q
noncomputable def tUn(r:V->Hp->VK->Prop)(ta:TE):TE:=λZ H Q=>ta Z H λx H1=>r x H1 Q
noncomputable def rI(C:Int->Int->Prop)(g:Int->Int->V):R2:=λx y H Q=>∃i j,x=.int i/\y=.int j/\C i j/\Q (g i j) H
noncomputable def rI0(g:Int->Int->V):R2:=λx y H Q=>∃i j,x=.int i/\y=.int j/\Q (g i j) H
noncomputable def rU(g:Int->V):V->Hp->VK->Prop:=λx H Q=>∃i,x=.int i/\Q (g i) H
section
variable {X:Cx} {a b c:A7} {ta tb tc:TE} {pos:Dy}
theorem aMZ(ha:PE X a ta)(hb:PE X b tb){G:List (Addr×Obj)}{s:Ag}{Z:St}{H:Hp}{R:V->V->Hp->Prop}(I:Inv X G Z H s)
 (h:ta Z H λx H1=>tb Z H1 λy q=>R x y q) {Q:Ad->Ag->Prop} {f:Ad->Ad->JC Ad}
 (hf:∀v u s2 x y q,Inv X G Z q s2->cC x v->cC y u->R x y q->Aw (AA X.prog X.w) X.A (f v u) Q X.xe s2) :
 Aw (AA X.prog X.w) X.A (Dm a X.env) (λv B=>Aw (AA X.prog X.w) X.A (Dm b X.env) (λu L=>Aw (AA X.prog X.w) X.A (f v u) Q X.xe L) X.xe B) X.xe s:=by refine thn (ha G s Z H _ I h) λv s1 ⟨x,H1,U,r1,q1⟩=>?_;exact thn (hb G s1 Z H1 _ U q1) λu s2 ⟨y,q,W,r2,q2⟩=>(hf v u s2 x y q W r1 r2 q2)
theorem aNa{op:UnaryOp}{r:V->Hp->VK->Prop}(L:UnR X (unaryOp op) r)(B:PE X a ta):PE X (.UnaryOp op a pos) (tUn r ta):=by intro G s Z H Q I h;exact UnaryOp_ (thn (B G s Z H _ I h) λv s1 ⟨x,H1,q,W,U⟩=>L G s1 Z H1 x v Q q W U)
theorem opI{f:Ad->Ad->JC Ad}{C:Int->Int->Prop}{g:Int->Int->Int}
 (B:∀(i j:Int) (t u:Ho) (s:Ag) (Q:Ad->Ag->Prop) (E:Ad->Ag->Prop),C i j->Q (.int (g i j) s.toks) { s with toks:=s.toks+1 }->Aw (AA X.prog X.w) X.A (f (.int i t) (.int j u)) Q E s) :
 OpR X f (rI C λi j=>.int (g i j)):=by intro G s Z H x y v u Q I U W h;obtain⟨i,j,rfl,rfl,L,q⟩:=h;obtain⟨t,rfl⟩:=U;obtain⟨t',rfl⟩:=W;exact B i j t t' s _ _ L ⟨.int (g i j),H,I.tok _,⟨_,rfl⟩,q⟩
theorem aNb{f:Ad->Ad->JC Ad}{g:Int->Int->Int}
 (B:∀(i j:Int) (t u:Ho) (s:Ag) (Q:Ad->Ag->Prop) (E:Ad->Ag->Prop),Q (.int (g i j) s.toks) { s with toks:=s.toks+1 }->Aw (AA X.prog X.w) X.A (f (.int i t) (.int j u)) Q E s) :
 OpR X f (rI0 λi j=>.int (g i j)):=by intro G s Z H x y v u Q I L U h;obtain⟨i,j,rfl,rfl,q⟩:=h;obtain⟨t,rfl⟩:=L;obtain⟨t',rfl⟩:=U;exact B i j t t' s _ _ ⟨.int (g i j),H,I.tok _,⟨_,rfl⟩,q⟩
theorem aJY{f:Ad->Ad->JC Ad}{g:Int->Int->Bool}
 (B:∀(i j:Int) (t u:Ho) (s:Ag) (Q:Ad->Ag->Prop) (E:Ad->Ag->Prop),Q (.bool (g i j)) s->Aw (AA X.prog X.w) X.A (f (.int i t) (.int j u)) Q E s) :
 OpR X f (rI0 λi j=>.bl (g i j)):=by intro G s Z H x y v u Q I L U h;obtain⟨i,j,rfl,rfl,q⟩:=h;obtain⟨t,rfl⟩:=L;obtain⟨t',rfl⟩:=U;exact B i j t t' s _ _ ⟨.bl (g i j),H,I,rfl,q⟩
noncomputable def aPZ(i j:Int):Prop:=0<j/\j<1073741824
noncomputable def aJZ(i j:Int):Prop:=(-(2 ^ 64)<i/\i<2 ^ 64)\/(-(2 ^ 64)<j/\j<2 ^ 64)
theorem aJZ.ok{i j:Int}(h:aJZ i j):IntMulOk i j:=by
 rcases h with⟨h1,h2⟩|⟨h1,h2⟩
 exact .of_left (Ib h1 h2);exact .of_right (Ib h1 h2)
theorem aKa:OpR X (De .Add) (rI0 λi j=>.int (i+j)):=aNb λ_ _ _ _ _ _ _ q=>add_int q
theorem aKb:OpR X (De .Sub) (rI0 λi j=>.int (i-j)):=aNb λ_ _ _ _ _ _ _ q=>sub_int q
theorem aKc:OpR X (De .Mult) (rI aJZ λi j=>.int (i*j)):=opI λ_ _ _ _ _ _ _ B q=>mul_int q B.ok
theorem aHl:OpR X (De .FloorDiv) (rI aPZ λi j=>.int (i / j)):=opI λi j _ _ _ _ _ B q=>by have h1:=B.1;have h2:=B.2;exact floordiv_int (by omega) (by rw[Int.fdiv_eq_ediv_of_nonneg i (by omega)];exact q) (.inl (EL (by omega)))
theorem aKd:OpR X (De .Mod) (rI (λ_ j=>0<j) λi j=>.int (i % j)):=opI λi j _ _ _ _ _ B q=>by exact mod_int' (by omega) (by rw[Int.fmod_eq_emod_of_nonneg i (by omega)];exact q)
theorem unI{f:Ad->JC Ad}{g:Int->Int}
 (B:∀(i:Int) (t:Ho) (s:Ag) (Q:Ad->Ag->Prop) (E:Ad->Ag->Prop),Q (.int (g i) s.toks) { s with toks:=s.toks+1 }->Aw (AA X.prog X.w) X.A (f (.int i t)) Q E s) :
 UnR X f (rU λi=>.int (g i)):=by intro G s Z H x v Q I L h;obtain⟨i,rfl,q⟩:=h;obtain⟨t,rfl⟩:=L;exact B i t s _ _ ⟨.int (g i),H,I.tok _,⟨_,rfl⟩,q⟩
theorem aKe:UnR X (unaryOp .USub) (rU λi=>.int (-i)):=unI λ_ _ _ _ _ q=>neg_int q
theorem aAE{G:List (Addr×Obj)}{Z:St}{H:Hp}{s:Ag}{Q:VK}{k B:Bool}(I:Inv X G Z H s)(q:Q (.bl k) H)(e:k=B):EP X G Z Q (.bool B) s:=by subst e;exact⟨.bl k,H,I,rfl,q⟩
theorem aNc:OpR X (BI .Lt) (rI0 λi j=>.bl (decide (i<j))):=aJY λ_ _ _ _ _ _ _ q=>lt_int q
theorem aNd:OpR X (BI .LtE) (rI0 λi j=>.bl (decide (i<=j))):=aJY λ_ _ _ _ _ _ _ q=>le_int q
theorem aNe:OpR X (BI .Gt) (rI0 λi j=>.bl (decide (j<i))):=aJY λ_ _ _ _ _ _ _ q=>gt_int q
theorem aCT:OpR X (BI .In) (λx y H Q=>∃i j,x=.str i/\y=.str j/\Q (.bl (!(E9 j i 0 j.length 1).isEmpty)) H):=by intro G s Z H x y v u Q I B L h;obtain⟨i,j,rfl,rfl,q⟩:=h;obtain⟨t,rfl⟩:=B;obtain⟨t',rfl⟩:=L;exact in_str (aAE I q rfl)
theorem aKf:OpR X (BI .Is) (λx y H Q=>y=.non/\Q (.bl (decide (x=.non))) H):=by
 intro G s Z H x y v u Q I B L h;obtain⟨rfl,q⟩:=h;cases L;refine is_none_gen (aAE I q ?_);cases x <;> first
  | (cases B;rfl)
  | (obtain⟨t,rfl⟩:=B;rfl)
theorem aHm:OpR X (BI .IsNot) (λx y H Q=>y=.non/\Q (.bl (!decide (x=.non))) H):=by
 intro G s Z H x y v u Q I B L h;obtain⟨rfl,q⟩:=h;cases L;refine isnot_none_gen (aAE I q ?_);cases x <;> first
  | (cases B;rfl)
  | (obtain⟨t,rfl⟩:=B;rfl)
theorem aHn{op:CmpOp}{r:R2}(ho:OpR X (BI op) r)(U:PE X a ta)(W:PE X b tb)(hm:FO op b=false):PE X (.Compare a [op] [b] pos) (tOp r ta tb):=by intro G s Z H Q I h;exact wpAny_Compare1 (aMZ U W I h λv u s2 x y B L rx ry q=>ho G s2 Z B x y v u Q L rx ry q) hm
noncomputable def aIZ(t:TE):TT:=λZ H Q=>t Z H λx H'=>∃k,x=.bl k/\Q k H'
theorem aHo{op:CmpOp}{r:R2}(ho:OpR X (BI op) r)(ha:PE X a ta)(hb:PE X b tb)(hm:FO op b=false):PT X (.Compare a [op] [b] pos) (aIZ (tOp r ta tb)):=by
 intro G s Z H Q I h;refine wpAny_isTrue_Compare1 (thn (ha G s Z H _ I h) λv s1 ⟨x,H1,L,r1,q1⟩=>thn (hb G s1 Z H1 _ L q1) λu s2 ⟨y,q,U,r2,q2⟩=>
  thn (ho G s2 Z q x y v u _ U r1 r2 q2) λc s3 ⟨z,B,W,r3,k,e,q3⟩=>?_) hm
 subst e;cases r3;exact B5 ⟨B,W,q3⟩
noncomputable def aEw(r r':R2)(ta tb tc:TE):TE:=λZ H Q=>ta Z H λx H1=>tb Z H1 λy H2=>r x y H2 λz H3=>∃k,z=.bl k /\
 (if k=true then tc Z H3 λw' H4=>r' y w' H4 Q else Q (.bl false) H3)
theorem aEx{op q:CmpOp}{r r':R2}(ho:OpR X (BI op) r)(B:OpR X (BI q) r')(ha:PE X a ta)(hb:PE X b tb)(hc:PE X c tc)
 (hm:Ix [op,q] [b,c]=false:=by with_unfolding_all rfl):PE X (.Compare a [op,q] [b,c] pos) (aEw r r' ta tb tc):=by
 intro G s Z H Q I h;refine Compare_chain (thn (ha G s Z H _ I h) λv s1 ⟨x,H1,I1,r1,q1⟩=>chain_link (thn (hb G s1 Z H1 _ I1 q1) λu s2 ⟨y,H2,I2,r2,q2⟩=>
  thn (ho G s2 Z H2 x y v u _ I2 r1 r2 q2) λd s3 ⟨z,L,U,r3,k,e,W⟩=>?_)) hm
 subst e;cases r3;refine B5 ?_;cases k with
 | false=>exact ite_ff ⟨.bl false,L,U,rfl,W⟩|true=>exact ite_tt (chain_last (thn (hc G s3 Z L _ U W) λw' s4 ⟨z',H4,I4,r4,q4⟩=>B G s4 Z H4 y z' u w' Q I4 r2 r4 q4))
theorem aEy{op q:CmpOp}{r r':R2}(ho:OpR X (BI op) r)(B:OpR X (BI q) r')(ha:PE X a ta)(hb:PE X b tb)(hc:PE X c tc)
 (hm:Ix [op,q] [b,c]=false:=by with_unfolding_all rfl):PT X (.Compare a [op,q] [b,c] pos) (aIZ (aEw r r' ta tb tc)):=by
 intro G s Z H Q I h;refine isTrue_chain (thn (ha G s Z H _ I h) λv s1 ⟨x,H1,I1,r1,q1⟩=>test_link (thn (hb G s1 Z H1 _ I1 q1) λu s2 ⟨y,H2,I2,r2,q2⟩=>
  thn (ho G s2 Z H2 x y v u _ I2 r1 r2 q2) λd s3 ⟨z,L,U,r3,k,e,W⟩=>?_)) hm
 subst e;cases r3;refine B5 ?_;cases k with
 | false=>obtain⟨k',e',q'⟩:=W;cases e';exact ite_ff ⟨L,U,q'⟩|true=>refine ite_tt (test_last (thn (hc G s3 Z L _ U W) λw' s4 ⟨z',H4,I4,r4,q4⟩=>thn (B G s4 Z H4 y z' u w' _ I4 r2 r4 q4) λd' s5 ⟨z2,H5,I5,r5,k2,e2,q5⟩=>?_));subst e2;cases r5;exact B5 ⟨H5,I5,q5⟩
noncomputable def aHp(K:Ap)(x:V)(H:Hp)(k:Bool):Prop:=
 match x with
 | .non=>k=false|.bl b=>k=b|.int i=>k=(i != 0)
 | .str y=>y.length<=sizeLine/\k=((y.length:Int) != 0)
 | .ref p=>(∃xs,SqL K H p xs/\k=!xs.isEmpty)\/(∃xs,SqT K H p xs/\k=!xs.isEmpty)\/False|_=>False
theorem qP{xs:List V}{q:List Ad}(r:bJ xs q):(!q.toArray.isEmpty)=!xs.isEmpty:=by cases r <;> simp
theorem mH:(sizeLine:Nat)<2 ^ 63:=by rw[Cb];decide
theorem aEz:aPY X (λx H Q=>∃k,aHp X.K x H k/\Q k H):=by
 intro G s Z H x v Q I U h;obtain⟨k,e,q⟩:=h;have hl:=mH;cases x with
 | non=>cases U;subst e;exact truthy_none ⟨H,I,q⟩|bl b=>cases U;subst e;exact B5 ⟨H,I,q⟩|int i=>obtain⟨t,rfl⟩:=U;subst e;exact PySem.P.truthy_int ⟨H,I,q⟩|str y=>obtain⟨t,rfl⟩:=U;obtain⟨hy,B⟩:y.length<=sizeLine/\k=((y.length:Int) != 0):=e;subst B;exact PySem.P.truthy_str (by omega) ⟨H,I.tok _,q⟩|ref p=>cases U;have B:=e;rcases B with⟨xs,W,B⟩|⟨xs,W,B⟩|z;subst B;obtain⟨q0,r,pl,hz⟩:=I.list W;have L:=r.length;exact wpAny_truthy_list pl.isList (by simp only[Aj];omega) ⟨H,I.tok _,by rw[qP r];exact q⟩;subst B;obtain⟨q0,r,pl,hz⟩:=I.tuple W;have L:=r.length;exact truthy_tuple pl (by simp only[Aj];omega) ⟨H,I.tok _,by rw[qP r];exact q⟩;grind
 | _=>exact(e).elim
theorem aEA(L:PE X a ta)(U:∀q,isTrue a X.env q=(do let v<-q;J0 a.pos;FC [v] (truthy v))) :
 PT X a (λZ H Q=>ta Z H λx H'=>∃k,aHp X.K x H' k/\Q k H'):=by intro G s Z H Q I h;exact isTrue_plain (thn (L G s Z H _ I h) λv s1 ⟨x,H1,B,r1,W⟩=>aEz G s1 Z H1 x v Q B r1 W) (U _)
theorem pE{x:V}{us:List Ad}(r:bJ [x] us):∃u,us=[u]/\cC x u:=by
 cases r with
 | cons B q=>cases q;grind
theorem aNf{x y:V}{us:List Ad}(r:bJ [x,y] us):∃u q,us=[u,q]/\cC x u/\cC y q:=by
 cases r with
 | cons L B=>
  cases B with
  | cons U I=>cases I;grind
theorem aCU(L:X.calm=true):gM X (.builtin "max") (λxs H Q=>∃i j,xs=[.int i,.int j]/\Q (.int (if j>i then j else i)) H):=by
 intro G s Z H xs us Q I r h;obtain⟨i,j,rfl,q⟩:=h;obtain⟨u,U,rfl,⟨t,rfl⟩,⟨t',rfl⟩⟩:=aNf r;refine max_two_ints (I.ok.hd L) λh' tk k=>⟨_,H,I.kept k,?_,q⟩
 by_cases B:j>i;rw[if_pos B,if_pos B];exact⟨_,rfl⟩;rw[if_neg B,if_neg B];exact⟨_,rfl⟩
theorem aCV:gM X (.type "int") (λxs H Q=>(∃i,xs=[.int i]/\Q (.int i) H)\/∃k,xs=[.bl k]/\Q (.int (if k then 1 else 0)) H):=by
 intro G s Z H xs us Q I r h;rcases h with⟨i,rfl,q⟩|⟨k,rfl,q⟩
 obtain⟨u,rfl,t,rfl⟩:=pE r;exact call_int_int ⟨.int i,H,I,⟨_,rfl⟩,q⟩;obtain⟨u,rfl,B⟩:=pE r;cases B;exact call_int_bool ⟨.int (if k then 1 else 0),H,I.tok _,⟨_,rfl⟩,q⟩
end
noncomputable def putF(f:Str)(v:V):List (Str×V)->List (Str×V)
 | []=>[(f,v)]
 | (g,x)::r=>if g=f then (g,v)::r else (g,x)::putF f v r
structure mI (k:Nat) (A:Be):Prop where
 hd:A.handled=none
 gd:A.guards=some []
 dp:A.depth+3*k+5<Hu
 un:A.units+16*k+200<Ej
theorem mI.deeper{k:Nat}{A:Be}(r:mI (k+1) A)(env:IT):mI k (A.deeper env):=
 ⟨r.hd,r.gd,by have:=r.dp;show A.depth+1+3*k+5<_;omega,by have:=r.un;show A.units+3+16*k+200<_;omega⟩
theorem mI.depth{k:Nat}{A:Be}(r:mI k A):A.depth<Hu:=by have:=r.dp;omega
noncomputable def aNg:TA:=λ_ H Q=>Q [] H
noncomputable def aNh(ta:TE)(tr:TA):TA:=λZ H Q=>ta Z H λx H1=>tr Z H1 λxs H2=>Q (x::xs) H2
section
variable {X:Cx} {e:A7} {es:List A7} {te:TE} {t:TA} {pos:Dy}
theorem gN:PA X [] aNg:=λ_ _ _ _ H Q I h=>Dz ⟨[],H,I,.nil,h⟩
theorem fC(U:PE X e te)(W:PA X es t)(hs:Bj (e::es) X.env=(false,Dm e X.env)::Bj es X.env:=by rfl):PA X (e::es) (aNh te t):=by intro pos G s Z H Q I h;rw[hs];exact CA (thn (U G s Z H _ I h) λu s1 ⟨x,H1,B,r1,q1⟩=>(thn (W pos G s1 Z H1 _ B q1) λus s2 ⟨xs,q,L,r2,q2⟩=>⟨x::xs,q,L,.cons r1 r2,q2⟩))
noncomputable def aQa(t:TA):TE:=λZ H Q=>t Z H λxs H1=>xs.length<=sizeLine/\∀p,H1 p=none->Q (.ref p) (upd H1 p (.tup xs))
noncomputable def aQb(t:TA):TE:=λZ H Q=>t Z H λxs H1=>xs.length<=sizeLine/\∀p,H1 p=none->Q (.ref p) (upd H1 p (.lst xs))
theorem aKg{x1}(h:PA X es t):PE X (.Tuple es x1 pos) (aQa t):=by intro G s Z H Q I L;refine wpAny_Tuple_spliced (thn (h pos G s Z H _ I L) λus s1 ⟨xs,H1,B,r,z,q⟩=>⟨by rw[<-r.length];exact z,?_⟩);refine⟨.ref s1.heap.objs.size,upd H1 s1.heap.objs.size (.tup xs),B.laid (λb u e=>Ab _ e) (Ao _) ?_,rfl,q _ (B.hok.fresh (Ao _))⟩;exact⟨z,us,r,⟨_,An _ rfl,rfl,_,rfl⟩⟩
theorem aKh(h:PA X es t):PE X (.List es pos) (aQb t):=by intro G s Z H Q I L;refine wpAny_List_spliced (thn (h pos G s Z H _ I L) λus s1 ⟨xs,H1,B,r,z,q⟩=>⟨by rw[<-r.length];exact z,?_⟩);refine⟨.ref s1.heap.objs.size,upd H1 s1.heap.objs.size (.lst xs),B.laid (λb u e=>Ab _ e) (Ao _) ?_,rfl,q _ (B.hok.fresh (Ao _))⟩;exact⟨z,us,0,r,An _ rfl⟩
end
abbrev Sp:=List V->Hp->VK->XK->Prop
abbrev CXT:=List IT->Hp->Ag->XK->Ad->Ag->Prop
structure aHq (P:A2) (w:AL) (K:Ap) (mg:Str->Option Ad) (base:Heap) (A:Be) (outer:List IT) (s:Ag) (H:Hp):Prop where
 frames:A.frames=some outer
 mod:Mod K mg base
 bs:∀b o,base.get? b=some o->s.heap.get? b=some o/\H b=none
 bsz:base.objs.size<=s.heap.objs.size
 funs:s.heap.FunFrames base outer
 frf:∀b∈frs outer,H b=none
 hok:HOk P w H s.heap
 bare:Ex s.gens
noncomputable def CE(outer:List IT)(P:A2)(w:AL)(H:Hp)(s:Ag)(Q:VK)(u:Ad)(s':Ag):Prop:=
 ∃v H',s'.os=s.os/\Ex s'.gens/\Un (frs outer) [] H H' s.heap s'.heap/\HOk P w H' s'.heap/\cC v u/\Q v H'
noncomputable def CR(CX:CXT)(outer:List IT)(P:A2)(w:AL)(H:Hp)(s:Ag)(Q:VK)(E:XK)(r:FX)(s':Ag):Prop:=
 match r with
 | .ok (.ret u)=>CE outer P w H s Q u s'|.ok _=>False|.error e=>CX outer H s E e s'
structure pL (P:A2) (w:AL) (K:Ap) (mg:Str->Option Ad) (base:Heap) (CX:CXT) (k:Nat) (f:Addr) (fd:D2) (ps:List Str) (sp:Sp):Prop where
 len:∀vs H Q E,sp vs H Q E->vs.length=ps.length
 run:∀(A:Be) (outer:List IT) (s:Ag) (H:Hp) (args:Args) (us:List Ad) (vs:List V) (Q:VK) (E:XK),mI k A->aHq P w K mg base A outer s H->ID s fd args (ps.zip us)->bJ vs us->sp vs H Q E ->
  DK (AA P w) A (.call (.ref f) args) (CR CX outer P w H s Q E) s
section
variable {X:Cx} {G:List (Addr×Obj)} {Z:St} {H:Hp} {s s':Ag}
theorem Inv.env0(I:Inv X G Z H s):aHq X.prog X.w X.K X.mg X.base X.A X.stack s H:=
 ⟨I.ok.frames,I.ok.mod,I.bs,AM I.ok.bsz I.sz,I.stack,I.stkFree,I.hok,I.bare⟩
theorem Inv.after{Q:VK}{u:Ad}(I:Inv X G Z H s)(h:CE X.stack X.prog X.w H s Q u s'):EP X G Z Q u s':=by obtain⟨v,H',os,bare,un,hok,r,q⟩:=h;obtain⟨L,g,d,t,B⟩:=s';obtain rfl:B=s.os:=os;exact⟨v,H',I.call un hok bare (λb z=>absurd z (by simp)),r,q⟩
end
noncomputable def aJa(sp:Sp)(dvs:List V)(E:XK)(t:TA):TE:=λZ H Q=>t Z H λvs H1=>sp (vs++dvs) H1 Q E
noncomputable def lX(K:Ap)(fd:D2)(ps:List Str)(ds:List Ad):Prop:=
 ∀(s:Ag) (us:List Ad),K.In s.heap->(us++ds).length=ps.length->ID s fd ⟨us,[]⟩ (ps.zip (us++ds))
theorem lX.all{K:Ap}{fd:D2}{ps:List Str}(h:∀us:List Ad,us.length=ps.length->Hv fd ⟨us,[]⟩=pure (ps.zip us)):lX K fd ps []:=λs us _ q=>by rw[Bu] at q ⊢;exact .of_eq (h us q)
noncomputable def vQ(CX:CXT)(X:Cx)(E:XK):Prop:=∀(G:List (Addr×Obj)) (Z:St) (H:Hp) (s:Ag) (e:Ad) (s':Ag),Inv X G Z H s->CX X.stack H s E e s'->X.xe e s'
section
variable {X:Cx} {CX:CXT} {k:Nat} {f C:Addr} {fd:D2} {ps:List Str} {sp:Sp} {dvs:List V} {ds:List Ad} {E:XK} {x m:Str} {p pos apos:Dy} {e o:A7} {es:List A7} {ta:TE} {t:TA}
theorem aEB{G:List (Addr×Obj)}{Z:St}{H:Hp}{s:Ag}{Q:VK}{us:List Ad}{vs:List V}(F:pL X.prog X.w X.K X.mg X.base CX k f fd ps sp)(L:mI k X.A)(B:lX X.K fd ps ds)(hd:bJ dvs ds)(U:vQ CX X E)
 (I:Inv X G Z H s) (r:bJ vs us) (h:sp (vs++dvs) H Q E):Aw (AA X.prog X.w) X.A (call (.ref f) us) (EP X G Z Q) X.xe s:=by
 refine Hw (CV (F.run X.A X.stack s H ⟨us,[]⟩ (us++ds) (vs++dvs) Q E L I.env0 (B s us I.kIn (by rw[<-(r.append hd).length];exact F.len _ _ _ _ h)) (r.append hd) h) λr s' q=>?_);cases r with
 | error e=>exact U G Z H s e s' I q|ok fl=>
  cases fl with
  | ret u=>exact I.after q|next=>exact Dp q|brk=>exact Dp q|cont=>exact Dp q
theorem aHr(F:pL X.prog X.w X.K X.mg X.base CX k f fd ps sp)(hr:mI k X.A)(hg:Gl X x)(hm:X.mg x=some (.ref f))(hk:CQ X.K (.ref f)=true)(hb:lX X.K fd ps ds)(hd:bJ dvs ds)(hx:vQ CX X E)
 (W:PA X (e::es) t) (B:(x==("__debug__" : Str))=false:=by decide) (he:Bj (e::es) X.env=(false,Dm e X.env)::Bj es X.env:=by rfl) (L:(E2 pos (Bj es X.env)).any (·.1)=false:=by rfl) :
 PE X (.Call (.Name x p) (e::es) [] pos) (aJa sp dvs E t):=by intro G s Z H Q I h;refine Bt (vM I hg hm ?_ B);exact PySem.W.callWith_K I.ok.mod.kin hk (thn (W pos G s Z H _ I h) λus s1 ⟨vs,H1,U,r,q⟩=>⟨U.kIn,(aEB F hr hb hd hx U r q)⟩) he L
theorem aEC(F:pL X.prog X.w X.K X.mg X.base CX k f fd ps sp)(hr:mI k X.A)(L:Gl X x)(W:X.mg x=some (.ref f))(U:CQ X.K (.ref f)=true)(B:lX X.K fd ps ds)(hd:bJ dvs ds)(hx:vQ CX X E)
 (q:(x==("__debug__" : Str))=false:=by decide):PE X (.Call (.Name x p) [] [] pos) (aJa sp dvs E aNg):=by intro G s Z H Q I h;exact Bt (vM I L W (PySem.W.callWith_K0 I.kIn U (aEB F hr B hd hx I .nil h)) q)
end
structure pU (N P:List Str) (sc:Da):Prop where
 kind:sc.kind=.function
 co:sc.isCoroutine=false
 gen:sc.isGenerator=false
 nd:N.Nodup
 pre:N.take P.length=P
 par:∀x∈P,sc.names.lookup x=some .local\/sc.names.lookup x=some .cell
 nofree:∀y∈sc.names,y.2≠.free
theorem uA{kindOf:Str->Option BZ}{x:Str}:∀{binds:List (Str×Ad)} {m:Str->Option Ad},(∀v,(x,v)∉binds)->Hx kindOf binds m x=m x
 | [],_,_=>rfl|(n,v)::r,m,h=>by unfold Hx;rw[uA λw q=>h w (Al _ q)];split;grind;rfl
theorem uB{kindOf:Str->Option BZ}{x:Str}:∀{binds:List (Str×Ad)} {m:Str->Option Ad},(∀v,(x,v)∉binds)->Hy kindOf binds m x=m x
 | [],_,_=>rfl|(n,v)::r,m,h=>by unfold Hy;rw[uB λw q=>h w (Al _ q)];split;rfl;grind
theorem uC{kindOf:Str->Option BZ}{x:Str}{v:Ad}:∀{P:List Str} {vs:List Ad} {i:Nat} {m:Str->Option Ad},P.Nodup->P[i]? = some x->vs[i]? = some v->kindOf x=some .local ->
 Hx kindOf (P.zip vs) m x=some v
 | [],_,_,_,_,h,_,_=>by simp at h|_::_,[],_,_,_,_,h,_=>by simp at h|p::P,w::vs,0,m,nd,h1,h2,hk=>by simp at h1 h2;subst h1;subst h2;show Hx kindOf ((p,w)::P.zip vs) m p=_;unfold Hx;rw[uA λv q=>(Bg.mp nd).1 (DQ q).1,if_pos hk];simp|p::P,w::vs,i+1,m,nd,h1,h2,hk=>by show Hx kindOf ((p,w)::P.zip vs) m x=_;unfold Hx;exact uC (i:=i) (Bg.mp nd).2 (by simpa using h1) (by simpa using h2) hk
theorem uD{kindOf:Str->Option BZ}{x:Str}{v:Ad}:∀{P:List Str} {vs:List Ad} {i:Nat} {m:Str->Option Ad},P.Nodup->P[i]? = some x->vs[i]? = some v->kindOf x≠some .local ->
 Hy kindOf (P.zip vs) m x=some v
 | [],_,_,_,_,h,_,_=>by simp at h|_::_,[],_,_,_,_,h,_=>by simp at h|p::P,w::vs,0,m,nd,h1,h2,hk=>by simp at h1 h2;subst h1;subst h2;show Hy kindOf ((p,w)::P.zip vs) m p=_;unfold Hy;rw[uB λv q=>(Bg.mp nd).1 (DQ q).1,if_neg hk];simp|p::P,w::vs,i+1,m,nd,h1,h2,hk=>by show Hy kindOf ((p,w)::P.zip vs) m x=_;unfold Hy;exact uD (i:=i) (Bg.mp nd).2 (by simpa using h1) (by simpa using h2) hk
noncomputable def start(N:List Str)(vs:List V):St:=vs.map some++Am (N.length-vs.length) none
noncomputable def aCW(CX:CXT)(P:A2)(w:AL)(K:Ap)(mg:Str->Option Ad)(base:Heap)(N:List Str)(qual:Str)(scope:Da)(f:Addr)(cd:Ad)(A:Be)(outer:List IT)(s:Ag)(H:Hp)(E:XK):Cx where
 prog:=P
 w:=w
 K:=K
 mg:=mg
 base:=base
 A:=A.deeper (Fv qual scope s.heap.objs.size f cd)
 N:=N
 s₀:=s
 H₀:=H
 env:=Fv qual scope s.heap.objs.size f cd
 outer:=outer
 stack:=Fv qual scope s.heap.objs.size f cd::outer
 ex:=[]
 calm:=true
 fn:=λ_=>true
 pn:=[]
 xe:=λe s'=>Aw (AA P w) (A.deeper (Fv qual scope s.heap.objs.size f cd)) (leaving (Fv qual scope s.heap.objs.size f cd) e) (λ_ s''=>CX outer H s E e s'') (λe' s''=>CX outer H s E e' s'') s'
theorem yF{sc:Da}{n:Nat}{x:Str}(h:sc.names.lookup x=some .cell):∃c,(Iy n sc.names []).lookup x=some c:=by exact Cu.mp (EM sc.names n [] (.inl h))
theorem aCX{CX:CXT}{P:A2}{w:AL}{K:Ap}{mg:Str->Option Ad}{base:Heap}{N ps:List Str}{qual:Str}{scope:Da}{f:Addr}{cd:Ad}{A:Be}{outer:List IT}{s s1:Ag}{H:Hp}{E:XK}{us:List Ad}{vs:List V}
 (S:pU N ps scope) (hd:A.handled=none) (B:aHq P w K mg base A outer s H) (hl:vs.length=ps.length) (r:bJ vs us)
 (x:InCallC s s.heap.objs.size (Hx (Fv qual scope s.heap.objs.size f cd).kindOf (ps.zip us) λ_=>none) (Iy (s.heap.objs.size+1) scope.names []) (Hy (Fv qual scope s.heap.objs.size f cd).kindOf (ps.zip us) λ_=>none) s1) :
 Inv (aCW CX P w K mg base N qual scope f cd A outer s H E) [] (start N vs) H s1:=by
 have q0:ps.length<=N.length:=by have:=congrArg GS S.pre;rw[A0] at this;omega
 obtain⟨h1,tk,rfl,hk⟩:=x.done;have L:∀b:Addr,b∉(aCW CX P w K mg base N qual scope f cd A outer s H E).ex:=λb z=>absurd (show b∈([]:List Addr) from z) (by simp);refine⟨⟨B.mod,S.kind,rfl,rfl,Ao _,λy z c h1 h2=>?_,λy I=>?_,λy c _ h=>?_,λ_=>hd,Around.frames_deeper B.frames,.inr ⟨rfl,rfl⟩,λb z=>absurd z (L b),B.bs,B.bsz,λb _ _=>L b,λb z=>absurd z (L b),B.funs,B.frf⟩,
  rfl,B.bare,Un.kept hk,⟨_,x.toInCall.ns,λi y v h1 h2 h3=>?_⟩,λy c h=>⟨_,x.cell y c h⟩,B.hok.fresh (Ao _),λy c h=>?_,λp U=>absurd (show p∈([]:List (Addr×Obj)) from U) (by simp),B.hok.kept hk,?_⟩
 exact name_of_addr x.apart (B0 h1) (B0 h2);have I:=I;rcases I with I|I;exact yF I;exact absurd rfl (S.nofree _ (B0 I));exact Ea (x.above y c (B0 h));have hi:i<vs.length:=by unfold start at h2;by_cases hi:i<vs.length;exact hi;rw[AD (by simpa using hi)] at h2;rw[Du] at h2;split at h2 <;> cases h2
 have ha:vs[i]? = some v:=by
  unfold start at h2;rw[AI (by simpa using hi),Ay] at h2;cases e:vs[i]? with
  | none=>rw[e] at h2;cases h2|some a=>rw[e] at h2;cases h2;rfl
 obtain⟨u,hu,rv⟩:=r.get ha;have U:ps[i]? = some y:=by rw[<-S.pre,List.getElem?_take_of_lt (by omega)];exact h1
 have W:ps.Nodup:=by rw[<-S.pre];exact S.nd.sublist (List.take_sublist _ _)
 refine⟨u,rv,?_⟩;rcases S.par y (List.mem_of_getElem? U) with k|k;exact .inl ⟨k,uC W U hu k⟩;obtain⟨c,e⟩:=yF k;refine .inr ⟨.inl k,c,e,?_⟩;have q:=x.cell y c e;rw[uD W U hu (by show scope.names.lookup y≠_;rw[k];decide)] at q;exact q;exact B.hok.fresh (Ea (x.above y c (B0 h)));unfold start;show _=N.length;rw[Dq,Fc,AK];omega
theorem aNi{CX:CXT}{P:A2}{w:AL}{K:Ap}{mg:Str->Option Ad}{base:Heap}{k:Nat}{f:Addr}{name qual:Str}{B:FD}{body:List Cg}{scope:Da}{dV kV doc pm cdv ct oc:Ad}{an od:Option Addr}
 {osl:Array (Option Ad)} {N ps:List Str} {sp:Sp} (lk:K.lookup f=some ⟨oc,od,.func (EN name qual B body scope dV kV doc pm an cdv ct),osl⟩) (q1:Hz K cdv qual=true) (S:pU N ps scope)
 (len:∀vs H Q E,sp vs H Q E->vs.length=ps.length)
 (I:∀(A:Be) (outer:List IT) (s:Ag) (H:Hp) (vs:List V) (Q:VK) (E:XK),mI k (A.deeper (Fv qual scope s.heap.objs.size f cdv))->sp vs H Q E ->
  ∃t,PSs (aCW CX P w K mg base N qual scope f cdv A outer s H E) body t/\t { nx:=λ_ H'=>Q .non H',rt:=Q } (start N vs) H) :
 pL P w K mg base CX (k+1) f (EN name qual B body scope dV kV doc pm an cdv ct) ps sp:=by
 refine⟨len,λA outer s H args us vs Q E hr U hb r q0=>?_⟩;have KX:=U.mod.kin.keeps λb o e=>(U.bs b o e).1;have L:∀y∈ps.zip us,scope.names.lookup y.1=some .local\/(scope.names.lookup y.1=some .cell/\((Iy (s.heap.objs.size+1) scope.names []).lookup y.1).isSome=true):=λ⟨n,v⟩ hy=>by rcases S.par n (DQ hy).1 with q|q;exact .inl q;exact .inr ⟨q,EM _ _ _ (.inl q)⟩
 refine codeAny_call_function hr.depth (KX _ _ lk) rfl S.co S.gen rfl (PySem.W.codeRec_of KX q1) (hb _ _ _ _ ?_);refine wpAny_newFunctionEnv_cells S.kind L λenv he s1 x=>?_;subst he;refine⟨(U.mod.nolimit.keeps λb o e=>(U.bs b o e).1).keeps x.toInCall.keep,codeAny_func ?_⟩;obtain⟨t,ht,hq⟩:=I A outer s H vs Q E (hr.deeper _) q0;refine C8 (ht [] s1 (start N vs) H _ (aCX S hr.hd U (len _ _ _ _ q0) r x) hq) (λfl s' hs=>?_) λe s' hs=>hs;have W:∀{Z':St} {H':Hp} {v:V} {u:Ad},Inv (aCW CX P w K mg base N qual scope f cdv A outer s H E) [] Z' H' s'->cC v u->Q v H'->CE outer P w H s Q u s':=
  λ{Z' H' v u} J'' rv q=>⟨v,H',J''.os,J''.bare,J''.base,J''.hok,rv,q⟩
 cases fl with
 | ret u=>obtain⟨v,Z',H',J'',rv,q⟩:=hs;exact W J'' rv q|next=>obtain⟨Z',H',J'',q⟩:=hs;exact W (v:=V.non) J'' rfl q|brk=>obtain⟨_,_,_,q⟩:=hs;grind|cont=>obtain⟨_,_,_,q⟩:=hs;grind
section
variable {X:Cx} {x:Str} {p pos:Dy} {e:A7} {es:List A7} {t:TA} {id T:String} {r:List V->Hp->VK->Prop}
noncomputable def tCB(r:List V->Hp->VK->Prop)(t:TA):TE:=λZ H Q=>t Z H λvs H1=>r vs H1 Q
theorem aED(W:gM X (.builtin id) r)(hg:Gl X x)(hm:X.mg x=none)(hv:BD x=some (.builtin id))(U:PA X (e::es) t)(hn:x ≠ "__name__" := by decide)(q:(x==("__debug__" : Str))=false:=by decide)
 (he:Bj (e::es) X.env=(false,Dm e X.env)::Bj es X.env:=by rfl) (B:(E2 pos (Bj es X.env)).any (·.1)=false:=by rfl):PE X (.Call (.Name x p) (e::es) [] pos) (tCB r t):=by intro G s Z H Q I h;exact Bt (fL I hg hm hv (BM (thn (U pos G s Z H _ I h) λus s1 ⟨vs,H1,L,r1,q1⟩=>W G s1 Z H1 vs us Q L r1 q1) he B) hn q)
theorem aCY(W:gM X (.type T) r)(hg:Gl X x)(hm:X.mg x=none)(hv:BD x=some (.type T))(U:PA X (e::es) t)(hn:x ≠ "__name__" := by decide)(q:(x==("__debug__" : Str))=false:=by decide)
 (he:Bj (e::es) X.env=(false,Dm e X.env)::Bj es X.env:=by rfl) (B:(E2 pos (Bj es X.env)).any (·.1)=false:=by rfl):PE X (.Call (.Name x p) (e::es) [] pos) (tCB r t):=by intro G s Z H Q I h;exact Bt (fL I hg hm hv (AX (thn (U pos G s Z H _ I h) λus s1 ⟨vs,H1,L,r1,q1⟩=>W G s1 Z H1 vs us Q L r1 q1) he B) hn q)
end
end L2
namespace HT
open PySem PyProof.Rows
noncomputable def lexLt:List Int->List Int->Bool
 | [],[]=>false|[],_::_=>true|_::_,[]=>false|x::xs,y::ys=>if x=y then lexLt xs ys else decide (x<y)
theorem lexLt_cons(x y:Int)(xs q:List Int):lexLt (x::xs) (y::q)=if x=y then lexLt xs q else decide (x<y):=rfl
theorem tM:lexLt [] []=false:=rfl
theorem qQ(y:Int)(q:List Int):lexLt [] (y::q)=true:=rfl
theorem qR(x:Int)(xs:List Int):lexLt (x::xs) []=false:=rfl
theorem aEE(A:Be)(s:Ag)(a:Int)(t:Ho)(c:Int)(u:Ho):∃e,SeqAt.EqAt A s (.int a t) (.int c u) e/\(e=true↔a=c):=
 ⟨(a==c),Jo a t c u,by simp⟩
theorem aEF(A:Be)(s:Ag)(a:Int)(t:Ho)(c:Int)(u:Ho)(prog:A2)(w:AL)(E:Ad->Ag->Prop)(Q:Ad->Ag->Prop)(h:Q (.bool (decide (a<c))) s) :
 Aw (AA prog w) A (richCompare .Lt (.int a t) (.int c u)) Q E s:=
 (Jl h:Aw (AA prog w) A (BI .Lt (.int a t) (.int c u)) Q E s)
section
open PySem.SeqAt
open PySem.AutoSeq1 (wpAny_loadPart')
open PySem.MeetsSeq PySem.MeetsSeq2 PySem.MeetsSeq3
theorem tN(l b:Addr)(items B:Array Ad)(n n2:Nat)(dd q5:Option Addr)(sl q7:Array (Option Ad))(ns ms:List Int)(hi:Cm items.toList ns)(hj:Cm B.toList ms) :
 Meets (C4.«tuple.__lt__» ⟨[.ref l,.ref b],[]⟩)
  (λ_ R s=>s.heap.get? l=some { cls:=.type "tuple",dict:=dd,data:=.seq items n,slots:=sl }/\s.heap.get? b=some { cls:=.type "tuple",dict:=q5,data:=.seq B n2,slots:=q7 } /\
   R (.ok (.ret (.bool (lexLt ns ms)))) s):=
 .of_wp λprog w A R s h=>by
  obtain⟨hp,g,d,tk,os⟩:=s;obtain⟨hl,hb,h⟩:=h;have f2:=Ic;have z1:items.size=ns.length:=by rw[<-hi.length];simp
  have z2:B.size=ms.length:=by rw[<-hj.length];simp
  wp_walk using wpAny_loadPart' hl,wpAny_loadPart' hb,wpAny_forIn_list _ (λrest b s'=>b.1=none/\s'=⟨hp,g,d,tk,os⟩/\∃(vs ws:List Ad) (U L:List Int),rest=vs.zip ws /\
   Cm vs U/\Cm ws L/\U.length+B.size=L.length+items.size/\R (.ok (.ret (.bool (lexLt U L)))) ⟨hp,g,d,tk,os⟩) _
  case turn=>
   rintro ⟨y,x⟩ rest b s' ⟨q1,rfl,vs,ws,U,L,hz,q2,W,I,hR⟩;cases q2 with
   | nil=>rw[D3] at hz;cases hz|cons a t q3=>
    cases W with
    | nil=>rw[FY] at hz;cases hz|cons c u q4=>
     rw[AV] at hz;injection hz with hyx hrest
     injection hyx with hy hx
     subst hy hx;rw[lexLt_cons] at hR;simp only[EA] at I;obtain⟨e,he,q0⟩:=aEE A.in1 ⟨hp,g,d,tk,os⟩ a t c u;refine Aa (he prog w _ _ ?_);cases e with
     | true=>
      rw[if_pos (q0.mp rfl)] at hR
      wp_walk
      exact⟨rfl,rfl,_,_,_,_,hrest,q3,q4,by omega,hR⟩
     | false=>
      rw[if_neg (λq=>absurd (q0.mpr q) Dl)] at hR;have q6:=aEF A.in1 ⟨hp,g,d,tk,os⟩ a t c u prog w
      wp_walk using q6
      exact⟨_,rfl,by simpa using hR⟩
  case fin=>
   rintro ⟨b1,b2⟩ s' ⟨q1,rfl,vs,ws,U,L,hz,q2,W,I,hR⟩;simp only at q1;subst q1;have hv:lexLt U L=decide (items.size<B.size):=by
    cases q2 with
    | nil=>
     cases W with
     | nil=>simp only[Fd] at I;rw[tM];grind|cons c u hw=>simp only[Fd,EA] at I;rw[qQ];exact(Ak (by omega)).symm
    | cons a t hv=>
     cases W with
     | nil=>simp only[Fd,EA] at I;rw[qR];exact(A3 (by omega)).symm|cons c u hw=>rw[AV] at hz;cases hz
   rw[hv] at hR
   wp_walk
   exact⟨_,rfl,by simpa[GC] using hR⟩
  case h=>exact⟨rfl,rfl,items.toList,B.toList,ns,ms,rfl,hi,hj,by omega,h⟩
end
section
variable {prog:A2} {w:AL} {A:Be} {E:Ad->Ag->Prop} {s:Ag}
theorem lt_tupInts{l b:Addr}{items q:Array Ad}{ns ms:List Int}{Q:Ad->Ag->Prop}(hl:IsTup s.heap l items)(hb:IsTup s.heap b q)(hi:Cm items.toList ns)(hj:Cm q.toList ms)
 (hu:A.units<Ej) (h:Q (.bool (lexLt ns ms)) s):Aw (AA prog w) A (BI .Lt (.ref l) (.ref b)) Q E s:=by
 obtain⟨⟨cls,dd,data,sl⟩,ho,hc,n,hd⟩:=id hl;obtain⟨⟨q1,W,U,q0⟩,L,B,n2,I⟩:=id hb;simp only at hc hd B I;subst hc hd B I;exact richCompare_meets_room (op:=.Lt) ⟨_,ho,rfl⟩ ⟨_,L,rfl⟩ PySem.F.slot_tuple_lt PySem.F.entry_tuple_lt (PySem.F.args_tuple_lt_2 _ _) (tN l b items q n n2 dd W sl q0 ns ms hi hj)
  ⟨ho,L,show Cs (lexLt ns ms)≠Value.notImplemented/\Q (.bool (lexLt ns ms)) s from⟨(λx=>nomatch x),h⟩⟩ hu
theorem cat_tup{t b:Addr}{vs ws:List Ad}{Q:Ad->Ag->Prop}(ht:IsTup s.heap t vs.toArray)(hb:IsTup s.heap b ws.toArray)(hv:vs≠[])
 (h1:ws=[]->Q (.ref t) s) (h2:ws≠[]->Q (.ref s.heap.objs.size) { s with heap:=s.heap.push { cls:=.type "tuple",data:=.seq (vs++ws).toArray } })
 (hsz:vs.length+ws.length<=sizeLine):Aw (AA prog w) A (De .Add (.ref t) (.ref b)) Q E s:=by
 obtain⟨⟨cls,dd,data,sl⟩,W,hc,n,hd⟩:=id ht;obtain⟨⟨q1,B,q0,U⟩,q,I,n2,L⟩:=id hb;simp only at hc hd I L;subst hc hd I L;have e:vs.toArray++ws.toArray=(vs++ws).toArray:=by simp
 by_cases hw:ws=[]
 exact EO ⟨_,W,rfl⟩ ⟨_,q,rfl⟩ EB FP D4 Dv (Df _ _)
  (tuple_addW1 t b vs.toArray ws.toArray n n2 dd B sl U (by simpa using hv) (by simp[hw])) ⟨W,q,h1 hw⟩
 refine EO ⟨_,W,rfl⟩ ⟨_,q,rfl⟩ EB FP D4 Dv (Df _ _)
  (tuple_addW2 t b vs.toArray ws.toArray n n2 dd B sl U (by grind) (by grind) (by rw[Aj,Aj];exact hsz)) ⟨W,q,?_⟩
 rw[e];exact h2 hw
noncomputable def sIx(n d:Nat):Option Int->Nat
 | none=>d|some v=>if v<0 then (v+(n:Int)).toNat else min v.toNat n
theorem aKi(n d:Nat)(hd:d<=n)(o:Option Int):sIx n d o<=n:=by
 cases o with
 | none=>exact hd|some v=>show(if v<0 then (v+(n:Int)).toNat else min v.toNat n)<=n;by_cases q:v<0;rw[if_pos q];omega;rw[if_neg q];exact Nat.min_le_right _ _
theorem aBH(v:Int)(n d:Nat):(if v<0 then max (v+(n:Int)) 0 else min v (n:Int))=((sIx n d (some v):Nat):Int):=by
 show(if v<0 then max (v+(n:Int)) 0 else min v (n:Int))=(((if v<0 then (v+(n:Int)).toNat else min v.toNat n):Nat):Int)
 by_cases q:v<0;simp only[if_pos q];omega;simp only[if_neg q];omega
theorem aAF(lo hi:Option Int)(n:Nat):Db lo hi 1 (n:Int)=(((sIx n 0 lo:Nat):Int),((sIx n n hi:Nat):Int)):=by
 have h1:¬ ((1:Int)<0):=by omega
 unfold Db;simp only[h1,if_false];refine JE ?_ ?_;cases lo with
 | none=>rfl|some v=>exact aBH v n 0
 cases hi with
 | none=>rfl|some v=>exact aBH v n n
theorem aAG(i j:Nat):Ch (i:Int) (j:Int) 1=j-i:=by
 unfold Ch;have h1:(1:Int)>0:=by omega
 simp only[h1,if_true,Int.ediv_one];split <;> omega
theorem qS{v:Ad}{o:Option Int}{Q:Option Int->Ag->Prop}(p:EQ v o)(h:Q o s):Aw (AA prog w) A (GZ v) Q E s:=by
 cases p with
 | none=>exact H0 h|int i t=>exact slicePart_int h
theorem sliceApplied_gen{sl:Addr}{I L:Ad}{lo hi:Option Int}{n:Nat}{Q:Int×Int×Nat->Ag->Prop}(hs:s.heap.IsSliceOf sl I L .none)(pl:EQ I lo)(W:EQ L hi)
 (h:Q (((sIx n 0 lo:Nat):Int),1,sIx n n hi-sIx n 0 lo) s):Aw (AA prog w) A (Ek (.ref sl) (pure (n:Int))) Q E s:=by obtain⟨os,B,U,q⟩:=id hs;unfold Ek HX;refine Aa (Aa (Bc B q (x:=I) rfl (Aa (Bc B q (x:=L) rfl (Aa (Bc B q (x:=.none) rfl (Ah ?_)))))));refine Aa (H0 ?_);show Aw _ _ (if ((1:Int)==0)=true then _ else _) _ _ s;rw[if_neg (by decide)];refine Aa (qS pl (Aa (qS W (Aa (Ah ?_)))));show Aw _ _ (match Db lo hi 1 (n:Int) with|(lo,hi)=>pure (lo,(1:Int),Ch lo hi 1)) _ _ s;rw[aAF lo hi n];show Aw _ _ (pure (((sIx n 0 lo:Nat):Int),(1:Int),Ch ((sIx n 0 lo:Nat):Int) ((sIx n n hi:Nat):Int) 1)) _ _ s;rw[aAG];exact Ah h
theorem aEG(xs:Array Ad)(i k:Nat):((Ai k).filterMap λ(m:Nat)=>xs[((i:Int)+(m:Int)*1).toNat]?).toArray=((xs.toList.drop i).take k).toArray:=by
 have e:(λ(m:Nat)=>xs[((i:Int)+(m:Int)*1).toNat]?)=λm=>xs[i+m]? := by
  funext m
  have:((i:Int)+(m:Int)*1).toNat=i+m:=by omega
  rw[this]
 rw[e];have:=pick_run xs i k;rw[List.filterMap_map] at this;have q:((λx=>xs[x]?)∘λx=>i+x)=λm=>xs[i+m]? := rfl;rw[q] at this;rw[this]
theorem getItem_tuple_cut{t sl:Addr}{items:Array Ad}{vl vu:Ad}{lo hi:Option Int}{Q:Ad->Ag->Prop}(B:IsTup s.heap t items)(hs:s.heap.IsSliceOf sl vl vu .none)(pl:EQ vl lo)(pu:EQ vu hi)
 (hw:¬ (sIx items.size 0 lo=0/\sIx items.size items.size hi=items.size))
 (h:Q (.ref s.heap.objs.size) { s with heap:=s.heap.push { cls:=.type "tuple",data:=.seq ((items.toList.drop (sIx items.size 0 lo)).take (sIx items.size items.size hi-sIx items.size 0 lo)).toArray } })
 (hsz:items.size<=sizeLine):Aw (AA prog w) A (FE (.ref t) (.ref sl)) Q E s:=by
 have q:sizeOk (.seq ((items.toList.drop (sIx items.size 0 lo)).take (sIx items.size items.size hi-sIx items.size 0 lo)).toArray):=by show((items.toList.drop (sIx items.size 0 lo)).take (sIx items.size items.size hi-sIx items.size 0 lo)).toArray.size<=sizeLine;rw[Aj,A0,Bw,B1];omega
 have hj:sIx items.size items.size hi<=items.size:=aKi _ _ (Ao _) hi;obtain⟨os,W,L,q0⟩:=id hs;have I:s.TypeIs (.ref sl) "slice" := ⟨os,W,L⟩
 unfold FE
 try with_reducible refine B8 ?_
 first|refine Aa (Ah ?_)|skip
 refine Aa (Gr B.typeIs (by decide) ?_);refine Aa (AS (name:=Gs "__getitem__") B.typeIs Bk
  (Bh Bk B.typeIs FH ?_ (FZ _ _)))
 show Aw _ _ (El (.ref t) >>= _) _ _ s;refine Aa (Ie B ?_);refine Aa (Eb I ?_);rw[if_pos (by decide)];refine Aa (sliceApplied_gen hs pl pu ?_);have U:¬ ((((sIx items.size 0 lo:Nat):Int)==0&&(1:Int)==1&&(sIx items.size items.size hi-sIx items.size 0 lo)==items.size)=true):=by grind
 show Aw _ _ (if (((sIx items.size 0 lo:Nat):Int)==0&&(1:Int)==1&&(sIx items.size items.size hi-sIx items.size 0 lo)==items.size)=true then _ else _) _ _ s;rw[if_neg U,aEG]
 first
  | exact Aa (m:=Cv _) (Bm (Ah ⟨_,rfl,Ah h⟩) q)
  | exact Aa (m:=Cv _) (Bm (Aa (Ah (Ah ⟨_,rfl,Ah h⟩))) q)
  | exact Aa (Aa (m:=Cv _) (Bm (Ah (Ah ⟨_,rfl,Ah h⟩)) q))
  | exact Aa (Aa (m:=Cv _) (Bm (Ah ⟨_,rfl,Ah h⟩) q))
end
end HT
namespace L2
open PySem PySem.Spec PyProof.Rows
abbrev TO:=St->Hp->(Option Int->Hp->Prop)->Prop
noncomputable def PO(X:Cx)(e:Option A7)(t:TO):Prop:=
 ∀(G:List (Addr×Obj)) (s:Ag) (Z:St) (H:Hp) (Q:Option Int->Hp->Prop),Inv X G Z H s->t Z H Q ->
  Aw (AA X.prog X.w) X.A (evalPart e X.env) (λu s'=>∃o H',Inv X G Z H' s'/\EQ u o/\Q o H') X.xe s
noncomputable def aHs:TO:=λ_ H Q=>Q none H
noncomputable def aNj(t:TE):TO:=λZ H Q=>t Z H λx H1=>∃i,x=.int i/\Q (some i) H1
theorem qT{ns:List Int}:∀{us:List Ad},bJ (ns.map V.int) us->Cm us ns:=by
 induction ns with
 | nil=>intro us r;rw[IE] at r;cases r;exact .nil|cons n ns q=>
  intro us r;rw[Ig] at r;cases r with
  | cons B I=>obtain⟨t,e⟩:=B;subst e;exact .cons n t (q I)
section
variable {X:Cx} {e:A7} {te:TE} {lo hi:Option A7} {tl th:TO} {pos p2:Dy}
theorem aHt:PO X none aHs:=by intro G s Z H Q I h;rw[Ih];exact Ah ⟨none,H,I,.none,h⟩
theorem aHu(h:PE X e te):PO X (some e) (aNj te):=by intro G s Z H Q I L;rw[evalPart_some];refine thn (h G s Z H _ I L) λu s1 ⟨x,H1,B,W,U⟩=>?_;obtain⟨i,rfl,q⟩:=U;obtain⟨t,rfl⟩:=W;exact⟨some i,H1,B,.int i t,q⟩
noncomputable def SlR(X:Cx)(r:V->Option Int->Option Int->Hp->VK->Prop):Prop:=
 ∀(G:List (Addr×Obj)) (s:Ag) (Z:St) (H:Hp) (x:V) (v vl vu:Ad) (lo hi:Option Int) (sl:Addr) (Q:VK),Inv X G Z H s->cC x v->s.heap.IsSliceOf sl vl vu .none->EQ vl lo->EQ vu hi->r x lo hi H Q ->
  ∃T id,typeLookup (.type T) "__getitem__" = pure (some (.builtin id))/\s.TypeIs v T/\Aw (AA X.prog X.w) X.A (FE v (.ref sl)) (EP X G Z Q) X.xe s
theorem SlR.or{r L:V->Option Int->Option Int->Hp->VK->Prop}(h:SlR X r)(h':SlR X L):SlR X (λx lo hi H Q=>r x lo hi H Q\/L x lo hi H Q):=by intro G s Z H x v W vu lo hi sl Q I U hs pl B q;rcases q with q|q;exact h G s Z H x v W vu lo hi sl Q I U hs pl B q;exact h' G s Z H x v W vu lo hi sl Q I U hs pl B q
noncomputable def tSl(r:V->Option Int->Option Int->Hp->VK->Prop)(te:TE)(tl th:TO):TE:=λZ H Q=>te Z H λx H1=>tl Z H1 λl H2=>th Z H2 λu H3=>r x l u H3 Q
theorem aEH{r:V->Option Int->Option Int->Hp->VK->Prop}(hr:SlR X r)(he:PE X e te)(hl:PO X lo tl)(hu:PO X hi th):PE X (.Subscript e (.Slice lo hi none p2) pos) (tSl r te tl th):=by intro G s Z H Q I h;refine Subscript_ (thn (he G s Z H _ I h) λv s1 ⟨x,H1,I1,r1,q1⟩=>?_);refine wpAny_Slice (thn (hl G s1 Z H1 _ I1 q1) λL s2 ⟨l,H2,I2,pl,q2⟩=>thn (hu G s2 Z H2 _ I2 q2) λU B ⟨u,W,I3,pu,q3⟩=>?_);rw[Ih];refine Ah ?_;have I4:Inv X G Z W { B with heap:=B.heap.push { cls:=.type "slice",data:=.fields #[L,U,.none] } }:=I3.kept (t':=B.toks) λb ob q=>Ab _ q;obtain⟨T,id,hT,ht,hg⟩:=hr G { B with heap:=B.heap.push { cls:=.type "slice",data:=.fields #[L,U,.none] } } Z W x v L U l u B.heap.objs.size Q I4 r1 (Jp ..) pl pu q3;show Aw (AA X.prog X.w) X.A (Ii e (.Slice lo hi none p2) v (.ref B.heap.objs.size)) (EP X G Z Q) X.xe { B with heap:=B.heap.push { cls:=.type "slice",data:=.fields #[L,U,.none] } };exact tail_any (ops:=[.ref B.heap.objs.size,v]) ht hT hg (by with_unfolding_all rfl)
noncomputable def yG(xs:List V)(lo hi:Option Int):List V:=(xs.drop (HT.sIx xs.length 0 lo)).take (HT.sIx xs.length xs.length hi-HT.sIx xs.length 0 lo)
theorem pF(xs:List V)(lo hi:Option Int):(yG xs lo hi).length<=xs.length:=by unfold yG;rw[A0,Bw];omega
noncomputable def aNk(K:Ap):V->Option Int->Option Int->Hp->VK->Prop:=λx lo hi H Q=>∃a xs,x=.ref a/\SqT K H a xs /\
 ¬ (HT.sIx xs.length 0 lo=0/\HT.sIx xs.length xs.length hi=xs.length)/\∀p,H p=none->Q (.ref p) (upd H p (.tup (yG xs lo hi)))
theorem aKj:SlR X (aNk X.K):=by
 intro G s Z H x v vl vu lo hi sl Q I rx hs pl pu h;obtain⟨a,xs,rfl,hx,hw,q⟩:=h;cases rx;obtain⟨L,r,U,W⟩:=I.tuple hx;have B:L.toArray.size=xs.length:=by rw[Aj];exact r.length.symm
 refine⟨"tuple",_,Bk.lookup,U.typeIs,?_⟩;refine HT.getItem_tuple_cut U hs pl pu (by rw[B];exact hw) ?_ (by rw[B];exact W);rw[B];refine⟨.ref s.heap.objs.size,_,I.laid (t':=s.toks) (o:=.tup (yG xs lo hi)) (λb ob q=>Ab _ q) (Ao _) ?_,rfl,q _ (I.hok.fresh (Ao _))⟩;exact⟨AM (pF xs lo hi) W,_,(r.drop (HT.sIx xs.length 0 lo)).take (HT.sIx xs.length xs.length hi-HT.sIx xs.length 0 lo),Iz _ _⟩
noncomputable def aQc(K:Ap):R2:=λx y H Q=>∃a b ns ms,x=.ref a/\y=.ref b/\SqT K H a (ns.map V.int)/\SqT K H b (ms.map V.int)/\Q (.bl (HT.lexLt ns ms)) H
theorem aKk(hu:X.A.units<Ej):OpR X (BI .Lt) (aQc X.K):=by intro G s Z H x y v u Q I rx ry h;obtain⟨a,b,ns,ms,rfl,rfl,U,W,q⟩:=h;cases rx;cases ry;obtain⟨L,r1,p1,_⟩:=I.tuple U;obtain⟨B,r2,p2,_⟩:=I.tuple W;have i1:Cm L.toArray.toList ns:=qT r1;have i2:Cm B.toArray.toList ms:=qT r2;exact HT.lt_tupInts p1 p2 i1 i2 hu ⟨.bl (HT.lexLt ns ms),H,I,rfl,q⟩
noncomputable def aNl(K:Ap):R2:=λx y H Q=>∃a b xs ys,x=.ref a/\y=.ref b/\SqT K H a xs/\SqT K H b ys/\xs≠[]/\xs.length+ys.length<=sizeLine /\
 (ys=[]->Q (.ref a) H)/\(ys≠[]->∀p,H p=none->Q (.ref p) (upd H p (.tup (xs++ys))))
theorem bJ.nil_iff{xs:List V}{us:List Ad}(r:bJ xs us):us=[]↔xs=[]:=by
 cases r with
 | nil=>simp|cons _ _=>simp
theorem aHv:OpR X (De .Add) (aNl X.K):=by intro G s Z H x y v u Q I rx ry h;obtain⟨a,b,xs,ys,rfl,rfl,ha,hb,hx,U,q1,q2⟩:=h;cases rx;cases ry;obtain⟨q0,L,p1,_⟩:=I.tuple ha;obtain⟨W,B,p2,_⟩:=I.tuple hb;refine HT.cat_tup p1 p2 (λz=>hx (L.nil_iff.mp z)) (λz=>⟨.ref a,H,I,rfl,q1 (B.nil_iff.mp z)⟩) (λz=>?_) (by rw[<-L.length,<-B.length];exact U);refine⟨.ref s.heap.objs.size,_,I.laid (t':=s.toks) (o:=.tup (xs++ys)) (λb ob q=>Ab _ q) (Ao _) ?_,rfl,q2 (λw=>z (B.nil_iff.mpr w)) _ (I.hok.fresh (Ao _))⟩;exact⟨by rw[Dq];exact U,_,L.append B,Iz _ _⟩
end
noncomputable def ixN(n:Nat)(i:Int):Option Nat:=if 0<=i then (if i<n then some i.toNat else none) else if -(n:Int)<=i then some (i+n).toNat else none
noncomputable def atI{α:Type}(xs:List α)(i:Int):Option α:=(ixN xs.length i).bind λj=>xs[j]?
theorem vR{n:Nat}{i:Int}{j:Nat}(h:ixN n i=some j):FF i n=some j/\j<n/\-(n:Int)<=i/\i<n:=by unfold ixN at h;by_cases q:0<=i;rw[if_pos q] at h;by_cases h1:i<n;rw[if_pos h1] at h;have e:i.toNat=j:=A9 h;exact⟨by rw[GU q h1,e],by omega,by omega,h1⟩;rw[if_neg h1] at h;cases h;rw[if_neg q] at h;by_cases h1:-(n:Int)<=i;rw[if_pos h1] at h;have e:(i+n).toNat=j:=A9 h;exact⟨by rw[Gu (by omega) h1,e],by omega,h1,by omega⟩;rw[if_neg h1] at h;cases h
theorem vS{α:Type}{xs:List α}{i:Int}{v:α}(h:atI xs i=some v):∃j,FF i xs.length=some j/\xs[j]? = some v/\j<xs.length/\-(xs.length:Int)<=i/\i<xs.length:=by
 unfold atI at h;cases e:ixN xs.length i with
 | none=>rw[e] at h;cases h|some j=>rw[e] at h;obtain⟨h1,h2,q,B⟩:=vR e;exact⟨j,h1,h,h2,q,B⟩
noncomputable def aBI(b:A7):Prop:=∀o i,IX b false o i=operate [o,i] (FE o i)
noncomputable def IxR(X:Cx)(r:R2):Prop:=
 ∀(value slice:A7) (G:List (Addr×Obj)) (s:Ag) (Z:St) (H:Hp) (x y:V) (v u:Ad) (Q:VK),Inv X G Z H s->cC x v->cC y u->r x y H Q ->
  IX slice false v u=operate [v,u] (FE v u)->Aw (AA X.prog X.w) X.A (Ii value slice v u) (EP X G Z Q) X.xe s
noncomputable def MtR(X:Cx)(id:String)(r:V->List V->Hp->VK->Prop):Prop:=
 ∀(G:List (Addr×Obj)) (s:Ag) (Z:St) (H:Hp) (x:V) (xs:List V) (v:Ad) (us:List Ad) (Q:VK),Inv X G Z H s->cC x v->bJ xs us->r x xs H Q ->
  Aw (AA X.prog X.w) X.A (call (.builtin id) (v::us)) (EP X G Z Q) X.xe s
section
variable {X:Cx} {a b:A7} {ta tb:TE} {pos:Dy}
theorem IxR.or{r L:R2}(h:IxR X r)(h':IxR X L):IxR X (λx y H Q=>r x y H Q\/L x y H Q):=by intro value B G s Z H x y v u Q I U W q hs;rcases q with q|q;exact h value B G s Z H x y v u Q I U W q hs;exact h' value B G s Z H x y v u Q I U W q hs
theorem aBJ{r:R2}(hr:IxR X r)(U:PE X a ta)(W:PE X b tb)(hs:aBI b):PE X (.Subscript a b pos) (tOp r ta tb):=by intro G s Z H Q I h;exact Subscript_ (aMZ U W I h λv u s2 x y B L rx ry q=>hr a b G s2 Z B x y v u Q L rx ry q (hs _ _))
noncomputable def aNm(K:Ap):R2:=λx y H Q=>∃p xs i v,x=.ref p/\y=.int i/\SqL K H p xs/\atI xs i=some v/\Q v H
noncomputable def aNn(K:Ap):R2:=λx y H Q=>∃p xs i v,x=.ref p/\y=.int i/\SqT K H p xs/\atI xs i=some v/\Q v H
noncomputable def aNo:R2:=λx y H Q=>∃z i c,x=.str z/\y=.int i/\z.length<=sizeLine/\atI z.cps.toList i=some c/\Q (.str ⟨#[c]⟩) H
theorem aBK:IxR X (aNm X.K):=by
 intro value q0 G s Z H x y v u Q I rx ry h hs;obtain⟨p,xs,i,z,rfl,rfl,hq,he,q⟩:=h;cases rx;obtain⟨t,rfl⟩:=ry;obtain⟨U,r,pl,hz⟩:=I.list hq;obtain⟨j,h1,h2,h3,h4,h5⟩:=vS he;obtain⟨w,ew,W⟩:=r.get h2;have hl:=r.length;have hn:=mH;have B:EP X G Z Q w s:=⟨z,H,I,W,q⟩
 by_cases h0:0<=i;have L:i.toNat=j:=by rw[GU h0 h5] at h1;grind
 exact item_listR pl.isList h0 (by omega) (by rw[L];simpa using ew) B hs;have L:(i+(U.toArray.size:Int)).toNat=j:=by rw[Gu (by omega) h4] at h1;rw[Aj,<-hl];grind
 exact D5 (x:=w) pl.isList.typeIs Gv.lookup
  (wpAny_getItem_list_neg (Q:=λr s'=>r=w/\EP X G Z Q r s') pl.isList (by omega) (by rw[Aj] <;> omega) (by omega) (by rw[L];simpa using ew) ⟨rfl,B⟩) hs
theorem aKl:IxR X (aNn X.K):=by
 intro value U G s Z H x y v u Q I rx ry h hs;obtain⟨p,xs,i,z,rfl,rfl,hq,he,q⟩:=h;cases rx;obtain⟨t,rfl⟩:=ry;obtain⟨q0,r,pl,hz⟩:=I.tuple hq;obtain⟨j,h1,h2,h3,h4,h5⟩:=vS he;obtain⟨w,W,L⟩:=r.get h2;have hl:=r.length;have hn:=mH;have B:EP X G Z Q w s:=⟨z,H,I,L,q⟩
 exact D5 (x:=w) pl.typeIs slot_tuple_getitem.lookup
  (getItem_tuple (j:=j) (Q:=λr s'=>r=w/\EP X G Z Q r s') pl (by omega) (by omega) (by rw[Aj,<-hl];exact h1) (by simpa using W) ⟨rfl,B⟩) hs
theorem aKm:IxR X aNo:=by
 intro value B G s Z H x y v u Q I rx ry h hs;obtain⟨z,i,c,rfl,rfl,hz,he,q⟩:=h;obtain⟨t,rfl⟩:=rx;obtain⟨t',rfl⟩:=ry;obtain⟨j,h1,h2,h3,W,h5⟩:=vS he;have hl:z.cps.toList.length=z.length:=by simp[Jq]
 rw[hl] at h1 W h5;have hn:=mH;exact tail_any (typeIs_str s z t) slot_str_getitem.lookup (getItem_str (c:=c) (by
  have L:decide (i < -(2 ^ 63:Int))=false:=A3 (by omega);have U:decide (i ≥ 2 ^ 63)=false:=A3 (by omega);rw[L,U,FQ]) (by rw[h1];simpa using h2) ⟨.str ⟨#[c]⟩,H,I.tok _,⟨_,rfl⟩,q⟩) hs
noncomputable def rIx(K:Ap):R2:=λx y H Q=>aNm K x y H Q\/aNn K x y H Q\/aNo x y H Q
theorem aEI:IxR X (rIx X.K):=aBK.or (aKl.or aKm)
theorem aAH(q:List Ad)(n j:Nat)(u:Ad):Dr (·.setIfInBounds j u) { cls:=.type "list",data:=.seq q.toArray n }={ cls:=.type "list",data:=.seq (q.set j u).toArray n }:=by simp[Dr]
theorem Inv.lst{G:List (Addr×Obj)}{Z:St}{H:Hp}{s:Ag}{p:Addr}{xs:List V}(I:Inv X G Z H s)(h:H p=some (.lst xs)) :
 ∃(q:List Ad) (n:Nat),bJ xs q/\s.heap.get? p=some { cls:=.type "list",data:=.seq q.toArray n }/\xs.length<=sizeLine:=by obtain⟨z,q,n,r,e⟩:=I.hok p _ h;exact⟨q,n,r,e,z⟩
theorem Inv.lstUpd{G:List (Addr×Obj)}{Z:St}{H:Hp}{s:Ag}{p:Addr}{xs U:List V}{B its':List Ad}{n L:Nat}{f:Obj->Obj}(I:Inv X G Z H s)(h:H p=some (.lst xs))
 (ho:s.heap.get? p=some { cls:=.type "list",data:=.seq B.toArray n }) (W:f { cls:=.type "list",data:=.seq B.toArray n }={ cls:=.type "list",data:=.seq its'.toArray L }) (r:bJ U its') (hz:U.length<=sizeLine) (t:Nat) :
 Inv X G Z (upd H p (.lst U)) { s with heap:=s.heap.update p f,toks:=t }:=by
 have e:(s.heap.update p f).get? p=some { cls:=.type "list",data:=.seq its'.toArray L }:=by rw[DC f ho (by rw[W] <;> rfl),W]
 refine I.write (x:=p) (e:=p) (by rw[h];trivial) (.inl rfl) (λb u hb q=>(CB _ _ (Dj hb)).trans q) ⟨_,e⟩ ?_;exact⟨hz,its',L,r,e⟩
noncomputable def aNp:V->V->V->Hp->(Hp->Prop)->Prop:=λo i v H Q=>∃p xs k j,o=.ref p/\i=.int k/\H p=some (.lst xs)/\ixN xs.length k=some j/\Q (upd H p (.lst (xs.set j v)))
theorem aEJ:aJU X aNp:=by
 intro G s Z H o i v ov iv u Q I ro ri rv h;obtain⟨p,xs,k,j,rfl,rfl,hp,hj,q⟩:=h;cases ro;obtain⟨t,rfl⟩:=ri;obtain⟨B,n,r,W,hz⟩:=I.lst hp;obtain⟨h1,h2,h3,h4⟩:=vR hj;have U:=r.length;have hn:=mH;have I':Inv X G Z (upd H p (.lst (xs.set j v))) { s with heap:=s.heap.update p (Dr (·.setIfInBounds j u)) }:=
  I.lstUpd hp W (aAH B n j u) (r.set rv j) (by rw[Av];exact hz) s.toks
 by_cases h0:0<=k;have L:k.toNat=j:=by rw[GU h0 h4] at h1;grind
 exact PySem.W.ki_setAt W h0 (by omega) (by rw[Aj,<-U];exact h4) (by rw[L];exact⟨_,I',q⟩);have L:(k+(B.toArray.size:Int)).toNat=j:=by rw[Gu (by omega) h3] at h1;rw[Aj,<-U];grind
 exact PySem.W.ki_setBack W (by omega) (by rw[Aj,<-U];exact h3) (by omega) (by rw[L];exact⟨_,I',q⟩)
theorem vT(lo hi:Option Int)(n:Nat):(Dw lo hi none n).1=((HT.sIx n 0 lo:Nat):Int)/\(Dw lo hi none n).2.1=((HT.sIx n n hi:Nat):Int)/\(Dw lo hi none n).2.2=1:=by
 refine⟨?_,?_,rfl⟩;cases lo with
 | none=>simp[Dw,HT.sIx]|some i=>simp only[Dw,HT.sIx,EC,show(1:Int)>0 by decide,if_true];by_cases h:i<0;simp only[h,if_true] <;> omega;simp only[h,if_false] <;> omega
 cases hi with
 | none=>simp[Dw,HT.sIx]|some i=>simp only[Dw,HT.sIx,EC,show(1:Int)>0 by decide,if_true];by_cases h:i<0;simp only[h,if_true] <;> omega;simp only[h,if_false] <;> omega
theorem tP(q:List Ad)(lo hi:Option Int):slicePick q.toArray lo hi none=((q.drop (HT.sIx q.length 0 lo)).take (HT.sIx q.length q.length hi-HT.sIx q.length 0 lo)).toArray:=by obtain⟨h1,h2,B⟩:=vT lo hi q.toArray.size;unfold slicePick;rw[h1,h2,B];simp only[sliceRange_one,pick_run,Aj] <;> rfl
noncomputable def aNq(K:Ap):V->Option Int->Option Int->Hp->VK->Prop:=λx lo hi H Q=>∃a xs,x=.ref a/\SqL K H a xs/\∀p,H p=none->Q (.ref p) (upd H p (.lst (yG xs lo hi)))
theorem aHw:SlR X (aNq X.K):=by intro G s Z H x v vl vu lo hi sl Q I rx hs pl pu h;obtain⟨a,xs,rfl,U,q⟩:=h;cases rx;obtain⟨q0,r,L,W⟩:=I.list U;have B:=r.length;refine⟨"list",_,Gv.lookup,L.isList.typeIs,?_⟩;refine wpAny_getItem_list_slice L.isList hs pl pu .none (by simp) ?_ (by rw[Aj] <;> omega);rw[tP,<-B];refine⟨.ref s.heap.objs.size,_,I.laid (t':=s.toks) (o:=.lst (yG xs lo hi)) (λb ob q=>Ab _ q) (Ao _) ?_,rfl,q _ (I.hok.fresh (Ao _))⟩;exact⟨AM (pF xs lo hi) W,_,0,(r.drop (HT.sIx xs.length 0 lo)).take (HT.sIx xs.length xs.length hi-HT.sIx xs.length 0 lo),An _ rfl⟩
theorem vU:gM X (.builtin "len") (λxs H Q=>∃p L,xs=[.ref p]/\(SqL X.K H p L\/SqT X.K H p L)/\Q (.int L.length) H):=by intro G s Z H xs us Q I r h;obtain⟨p,L,rfl,U,q⟩:=h;obtain⟨u,rfl,rx⟩:=pE r;cases rx;have hn:=mH;rcases U with U|U;obtain⟨W,r',pl,hz⟩:=I.list U;have B:=r'.length;exact Calls.call_len_list pl.isList (by simp only[Aj] <;> omega) ⟨.int L.length,H,I.tok _,⟨s.toks+1,by rw[Aj,B]⟩,q⟩;obtain⟨W,r',pl,hz⟩:=I.tuple U;have B:=r'.length;exact len_tuple pl (by simp only[Aj] <;> omega) ⟨.int L.length,H,I.tok _,⟨s.toks+1,by rw[Aj,B]⟩,q⟩
theorem vV:gM X (.builtin "len") (λxs H Q=>∃z,xs=[.str z]/\z.length<=sizeLine/\Q (.int z.length) H):=by intro G s Z H xs us Q I r h;obtain⟨z,rfl,L,q⟩:=h;obtain⟨u,rfl,t,rfl⟩:=pE r;have B:=mH;exact len_str (by omega) ⟨.int z.length,H,I.tok _,⟨_,rfl⟩,q⟩
theorem gM.or{f:Ad}{r B:List V->Hp->VK->Prop}(h:gM X f r)(h':gM X f B):gM X f (λxs H Q=>r xs H Q\/B xs H Q):=by intro G s Z H xs us Q I L q;rcases q with q|q;exact h G s Z H xs us Q I L q;exact h' G s Z H xs us Q I L q
theorem vW:gM X (.type "list") (λxs H Q=>∃p W,xs=[.ref p]/\(SqL X.K H p W\/SqT X.K H p W)/\∀l,H l=none->Q (.ref l) (upd H l (.lst W))):=by
 intro G s Z H xs us Q I r h;obtain⟨p,W,rfl,hq,q⟩:=h;obtain⟨u,rfl,rx⟩:=pE r;cases rx;have q0:∀(B:List Ad),bJ W B->W.length<=sizeLine->∀(h':Heap) (L:Nat),(∀b o',s.heap.get? b=some o'->h'.get? b=some o') ->
  h'.get? s.heap.objs.size=some { cls:=.type "list",dict:=none,data:=.seq B.toArray L,slots:=#[] }->EP X G Z Q (.ref s.heap.objs.size) { s with heap:=h' }:=λB U hz h' L kp e=>
  ⟨.ref s.heap.objs.size,_,I.laid (t':=s.toks) kp (Ao _) (show fS X.prog X.w _ h' _ (.lst W) from⟨hz,B,L,U,e⟩),rfl,q _ (I.hok.fresh (Ao _))⟩
 rcases hq with hq|hq;obtain⟨B,U,pl,hz⟩:=I.list hq;have q1:=U.length;obtain⟨o,ho,hc,n,hd⟩:=pl.isList;exact Ij p (.inl rfl) ho hc hd (λh' L kp e=>q0 B U hz h' L kp e) (by simp only[Aj] <;> omega);obtain⟨B,U,pl,hz⟩:=I.tuple hq;have q1:=U.length;obtain⟨o,ho,hc,n,hd⟩:=pl;exact Ij p (.inr rfl) ho hc hd (λh' L kp e=>q0 B U hz h' L kp e) (by simp only[Aj] <;> omega)
theorem tQ:gM X (.type "tuple") (λxs H Q=>∃p L,xs=[.ref p]/\((SqL X.K H p L/\∀l,H l=none->Q (.ref l) (upd H l (.tup L)))\/(SqT X.K H p L/\Q (.ref p) H))):=by
 intro G s Z H xs us Q I r h;obtain⟨p,L,rfl,h⟩:=h;obtain⟨u,rfl,rx⟩:=pE r;cases rx;rcases h with⟨U,q⟩|⟨U,q⟩
 obtain⟨B,W,pl,hz⟩:=I.list U;have q0:=W.length;refine call_tuple_list pl.isList (λh' kp=>?_) (by simp only[Aj] <;> omega);have I1:Inv X G Z H { s with heap:=h' }:=I.kept (t':=s.toks) kp;have I2:Inv X G Z (upd H h'.objs.size (.tup L)) { s with heap:=h'.push { cls:=.type "tuple",data:=.seq B.toArray } }:=
  I1.laid (t':=s.toks) (λb o e=>Ab _ e) (Ao _) (show fS X.prog X.w _ _ _ (.tup L) from⟨hz,B,W,Iz _ _⟩)
 exact⟨.ref h'.objs.size,_,I2,rfl,q _ (I1.hok.fresh (Ao _))⟩;obtain⟨B,W,pl,hz⟩:=I.tuple U;exact call_tuple_same pl ⟨.ref p,H,I,rfl,q⟩
noncomputable def tyV(K:Ap)(T:String)(x:V)(H:Hp):Prop:=match x with|.ref p=>(T = "list" /\ ∃xs,SqL K H p xs)\/False|_=>False
theorem aKn{G:List (Addr×Obj)}{Z:St}{H:Hp}{s:Ag}{T:String}{x:V}{v:Ad}(I:Inv X G Z H s)(r:cC x v)(ty:tyV X.K T x H) :
 s.TypeIs v T/\∀a,v=.ref a->∃q,s.heap.get? a=some q/\q.dict=none:=by
 cases x with
 | ref p=>cases r;rcases ty with⟨rfl,xs,B⟩|z;obtain⟨L,_,pl,_⟩:=I.list B;refine⟨pl.isList.typeIs,λa e=>?_⟩;cases e;obtain⟨o,n,e,c,hd,_⟩:=pl;exact⟨o,e,hd⟩;grind
 | _=>exact Dp ty
noncomputable def tBM(K:Ap)(T:String)(r:V->List V->Hp->VK->Prop)(to:TE)(t:TA):TE:=λZ H Q=>to Z H λx H1=>tyV K T x H1/\t Z H1 λxs H2=>r x xs H2 Q
variable {o e:A7} {es:List A7} {to:TE} {t:TA} {name:Str} {apos cpos:Dy} {T id:String} {r:V->List V->Hp->VK->Prop}
theorem qU(pa:PlainAttrs T)(slot:Slot T name id)(W:typeOf (.builtin id)=pure (.type "method_descriptor"))(hm:MtR X id r)(ho:PE X o to)(ha:PA X (e::es) t)
 (q:attributeBase o name X.env (Dm o X.env)=Dm o X.env:=by rfl)
 (L:((E2 cpos (Bj (e::es) X.env)).all (λx=>!x.1)&&(backToKw cpos (keywordEach [] X.env)).all (λx=>x.1.isSome)
  && decide ((e::es).length+([]:List J2).length+(if ([]:List J2).isEmpty then 0 else 1)<30))=true:=by rfl)
 (B:(apos.endLine==cpos.line)=true:=by rfl) (hs:Bj (e::es) X.env=(false,Dm e X.env)::Bj es X.env:=by rfl) (U:(E2 cpos (Bj es X.env)).any (·.1)=false:=by rfl) :
 PE X (.Call (.Attribute o name apos) (e::es) [] cpos) (tBM X.K T r to t):=by intro G s Z H Q I h;refine ES q L B rfl (thn (ho G s Z H _ I h) λv s1 ⟨x,H1,I1,r1,ty,q1⟩=>?_);obtain⟨h1,h2⟩:=aKn I1 r1 ty;refine⟨T,id,pa,slot,W,h1,h2,?_⟩;have hA:=ha cpos G s1 Z H1 _ I1 q1;rw[hs] at hA ⊢;refine ET (by grind) (Fw ?_);exact thn hA λus s2 ⟨vs,H2,I2,r2,q2⟩=>hm G s2 Z H2 x vs v us Q I2 r1 r2 q2
end
noncomputable def MtM(X:Cx)(id:String)(r:V->List V->Hp->VK->Prop):Prop:=
 ∀(G:List (Addr×Obj)) (s:Ag) (Z:St) (H:Hp) (x:V) (xs:List V) (v:Ad) (us:List Ad) (Q:VK),Inv X G Z H s->cC x v->bJ xs us->r x xs H Q ->
  Aw (AA X.prog X.w) X.A (call (.builtin id) (v::us)) (EP X G Z Q) X.xe s
theorem bJ.one:∀{x:V} {us:List Ad},bJ [x] us->∃u,us=[u]/\cC x u:=by intro x us h;cases h with|cons r t=>cases t;grind
theorem bJ.zero:∀{us:List Ad},bJ [] us->us=[]
 | _,.nil=>rfl
theorem bJ.eraseIdx:∀{xs:List V} {us:List Ad} (i:Nat),bJ xs us->bJ (xs.eraseIdx i) (us.eraseIdx i)
 | _,_,_,.nil=>.nil|_,_,0,.cons _ t=>t|_,_,i+1,.cons r t=>.cons r (bJ.eraseIdx i t)
theorem bJ.rep{xs:List V}{us:List Ad}(h:bJ xs us):∀k:Nat,bJ (Am k xs).flatten (Am k us).flatten
 | 0=>.nil|k+1=>by rw[B2,B2,BV,BV];exact bJ.append h (bJ.rep h k)
theorem uE{α:Type}:∀(l:List α) (i:Nat),(l.eraseIdx i).length<=l.length
 | [],_=>Ao _|_::_,0=>CT _|_::r,i+1=>Nat.succ_le_succ (uE r i)
theorem uF(q:List Ad):∀(k:Nat) (acc:List Ad),
 H9 (λI L=>I++L) acc.toArray (Am k q.toArray)=(acc++(Am k q).flatten).toArray
 | 0,acc=>by simp|k+1,acc=>by
  have e:acc.toArray++q.toArray=(acc++q).toArray:=by simp
  have B:(acc++q)++(Am k q).flatten=acc++(Am (k+1) q).flatten:=by rw[B2,BV,Ba]
  rw[<-B,<-uF q k (acc++q),<-e,B2,BX]
section
variable {X:Cx} {G:List (Addr×Obj)} {Z:St} {H:Hp} {s:Ag} {l b:Addr} {xs ys zs:List V}
theorem Inv.lset{B its':List Ad}{n:Nat}{f:Array Ad->Array Ad}{t':Nat}(I:Inv X G Z H s)(L:H l=some (.lst xs))
 (e:s.heap.get? l=some { cls:=.type "list",data:=.seq B.toArray n }) (W:f B.toArray=its'.toArray) (hv:bJ ys its') (hz:ys.length<=sizeLine) :
 Inv X G Z (upd H l (.lst ys)) { s with heap:=s.heap.update l (Dr f),toks:=t' }:=by have q:=GF e f;rw[W] at q;refine I.write (x:=l) (e:=l) (by rw[L];exact trivial) (.inl rfl) (λb' u U hu=>(CB s.heap (Dr f) (Dj U)).trans hu) ⟨_,q⟩ ?_;exact⟨hz,its',_,hv,q⟩
theorem Inv.lnew{B:List Ad}{t':Nat}(I:Inv X G Z H s)(L:bJ ys B)(U:ys.length<=sizeLine) :
 Inv X G Z (upd H s.heap.objs.size (.lst ys)) { s with heap:=s.heap.push { cls:=.type "list",data:=.seq B.toArray },toks:=t' }:=
 I.laid (λ_ _ q=>Ab _ q) (Ao _) ⟨U,B,0,L,An _ rfl⟩
theorem Inv.fresh(I:Inv X G Z H s):H s.heap.objs.size=none:=I.hok.fresh (Ao _)
theorem Inv.lstM(I:Inv X G Z H s)(B:H l=some (.lst xs)):xs.length<=sizeLine/\∃(q:List Ad) (n:Nat),bJ xs q/\xs.length=q.length/\s.heap.get? l=some { cls:=.type "list",data:=.seq q.toArray n }:=by obtain⟨z,q,n,r,e⟩:=I.hok l _ B;exact⟨z,q,n,r,r.length,e⟩
theorem yH{n:Nat}(h:n<=sizeLine):Cw n=false:=by unfold Cw;exact A3 (by omega)
end
section
variable {X:Cx}
noncomputable def aHx:V->List V->Hp->VK->Prop:=λx vs H Q=>∃l xs y,x=.ref l/\vs=[y]/\H l=some (.lst xs)/\xs.length<sizeLine/\Q .non (upd H l (.lst (xs++[y])))
theorem kJ:MtM X "list.append" aHx:=by intro G s Z H x vs v us Q I W rv h;obtain⟨l,xs,y,rfl,rfl,L,hz,q⟩:=h;cases W;obtain⟨u,rfl,U⟩:=rv.one;obtain⟨z,B,n,r,hl,e⟩:=I.lstM L;refine Em Ga ⟨_,e,rfl⟩ FI (Fx _ _) (Gw l B.toArray n u (by rw[Aj];omega)) ⟨e,?_⟩;refine⟨.non,_,I.lset (its':=B++[u]) L e (by simp) (r.append (.cons U .nil)) ?_,rfl,q⟩;rw[Dq,BK];omega
noncomputable def aHy:V->List V->Hp->VK->Prop:=λx vs H Q=>∃l b xs zs,x=.ref l/\vs=[.ref b]/\H l=some (.lst xs)/\H b=some (.lst zs)/\xs.length+zs.length<=sizeLine/\Q .non (upd H l (.lst (xs++zs)))
theorem aCZ:MtM X "list.extend" aHy:=by
 intro G s Z H x vs v us Q I rx rv h;obtain⟨l,b,xs,zs,rfl,rfl,W,hB,hz,q⟩:=h;cases rx;obtain⟨u,rfl,ru⟩:=rv.one;cases ru;obtain⟨z,L,n,r,hl,e⟩:=I.lstM W;obtain⟨z2,B,n2,r2,q0,e2⟩:=I.lstM hB;have hsz:L.toArray.size+B.toArray.size<=sizeLine:=by rw[Aj,Aj];omega
 have U:¬ (!L.toArray.isEmpty&&Cw (L.toArray.size+B.toArray.size))=true:=by rw[yH hsz,HA];grind
 refine Em F.slot_list_extend ⟨_,e,rfl⟩ F.entry_list_extend (F.args_list_extend_2 _ _)
  (Gx l L.toArray n b B.toArray n2 U (by rw[Aj];omega) (by omega)) ⟨e,e2,?_⟩
 refine⟨.non,_,I.lset (its':=L++B) W e (by simp) (r.append r2) ?_,rfl,q⟩;rw[Dq];omega
noncomputable def aKo:V->List V->Hp->VK->Prop:=λx vs H Q=>∃l xs i k y,x=.ref l/\vs=[.int i]/\H l=some (.lst xs)/\-(2 ^ 63)<=i/\i<2 ^ 63/\FF i xs.length=some k/\xs[k]? = some y/\Q y (upd H l (.lst (xs.eraseIdx k)))
theorem yI:MtM X "list.pop" aKo:=by
 intro G s Z H x vs v us Q I rx rv h;obtain⟨l,xs,i,k,y,rfl,rfl,U,h1,h2,W,hy,q⟩:=h;cases rx;obtain⟨u,rfl,ru⟩:=rv.one;obtain⟨t,rfl⟩:=ru;obtain⟨z,B,n,r,hl,e⟩:=I.lstM U;obtain⟨w,hw,L⟩:=r.get hy;refine Em F.slot_list_pop ⟨_,e,rfl⟩ F.entry_list_pop (F.args_list_pop_2 _ _)
  (IY l B.toArray n i t k w (HB h1 h2) (by rw[Aj,<-hl];exact W) (by rw[<-BL];exact hw) (by rw[Aj];omega)) ⟨e,?_⟩
 refine⟨y,_,I.lset (its':=B.eraseIdx k) U e ?_ (r.eraseIdx k) ?_,L,q⟩;grind;have:=uE xs k;omega
noncomputable def aQd:R2:=λx y H Q=>∃l k xs,x=.ref l/\y=.int k/\H l=some (.lst xs)/\-(2 ^ 63)<=k/\k<2 ^ 63/\xs.length*k.toNat<=sizeLine /\
 ∀p,H p=none->Q (.ref p) (upd H p (.lst (Am k.toNat xs).flatten))
theorem aHz{α:Type}(xs:List α)(k:Nat):(Am k xs).flatten.length=k*xs.length:=by simp_all
theorem aKp:OpR X (De .Mult) aQd:=by
 intro G s Z H x y v u Q I rx ry h;obtain⟨l,k,xs,rfl,rfl,hH,h1,h2,hz,q⟩:=h;cases rx;obtain⟨t,rfl⟩:=ry;obtain⟨z,B,n,r,hl,e⟩:=I.lstM hH;have q1:B.toArray.size*k.toNat<=sizeLine:=by rw[Aj,<-hl];exact hz
 have W:¬ B.toArray.size*k.toNat>(2 ^ 63-1) / 8:=by
  have:(sizeLine:Nat)<=(2 ^ 63-1) / 8:=by decide
  omega
 have q0:¬ (!HC k)=true:=by rw[HB h1 h2];grind
 have L:¬ Cw (B.toArray.size*k.toNat)=true:=by rw[yH q1];grind
 have q2:H9 (λx1 x2=>x1++x2) #[] (Am (if B.toArray.isEmpty=true then 0 else k.toNat) B.toArray)=(Am k.toNat B).flatten.toArray:=by
  have f0:∀m:Nat,H9 (λx1 x2=>x1++x2) #[] (Am m B.toArray)=(Am m B).flatten.toArray:=λm=>by have:=uF B m [];rw[DR] at this;exact this
  rw[f0];cases B with
  | nil=>simp|cons a r'=>rw[if_neg (by simp)]
 refine wpAny_binaryOp_repeat_ref (T:= "list") (U:= "int") (by decide) ⟨_,e,rfl⟩ (λs'=>typeIs_int s' k t) noFill_list_mul F.fills_int_mul Ha repeat_list F.slot_int_index.lookup
  (Em Ha (typeIs_int s k t) F.entry_int_rmul (F.args_int_rmul_2 _ _) (int___rmul___int_list k t l B.toArray n)
   ⟨e,rfl,⟨_,e,rfl⟩,Em F.slot_list_mul ⟨_,e,rfl⟩ F.entry_list_mul (F.args_list_mul_2 _ _) (Go l B.toArray n k t q0 W L) ⟨e,?_⟩⟩)
 rw[q2];exact⟨.ref _,_,I.lnew (t':=s.toks) (r.rep k.toNat) (by rw[aHz,Nat.mul_comm];exact hz),rfl,q _ I.fresh⟩
end
end L2
namespace Att
open PySem PySem.W PySem.Calls PyProof.Rows
theorem pM{P:HD}{h:Heap}:∀(ns:List Int) (vs:List Ad),WellAll P h vs (ns.map JB)->Cm vs ns:=by
 intro ns
 induction ns with
 | nil=>intro vs w;rw[IE] at w;cases w;exact .nil|cons n ns q=>
  intro vs w;rw[Ig] at w;cases w with
  | cons a b=>cases a;exact .cons _ _ (q _ b)
theorem aDa{l:J3}{n:Nat}(hn:l.most=some n){P:HD}{h:Heap}{args:List WData}{B:List Ad}
 (q:l.row.toRowW.claim.pre args=true) (q0:WellAll P h B args) :
 ∃a vs ns,B=[Dt a]/\args=[WData.list (ns.map JB)]/\h.get? a=some { cls:=.type "list",data:=.seq vs.toArray }/\Cm vs ns/\ns.length<=n:=by
 have W:WShape.hasAll [] args [.list .int]=true:=(pre_splitW q).1;have hc:l.pre.holds [] { args:=args }=true:=(pre_splitW q).2;obtain⟨d,r,rfl,h1,h2⟩:=hasAllW_cons W;obtain rfl:=hasAllW_nil h2;obtain⟨xs,rfl,h3⟩:=hasW_list h1;obtain⟨ns,rfl⟩:=items_int h3;have L:ns.length<=n:=by
  unfold OpenLaw.pre at hc;have U:(WTm.not (.lt (.lit (.int (n:Int))) (.len (.arg 0)))).holds [] { args:=[.list (ns.map .int)] }=true:=by have U:=(holds_andW hc).1;rw[hn] at U;exact U
  have h5:=condW_of U (w_not (w_lt w_lit (w_len_list (w_arg rfl))));rw[Fc] at h5;grind
 cases q0 with
 | cons w1 w2=>
  cases w2;cases w1 with
  | list ho I=>exact⟨_,_,ns,rfl,rfl,ho,pM ns _ I,L⟩
theorem aDb(l:J3)(args:List WData):l.row.toRowW.claim.post args (.bool true) args=true:=
 postW_of (r:=l.row.toRowW) (X:=(true==true))
  (show Jr [] (.bool true) .bool=true by first|rfl|decide|simp[Jr,WShape.arms,WShape.armsAll])
  (show(WTm.eq .res (.lit (.bool true))).value [] { args:=args,res:=some (.bool true),after:=args }=some (.bool (true==true)) from w_eq_bool (w_res rfl) w_lit) rfl
theorem attach_call{l:J3}{n:Nat}{q:A2}{I:List Str}{XP:(Str->Option Ad)->Heap->Prop}{YP:AL->Heap->Prop}{d:DefRec}
 (hn:l.most=some n) (q2:d.params.defaults=[])
 (call:∀(w:AL) (s₀ B:Ag) (mg mb:Str->Option Ad) (fa:Addr) (o:Obj) (pm cd doc:Ad) (a:Addr) (vs:List Ad) (ns:List Int),
  Ground q I [] XP w s₀ mg mb B.heap->YP w B.heap ->
  B.heap.get? fa=some o->o.data=.func (docDef d.name d.params d.body d.scope pm cd doc)->B.heap.CodeRec cd d.name->mg d.name=some (.ref fa) ->
  B.heap.get? a=some { cls:=.type "list",data:=.seq vs.toArray }->Cm vs ns->ns.length<=n->B.gens=#[] ->
  DK (AA l.prog w) EU (.call (.ref fa) ⟨[.ref a],[]⟩) (λr s'=>r=.ok (.ret (.bool true))/\OldK B.heap s'.heap/\s'.os=B.os/\Ex s'.gens) B) :
 WalkO q I XP YP l.row.toRowW d [] (λf vs=>HE f vs):=by intro w s₀ B mg mb G' Y fa o pm cd doc dV kV ho hd q1 hD q3 hg args q6 as q0 q5 q8 q4 q7;obtain rfl:dV=.none:=Dflts.none hD q2;obtain rfl:kV=.none:=Dflts.noKw hD;obtain⟨a,vs,ns,rfl,rfl,W,L,U⟩:=aDa hn q0 q4;refine enter_call (CV (call w s₀ B mg mb fa o pm cd doc a vs ns G' Y ho (fd_plain hd) q1 q3 W L U hg) λr s' hq=>?_);obtain⟨rfl,h2,h3,h4⟩:=hq;exact⟨.inl ⟨.bool true,.bool true,[],rfl,λ_=>rfl,.bool true,aDb l _,λ_=>⟨Gy,λ_ hm=>(nomatch hm)⟩⟩,h2,h3,h4⟩
end Att
namespace L2
open PySem PySem.Spec PyProof.Rows
theorem iE:∀{vs:List Ad} {ns:List Int},Cm vs ns->bJ (ns.map V.int) vs
 | _,_,.nil=>.nil|_,_,.cons n t h=>.cons ⟨t,rfl⟩ (iE h)
noncomputable def aHA(H:Hp):Prop:=∀b,H b=none\/∃o xs,H b=some (.frz o (.lst xs))
theorem aEK{P:A2}{w:AL}{K:Ap}{mg mb:Str->Option Ad}{CX:CXT}{k:Nat}{fa a:Addr}{fd:D2}{x:Str}{sp:Sp}{B:Ag}{vs:List Ad}{ns:List Int}
 (KX:K.In B.heap) (q2:B.heap.Ns Bo mg) (hb:B.heap.Ns FU mb) (q6:∀x:Str,x ≠ "__name__" -> mb x=BD x) (q1:B.heap.NoLimit) (hg:B.gens=#[])
 (ha:B.heap.get? a=some { cls:=.type "list",data:=.seq vs.toArray }) (hi:Cm vs ns) (hl:ns.length<=sizeLine) (hr:mI k EU)
 (F:∀base:Heap,K.In base->base.Ns Bo mg->pL P w K mg base CX k fa fd [x] sp) (W:∀(s:Ag) (u:Ad),ID s fd ⟨[u],[]⟩ [(x,u)])
 (q7:∀H:Hp,aHA H->SqL K H a (ns.map V.int)->sp [.ref a] H (λv _=>v=.bl true) λ_ _ _=>False)
 (q5:∀H e s',CX [] H B (λ_ _ _=>False) e s'->False) :
 DK (AA P w) EU (.call (.ref fa) ⟨[.ref a],[]⟩) (λr s'=>r=.ok (.ret (.bool true))/\OldK B.heap s'.heap/\s'.os=B.os/\Ex s'.gens) B:=by
 have rv:=iE hi;have q4:=hi.length;have U:∀H:Hp,aHA H->SqL K H a (ns.map V.int)->HOk P w H B.heap->(∀b,H b≠none->b=a)->(H a≠none->K.lookup a=none) ->
  DK (AA P w) EU (.call (.ref fa) ⟨[.ref a],[]⟩) (λr s'=>r=.ok (.ret (.bool true))/\OldK B.heap s'.heap/\s'.os=B.os/\Ex s'.gens) B:=by
  intro H hO hS hok hA hK;have I:∀{b:Addr} {o:Obj},B.heap.get? b=some o->H b=none->(vK B.heap H).get? b=some o:=λe n=>aEk e n;have q8:∀{b:Addr} {o:Obj} {es:Array Ef} {ep:Nat},B.heap.get? b=some o->o.data=.dict es ep->H b=none:=λ{b o es ep} e d=>by
   cases q:H b with
   | none=>rfl|some u=>have e':b=a:=hA b (by rw[q];simp);grind
  have L:∀{b:Addr} {m:Str->Option Ad},B.heap.Ns b m->(vK B.heap H).Ns b m:=λ{b m} ⟨o,es,ep,e,d,r⟩=>⟨o,es,ep,I e (q8 e d),d,r⟩
  have q0:K.In (vK B.heap H):=λb o e=>I (KX b o e) (by
   cases q:H b with
   | none=>rfl|some u=>
    have e':b=a:=hA b (by rw[q];simp);grind)
  have hM:Mod K mg (vK B.heap H):=⟨q0,L q2,⟨mb,L hb,q6⟩,let ⟨mc,h1,h2⟩:=q1;⟨mc,L h1,h2⟩⟩
  have e0:aHq P w K mg (vK B.heap H) EU [] B H:=⟨rfl,hM,λb o e=>aHe e,Nat.le_of_eq (aCP _ _),trivial,λb hb=>absurd (show b∈([]:List Addr) from hb) (by simp),hok,.of_eq hg⟩
  refine CV ((F _ q0 (L q2)).run EU [] B H ⟨[.ref a],[]⟩ [.ref a] [.ref a] _ _ hr e0 (W B (.ref a)) (.cons rfl .nil) (q7 H hO hS)) λr s' h=>?_;cases r with
  | error e=>exact(q5 H e s' h).elim|ok fl=>
   cases fl with
   | next=>exact Dp h|brk=>exact Dp h|cont=>exact Dp h|ret u=>
    obtain⟨v,H',os,bare,un,q3,r',q⟩:=h;have q':v=.bl true:=q;subst q';obtain rfl:u=Cs true:=r';refine⟨rfl,OldK.of_keep λb o e=>?_,os,bare⟩;cases q:H b with
    | none=>exact un.keep b o e q (by intro z;exact absurd (show b∈([]:List Addr) from z) (by simp)) (by simp)|some u=>
     rcases hO b with z|⟨ob,xs,z⟩
     rw[q] at z;cases z;have z2:=un.frzs b ob _ z;obtain⟨e1,_⟩:=hok b _ z;obtain⟨e2,_⟩:=q3 b _ z2;rw[e] at e1;grind
 cases hk:K.lookup a with
 | some o=>have e:=KX a o hk;rw[ha] at e;cases e;refine U (λ_=>none) (λ_=>.inl rfl) (.inr ⟨_,vs.toArray,_,hk,rfl,rfl,rfl,by rw[Aj,q4];exact hl,by grind⟩) (λb u z=>by have z':(none:Option HO)=some u:=z;cases z') (λb z=>absurd rfl z) λz=>absurd rfl z|none=>refine U (λb=>if b=a then some (.frz { cls:=.type "list",data:=.seq vs.toArray } (.lst (ns.map V.int))) else none) (λb=>?_) (.inl (.inr ⟨{ cls:=.type "list",data:=.seq vs.toArray },if_pos rfl⟩)) (λb u z=>?_) (λb z=>?_) λ_=>hk;grind;by_cases hb:b=a;have z':=(if_pos hb).symm.trans z;cases z';subst hb;exact⟨ha,by rw[Fc];exact hl,vs,_,rv,ha⟩;grind;grind
noncomputable def kK(s:Cg):FD:=match s with|.FunctionDef _ a _ _ _ _ _ _ _ _=>a|_=>{ posonlyargs:=[],args:=[],vararg:=none,kwonlyargs:=[],kw_defaults:=[],kwarg:=none,defaults:=[] }
noncomputable def kM(s:Cg):List Cg:=match s with|.FunctionDef _ _ b _ _ _ _ _ _ _=>b|_=>[]
noncomputable def cJ(s:Cg):Da:=match s with|.FunctionDef _ _ _ _ _ _ sc _ _ _=>sc|_=>{ kind:=.function,names:=[],isGenerator:=false,isCoroutine:=false }
abbrev CX0:CXT:=λ_ _ _ _ _ _=>False
abbrev E0:XK:=λ_ _ _=>False
theorem aJb{X:Cx}:vQ CX0 X E0:=λ_ _ _ _ _ _ _ h=>h.elim
structure Fun (K:Ap) (x qual:Str) (st:Cg) (f:Addr) (fd:D2):Prop where
 ex:∃(oc:Ad) (od:Option Addr) (kV doc pm:Ad) (an:Option Addr) (cdv ct:Ad) (osl:Array (Option Ad)),
  fd=EN x qual (kK st) (kM st) (cJ st) .none kV doc pm an cdv ct/\K.lookup f=some ⟨oc,od,.func fd,osl⟩/\Hz K cdv qual=true
 kp:CQ K (.ref f)=true
section
variable {P:A2} {w:AL} {K:Ap} {mg:Str->Option Ad} {base:Heap}
theorem Fun.ok{x qual:Str}{st:Cg}{f:Addr}{fd:D2}{N ps:List Str}{k:Nat}{sp:Sp}(F:Fun K x qual st f fd)(S:pU N ps (cJ st))(len:∀vs H Q E,sp vs H Q E->vs.length=ps.length)
 (B:∀(cdv:Ad) (A:Be) (outer:List IT) (s:Ag) (H:Hp) (vs:List V) (Q:VK) (E:XK),mI k (A.deeper (Fv qual (cJ st) s.heap.objs.size f cdv))->sp vs H Q E ->
  ∃t,PSs (aCW CX0 P w K mg base N qual (cJ st) f cdv A outer s H E).nox (kM st) t/\t { nx:=λ_ H'=>Q .non H',rt:=Q } (start N vs) H):pL P w K mg base CX0 (k+1) f fd ps sp:=by obtain⟨oc,od,kV,doc,pm,an,cdv,ct,osl,rfl,W,I⟩:=F.ex;refine aNi W I S len λA outer s H vs Q E U L=>?_;obtain⟨t,h,q⟩:=B cdv A outer s H vs Q E U L;exact⟨t,h.nox,q⟩
theorem Fun.binds{x qual:Str}{st:Cg}{f:Addr}{fd:D2}{ps:List Str}(F:Fun K x qual st f fd)
 (h:∀(kV doc pm:Ad) (an:Option Addr) (cdv ct:Ad) (us:List Ad),us.length=ps.length->Hv (EN x qual (kK st) (kM st) (cJ st) .none kV doc pm an cdv ct) ⟨us,[]⟩=pure (ps.zip us)):lX K fd ps []:=by obtain⟨oc,od,kV,doc,pm,an,cdv,ct,osl,rfl,B,q⟩:=F.ex;exact .all (h kV doc pm an cdv ct)
end
theorem aKq{A B:Prop}(h:B):if false=true then A else B:=by rw[if_neg Dl];exact h
theorem aNr{A B:Prop}(h:A):if true=true then A else B:=by rw[if_pos rfl];exact h
noncomputable def aX(H H':Hp):Prop:=∀b o,H b=some o->H' b=some o
theorem aX.refl(H:Hp):aX H H:=λ_ _ h=>h
theorem aX.trans{H H1 q:Hp}(a:aX H H1)(b:aX H1 q):aX H q:=λc o h=>b c o (a c o h)
theorem aX.free{H H':Hp}(e:aX H H'){l:Addr}(h:H' l=IZ):H l=IZ:=by
 cases q:H l with
 | none=>rfl|some o=>rw[e l o q] at h;cases h
theorem aX.seq{K:Ap}{H H':Hp}{a:Addr}{xs:List V}(e:aX H H')(h:SqL K H a xs):SqL K H' a xs:=by rcases h with(h|⟨o,h⟩)|h;exact .inl (.inl (e _ _ h));exact .inl (.inr ⟨o,e _ _ h⟩);exact .inr h
end L2
end
namespace L2
open PySem PySem.Spec PyProof.Rows
abbrev NK:=List Int
abbrev NE:=NK×Addr×V
abbrev pj(x:NE):NK×V:=(x.1,x.2.2)
noncomputable def mX(x:NE)(e:NK×Addr×Ad):Prop:=e.1=x.1/\e.2.1=x.2.1/\cC x.2.2 e.2.2
noncomputable def nkH(k:NK):Int:=reduceHash (HY (k.map Hk))
noncomputable def aQe(x:NK×Addr×Ad):Ef:=⟨nkH x.1,.ref x.2.1,x.2.2⟩
noncomputable def aKr(a:Addr)(xs:List NE)(h:Heap):Prop:=
 (a==En)=false/\xs.length<=sizeLine/\∃o es ep vs,h.get? a=some o/\o.ExactDict/\o.data=.dict es ep/\es.toList=vs.map aQe/\CP mX xs vs/\(xs.map (·.1)).Nodup
abbrev eY(a:Addr)(xs:List NE):HO:=.ext (aKr a xs)
noncomputable def eI(K:Ap)(H:Hp)(k:NK)(b:Addr):Prop:=SqT K H b (k.map V.int)
section
variable {X:Cx} {G:List (Addr×Obj)} {Z:St} {H:Hp} {s:Ag}
theorem aEL{is:List Int}:∀{us:List Ad},bJ (is.map V.int) us->ItemsAre (D6 X.prog X.w) is us:=by
 induction is with
 | nil=>intro us h;rw[mN] at h;cases h;exact .nil|cons i is q=>
  intro us h;rw[mC] at h;cases h with
  | cons r t=>obtain⟨tk,e⟩:∃t,_=BH i t:=r;subst e;exact .cons (Gb _ _ i tk) (q t)
theorem aHB(I:Inv X G Z H s){is:List Int}(h:SqT X.K H c (is.map V.int)):IsTupleKey (D6 X.prog X.w) s.heap is c:=by obtain⟨q,rv,⟨o,L,B,n,hd⟩,_⟩:=I.tuple h;exact⟨o,q.toArray,n,L,B,hd,by simpa using aEL rv⟩
theorem aAI(I:Inv X G Z H s)(h:eI X.K H k b):IsTupleKey (D6 X.prog X.w) s.heap k b:=aHB I h
theorem oG:∀{xs:List NE} {vs:List (NK×Addr×Ad)},CP mX xs vs->vs.map (·.1)=xs.map (·.1)
 | _,_,.nil=>rfl|_,_,.cons h t=>by rw[mC,mC,oG t,h.1]
theorem yJ:∀{xs:List NE} {vs:List (NK×Addr×Ad)},CP mX xs vs->∀v∈vs,∃x∈xs,mX x v
 | _,_,.nil,v,h=>by cases h|_,_,.cons h t,v,m=>by rcases A4.mp m with rfl|m;grind;obtain⟨x,q,r⟩:=yJ t v m;grind
noncomputable def atN(xs:List NE)(k:NK):Option V:=(xs.find? λx=>decide (x.1=k)).map (·.2.2)
theorem yK:∀{xs:List NE} {vs:List (NK×Addr×Ad)},CP mX xs vs->∀{v:V},atN xs k=some v->∃p,JF vs k=some p/\cC v p.2
 | _,_,.nil,v,h=>by cases h|x::xs,e::vs,.cons h t,v,hv=>by unfold atN at hv;unfold JF;rw[DS] at hv ⊢;by_cases q:x.1=k;rw[show decide (x.1=k)=true from Ak q] at hv;rw[show decide (e.1=k)=true from Ak (h.1.trans q)];cases hv;exact⟨e.2,rfl,h.2.2⟩;rw[show decide (x.1=k)=false from A3 q] at hv;rw[show decide (e.1=k)=false from A3 (by rw[h.1];exact q)];exact yK t hv
theorem aBL:∀{xs:List NE} {vs:List (NK×Addr×Ad)},CP mX xs vs->(JF vs k).isSome=decide (k∈xs.map (·.1))
 | _,_,.nil=>rfl|x::xs,e::vs,.cons h t=>by have B:=aBL (k:=k) t;unfold JF at B ⊢;rw[DS];by_cases q:x.1=k;rw[show decide (e.1=k)=true from Ak (h.1.trans q)];grind;rw[show decide (e.1=k)=false from A3 (by rw[h.1];exact q)];grind
theorem aBM(I:Inv X G Z H s){xs:List NE}(e:H a=some (eY a xs))(hk:∀x∈xs,eI X.K H x.1 x.2.1):(a==En)=false/\xs.length<=sizeLine/\∃vs,CP mX xs vs/\s.heap.DictOfH (I0 (D6 X.prog X.w)) a vs:=by
 obtain⟨⟨h1,h2,o,es,ep,vs,B,L,U,W,q,h8⟩,_⟩:=(show fS X.prog X.w H s.heap a (eY a xs) from I.hok a _ e)
 refine⟨h1,h2,vs,q,o,es,ep,B,L,U,W,λx hx=>?_,?_⟩;obtain⟨y,hy,r1,r2,_⟩:=yJ q x hx;rw[r1,r2];exact aAI I (hk y hy);rw[oG q];exact h8
noncomputable def pN(xs:List NE)(k:NK)(b:Addr)(v:V):List NE:=if k∈xs.map (·.1) then xs.map (λx=>if x.1=k then (x.1,x.2.1,v) else x) else xs++[(k,b,v)]
theorem yL(r:cC v u):∀{xs:List NE} {vs:List (NK×Addr×Ad)},CP mX xs vs->CP mX (xs.map λx=>if x.1=k then (x.1,x.2.1,v) else x) (vs.map (putAt k u))
 | _,_,.nil=>.nil|x::xs,e::vs,.cons h t=>by rw[mC,mC];refine .cons ?_ (yL r t);unfold putAt;by_cases q:x.1=k;rw[if_pos q,if_pos (h.1.trans q)];exact⟨h.1,h.2.1,r⟩;rw[if_neg q,if_neg (by rw[h.1];exact q)];exact h
theorem yM(r:mX x e):∀{xs:List NE} {vs:List (NK×Addr×Ad)},CP mX xs vs->CP mX (xs++[x]) (vs++[e])
 | _,_,.nil=>.cons r .nil|_,_,.cons h t=>.cons h (yM r t)
theorem yN(h:CP mX xs vs)(r:cC v u):CP mX (pN xs k b v) (storedH vs k b u):=by unfold storedH pN;rw[aBL h];by_cases q:k∈xs.map (·.1);rw[if_pos (Ak q),if_pos q];exact yL r h;rw[if_neg q,if_neg (by grind)];exact yM ⟨rfl,rfl,r⟩ h
theorem yO{xs:List NE}:(pN xs k b v).length<=xs.length+1:=by unfold pN;grind
theorem aBN:∀h1 h2:Heap,aKr a xs h1->(∀o,h1.get? a=some o->h2.get? a=some o)->aKr a xs h2:=by rintro h1 h2 ⟨L,U,o',B,q,vs,W,z4⟩ I;exact⟨L,U,o',B,q,vs,I _ W,z4⟩
theorem aKs(hu:X.A.units+100<Ej):aJU X (λo i v H Q=>∃a b xs k,o=.ref a/\i=.ref b/\H a=some (eY a xs)/\(∀x∈xs,eI X.K H x.1 x.2.1)/\eI X.K H k b/\xs.length<sizeLine/\Q (upd H a (eY a (pN xs k b v)))):=by
 intro G s Z H o i v ov iv u Q I ro ri rv h;obtain⟨a,b,xs,k,rfl,rfl,e,hk,kb,hl,q⟩:=h;cases ro;cases ri;obtain⟨h1,h2,vs,W,h3⟩:=aBM I e hk;have len:vs.length=xs.length:=(Ia W).symm;refine wpAny_setItem_heap (knd:=I0 (D6 X.prog X.w)) (hsz:=by rw[len];exact h2) (show X.A.in1.units<Ej by show X.A.units+1<Ej;omega) (aAI I kb) h3 λh' hm hs=>?_;obtain⟨U,es,ep,L,g2,g3,g4,_,g6⟩:=hm;have B:=yN (k:=k) (b:=b) W rv;have nd:((pN xs k b v).map (·.1)).Nodup:=by rw[<-oG B];exact g6
 have lp:(pN xs k b v).length<=sizeLine:=AM yO hl;refine⟨_,I.write (x:=a) (e:=a) (o:=eY a (pN xs k b v)) (by rw[e];exact Eo) (.inl rfl) (λc q hc z=>(hs.2 c hc).trans z) ⟨U,L⟩ ⟨⟨h1,lp,U,es,ep,_,L,g2,g3,g4,B,nd⟩,⟨U,L⟩,aBN⟩,q⟩
theorem aNs(hu:X.A.units+100<Ej):IxR X (λx y H Q=>∃a b xs k v,x=.ref a/\y=.ref b/\H a=some (eY a xs)/\(∀x∈xs,eI X.K H x.1 x.2.1)/\eI X.K H k b/\atN xs k=some v/\Q v H):=by intro value B G s Z H x y v u Q I rx ry h hs;obtain⟨a,b,xs,k,z,rfl,rfl,e,W,kb,U,q⟩:=h;cases rx;cases ry;obtain⟨h1,h2,vs,hp,L⟩:=aBM I e W;obtain⟨p,ep,rp⟩:=yK hp U;exact D5 (x:=p.2) L.typeIs slot_dict_getitem.lookup (wpAny_getItem_heap (knd:=I0 (D6 X.prog X.w)) (Q:=λr s'=>r=p.2/\EP X G Z Q r s') (show X.A.in1.units<Ej by show X.A.units+1<Ej;omega) (aAI I kb) L ep ⟨rfl,z,H,I.tok _,rp,q⟩) hs
theorem Inv.big(I:Inv X G Z H s):En<s.heap.objs.size:=by have h:Bo<s.heap.objs.size:=(I.ok.mod.glob.keeps I.bk).lt;exact Gz (by decide) h
noncomputable def aKt:TE:=λ_ H Q=>∀p,H p=none->Q (.ref p) (upd H p (eY p []))
theorem aEM:PE X (.Dict [] [] pos) aKt:=λG s Z H Q I h=>
 wpAny_Dict_empty ⟨.ref s.heap.objs.size,_,I.laid (a:=s.heap.objs.size) (o:=eY s.heap.objs.size []) (t':=s.toks) (λ_ _ q=>Ab _ q) (Ao _)
  ⟨⟨beq_eq_false_iff_ne.mpr (Dj (AB I.big)),B6 _,_,#[],0,[],An _ rfl,⟨rfl,rfl,rfl⟩,rfl,rfl,.nil,List.nodup_nil⟩,⟨_,An _ rfl⟩,aBN⟩,rfl,h _ (I.hok.fresh (Ao _))⟩
end
noncomputable def aHC(ks:List (NK×V))(k:NK×V):List (NK×V):=if k.1∈ks.map (·.1) then ks.map (λx=>if x.1=k.1 then (x.1,k.2) else x) else ks++[k]
theorem aEN(xs:List NE)(k:NK)(b:Addr)(v:V):(pN xs k b v).map pj=aHC (xs.map pj) (k,v):=by
 have e:(xs.map pj).map (·.1)=xs.map (·.1):=by rw[As];rfl
 unfold pN aHC;rw[e];split;rw[As,As];refine Bf λx _=>?_;grind;grind
end L2
namespace Hp
open PySem (Str Operator CmpOp)
inductive D where
 | non|bl (b:Bool)|int (i:Int)|str (x:Str)
 | tup (ds:List D)|lst (ds:List D)
 deriving Inhabited
mutual
noncomputable def noL:D->Bool
 | .tup ds=>noLs ds|.lst _=>false|_=>true
noncomputable def noLs:List D->Bool
 | []=>true|d::ds=>noL d&&noLs ds
end
noncomputable def lim:Nat:=1000000
noncomputable def b2i(b:Bool):Int:=if b then 1 else 0
noncomputable def eqL(f:D->D->Option Bool):List D->List D->Option Bool
 | [],[]=>some true|a::as,b::bs=>match f a b,eqL f as bs with|some x,some y=>some (x&&y)|_,_=>none
 | _,_=>some false
noncomputable def eqF:Nat->D->D->Option Bool
 | 0,_,_=>none|n+1,a,b=>match a,b with|.non,.non=>some true|.bl a,.bl b=>some (a==b)|.int a,.int b=>some (a==b)|.str a,.str b=>some (a==b)|.bl a,.int b=>some (b2i a==b)|.int a,.bl b=>some (a==b2i b)|.tup as,.tup bs=>eqL (eqF n) as bs|.lst as,.lst bs=>if as.length=bs.length then eqL (eqF n) as bs else some false|_,_=>some false
noncomputable def fY(n:Nat):List D->List D->Option Bool
 | [],[]=>some true|a::as,b::bs=>match eqF n a b,fY n as bs with|some x,some y=>some (x&&y)|_,_=>none
 | _,_=>some false
@[simp] theorem qV (n:Nat):∀q bs:List D,eqL (eqF n) q bs=fY n q bs
 | [],[]=>rfl|[],_::_=>rfl|_::_,[]=>rfl|a::q,b::bs=>by rw[eqL,fY,qV n q bs]
noncomputable def mY:Nat:=120
noncomputable def eqD(a b:D):Option Bool:=eqF mY a b
set_option genInjectivity true in
inductive R (α:Type) where
 | ok (a:α)|bad
 deriving Inhabited
noncomputable def R.bind{α β:Type}(x:R α)(f:α->R β):R β:=match x with|.ok a=>f a|.bad=>.bad
instance:Monad R where
 pure:=.ok
 bind:=.bind
noncomputable def R.of{α:Type}:Option α->R α
 | some a=>.ok a|none=>.bad
noncomputable def R.iff{α:Type}(c:Bool)(x:R α):R α:=if c then x else .bad
structure Vl where
 d:D
 fr:Bool:=false
 pa:Bool:=false
 al:List Nat:=[]
 deriving Inhabited
noncomputable def Vl.cl(d:D):Vl:=⟨d,false,false,[]⟩
noncomputable def Vl.sub(v:Vl)(d:D):Vl:=if noL d then .cl d else ⟨d,false,v.pa,v.al⟩
inductive Sl where
 | dead|sh (pa:Bool) (d:D)|own (pa:Bool) (ds:List D)|dct (ks:List (List Int×D))|own2 (dss:List (List D))
 deriving Inhabited
abbrev Sg:=List Sl
noncomputable def Sl.val(i:Nat):Sl->R Vl
 | .dead=>.bad|.sh pa d=>.ok ⟨d,false,pa&&!noL d,[]⟩|.own pa ds=>.ok ⟨.lst ds,false,pa,[i]⟩|.dct _=>.bad|.own2 _=>.bad
noncomputable def dI(Z:Sg)(i:Nat):R Vl:=match Z[i]? with|some s=>s.val i|none=>.bad
noncomputable def Sl.freeze:Sl->Sl
 | .own pa ds=>.sh pa (.lst ds)|s=>s
noncomputable def freeze(Z:Sg):List Nat->Sg
 | []=>Z|i::is=>freeze (match Z[i]? with|some s=>Z.set i s.freeze|none=>Z) is
noncomputable def Vl.slot(v:Vl):Sl:=match v.fr,v.d with|true,.lst ds=>.own v.pa ds|_,d=>.sh v.pa d
inductive Bi where
 | len|list|tuple|max|int|all|any
 deriving DecidableEq,Inhabited
inductive Cl where
 | tInt|tBool|tStr|tList|tTuple
 deriving DecidableEq,Inhabited
inductive T where
 | n (i:Nat)
 | t (ts:List Nat)
 deriving Inhabited
mutual
inductive E where
 | c (d:D)
 | v (i:Nat)
 | op (o:Operator) (a b:E)
 | neg (a:E)
 | nt (a:E)
 | an (a b:E)
 | orr (a b:E)
 | ife (t a b:E)
 | cmp (o:CmpOp) (a b:E)
 | cmp2 (o o':CmpOp) (a b c:E)
 | idx (a b:E)
 | sli (a:E) (lo hi:Es)
 | tup (es:Es)
 | lst (es:Es)
 | call (f:Nat) (es:Es)
 | bi (b:Bi) (es:Es)
 | isi (a:E) (cs:List Cl)
 | comp (k:Nat) (caps:List Nat) (t:T) (it:It) (cond:Es) (elt:E)
 | numset (a:E)   -- len(set(a))
 | tget (i:Nat) (a:E)   -- a dict of the module,.get(a)
 | dget (j:Nat) (a:E)   -- the value at a key in a dict of one's own
 | sset (a:E)   -- sorted(set(a)),numbers from 0 to 3
inductive Es where
 | nil|cons (e:E) (es:Es)
inductive It where
 | seq (e:E)|rng (a b:E)|zip (a b:E)|enum (a:E)|dwn (a:E)   -- range(a,-1,-1)
end
instance:Inhabited E:=⟨.c .non⟩
mutual
inductive S where
 | set (t:T) (e:E)
 | mov (i j:Nat)
 | setIx (i:Nat) (k e:E)
 | app (i:Nat) (e:E)
 | ext (i:Nat) (e:E)
 | ret (e:E)
 | retv (i:Nat)
 | retN
 | iff (c:E) (a b:Ss)
 | for (t:T) (it:It) (b:Ss)
 | whl (c:E) (b:Ss)
 | brk|cnt|pass
 | ex (e:E)
 | dnew (i:Nat)   -- {}
 | dpv (i:Nat) (k a:E)   -- i[k]=a
 | rse (c:Nat) (keep:Bool) (es:Es)
 | tryN (b:Ss)   -- try: b,which ends without an exception
 | appPop (i j:Nat) (e:E) (k:Nat)   -- i.append(j.pop(e)[k])
 | new2 (i:Nat)   -- i=[],a list of lists of one's own
 | app2 (i:Nat) (e:E)   -- i.append(e),e a new list
 | pop2 (i:Nat) (k:E)   -- i[k].pop(0)
 | pick (j t i:Nat) (c:E)   -- for t in i: if c: j.append(t[0])
inductive Ss where
 | nil|cons (s:S) (ss:Ss)
end
structure Fn where
 np:Nat
 ns:Nat
 body:Ss
structure Pg where
 fns:List Fn
 tabs:List (List (Str×D)):=[]
abbrev Rt:=D×Bool×Bool
abbrev Caller:=Nat->List D->R Rt
noncomputable def iF(i j:Int):Bool:=(decide (-(2 ^ 64)<i)&&decide (i<2 ^ 64))||(decide (-(2 ^ 64)<j)&&decide (j<2 ^ 64))
noncomputable def yP(j:Int):Bool:=decide (0<j)&&decide (j<1073741824)
noncomputable def aO(k:Int):Bool:=decide (-(2 ^ 62)<=k)&&decide (k<2 ^ 62)
noncomputable def Str.rep(x:Str)(k:Nat):Str:=⟨(Am k x.cps).foldl (·++·) #[]⟩
@[simp] noncomputable def aKu (x y:Vl):R Vl:=match x.d,y.d with|.int i,.int j=>.ok (.cl (.int (i+j)))|.tup a,.tup b=>.iff (decide (a.length+b.length<=lim)) (.ok ⟨.tup (a++b),false,x.pa||y.pa,x.al++y.al⟩)|.lst a,.lst b=>.iff (decide (a.length+b.length<=lim)) (.ok ⟨.lst (a++b),true,(x.pa&&!noLs a)||(y.pa&&!noLs b),(if noLs a then [] else x.al)++(if noLs b then [] else y.al)⟩)|_,_=>.bad
@[simp] noncomputable def aKv (x y:Vl):R Vl:=match x.d,y.d with|.int i,.int j=>.iff (iF i j) (.ok (.cl (.int (i*j))))|.lst a,.int k=>.iff (x.fr&&aO k&&decide (a.length*k.toNat<=lim)&&noLs a) (.ok ⟨.lst (Am k.toNat a).flatten,true,false,[]⟩)|_,_=>.bad
@[simp] noncomputable def aDc (f:Int->Int->R Vl) (x y:Vl):R Vl:=match x.d,y.d with|.int i,.int j=>f i j|_,_=>.bad
noncomputable def opD(o:Operator)(x y:Vl):R Vl:=match o with|.Add=>aKu x y|.Mult=>aKv x y|.Sub=>aDc (λi j=>.ok (.cl (.int (i-j)))) x y|.FloorDiv=>aDc (λi j=>.iff (yP j) (.ok (.cl (.int (i / j))))) x y|.Mod=>aDc (λi j=>.iff (decide (0<j)) (.ok (.cl (.int (i % j))))) x y|_=>.bad
noncomputable def aEO:D->Option Bool
 | .non=>some false|.bl b=>some b|.int i=>some (i != 0)|.str _=>none|.tup ds=>some (!ds.isEmpty)|.lst ds=>some (!ds.isEmpty)
noncomputable def jJ(x:Vl):R Bool:=.of (aEO x.d)
noncomputable def dN:List D->Option (List Int)
 | []=>some []|.int a::ds=>match dN ds with|some ns=>some (a::ns)|none=>none
 | _=>none
noncomputable def aDd:List Int->List Int->Bool
 | [],[]=>false|[],_::_=>true|_::_,[]=>false|x::xs,y::ys=>if x=y then aDd xs ys else decide (x<y)
noncomputable def aKw(as bs:List D):Option Bool:=match dN as,dN bs with|some ns,some ms=>some (aDd ns ms)|_,_=>none
noncomputable def ltD:D->D->Option Bool
 | .int a,.int b=>some (decide (a<b))|.tup as,.tup bs=>aKw as bs|_,_=>none
noncomputable def leD:D->D->Option Bool
 | .int a,.int b=>some (decide (a<=b))|_,_=>none
noncomputable def isNone:D->Bool
 | .non=>true|_=>false
noncomputable def aHD(Z:Sg):Bool:=Z.all fun|.own2 _=>false|_=>true
noncomputable def tR(x:D):List D->Option Bool
 | []=>some false|y::ys=>match eqD y x,tR x ys with|some a,some b=>some (a||b)|_,_=>none
noncomputable def inD(x y:D):Option Bool:=match x,y with|x,.lst ys=>tR x ys|.str a,.str b=>some (!(GV b a 0 b.length 1).isEmpty)|_,_=>none
noncomputable def cZ(o:CmpOp)(x y:D):Option Bool:=match o with
 | .Eq=>eqD x y|.NotEq=>(eqD x y).map (!·)|.Lt=>ltD x y|.Gt=>match x,y with|.int a,.int b=>some (decide (b<a))|_,_=>none
 | .LtE=>leD x y|.GtE=>none|.Is=>match y with|.non=>some (isNone x)|_=>none
 | .IsNot=>match y with|.non=>some (!isNone x)|_=>none
 | .In=>inD x y|.NotIn=>none
noncomputable def ixN(n:Nat)(k:Int):Option Nat:=
 if 0<=k then (if k<n then some k.toNat else none) else (if -(n:Int)<=k then some (k+n).toNat else none)
noncomputable def eK(x y:Vl):R Vl:=match x.d,y.d with
 | .lst ds,.int k=>match ixN ds.length k with
  | some j=>match ds[j]? with|some d=>.ok (x.sub d)|none=>.bad
  | none=>.bad
 | .tup ds,.int k=>match ixN ds.length k with
  | some j=>match ds[j]? with|some d=>.ok (x.sub d)|none=>.bad
  | none=>.bad
 | .str a,.int k=>.iff (decide (a.length<=lim)) (match ixN a.length k with
  | some j=>match a.cps.toList[j]? with|some c=>.ok (.cl (.str ⟨#[c]⟩))|none=>.bad
  | none=>.bad)
 | _,_=>.bad
noncomputable def sIx(n d:Nat):Option Int->Nat
 | none=>d|some v=>if v<0 then (v+(n:Int)).toNat else min v.toNat n
noncomputable def cut{α:Type}(xs:List α)(lo hi:Option Int):List α:=(xs.drop (sIx xs.length 0 lo)).take (sIx xs.length xs.length hi-sIx xs.length 0 lo)
noncomputable def eC(x:Vl)(lo hi:Option Int):R Vl:=match x.d with|.lst ds=>.ok ⟨.lst (cut ds lo hi),true,x.pa&&!noLs ds,if noLs ds then [] else x.al⟩|.tup ds=>.ok ⟨.tup (cut ds lo hi),false,x.pa&&!noLs ds,if noLs ds then [] else x.al⟩|_=>.bad
noncomputable def isI(cs:List Cl)(P:Pg):D->Option Bool
 | .non=>some false|.bl _=>some (cs.contains .tBool||cs.contains .tInt)|.int _=>some (cs.contains .tInt)|.str _=>some (cs.contains .tStr)|.tup _=>some (cs.contains .tTuple)|.lst _=>some (cs.contains .tList)
noncomputable def cS:List D->Option (List Bool)
 | []=>some []|.bl a::ds=>match cS ds with|some bs=>some (a::bs)|none=>none
 | _=>none
noncomputable def gO:List D->Option (List (Sum Int Str))
 | []=>some []|.int a::ds=>match gO ds with|some ks=>some (.inl a::ks)|none=>none
 | .str a::ds=>match gO ds with|some ks=>some (.inr a::ks)|none=>none
 | _=>none
noncomputable def qW(ks:List (Sum Int Str)):List (Sum Int Str):=ks.foldl (λZ v=>if Z.any (·==v) then Z else Z++[v]) []
@[simp] noncomputable def aAJ (b:Bi) (x:Vl):R Vl:=match b with
 | .len=>match x.d with|.lst ds=>.ok (.cl (.int ds.length))|.tup ds=>.ok (.cl (.int ds.length))|.str a=>.iff (decide (a.length<=lim)) (.ok (.cl (.int a.length)))|_=>.bad
 | .list=>match x.d with|.lst ds=>.ok ⟨.lst ds,true,x.pa&&!noLs ds,if noLs ds then [] else x.al⟩|.tup ds=>.ok ⟨.lst ds,true,x.pa&&!noLs ds,if noLs ds then [] else x.al⟩|_=>.bad
 | .tuple=>match x.d with|.lst ds=>.ok ⟨.tup ds,false,x.pa&&!noLs ds,if noLs ds then [] else x.al⟩|.tup ds=>.ok ⟨.tup ds,false,x.pa,x.al⟩|_=>.bad
 | .int=>match x.d with|.int i=>.ok (.cl (.int i))|.bl b=>.ok (.cl (.int (b2i b)))|_=>.bad
 | .all=>match x.d with
  | .lst ds=>match cS ds with|some bs=>.ok (.cl (.bl (bs.all id)))|none=>.bad
  | _=>.bad
 | .any=>match x.d with
  | .lst ds=>match cS ds with|some bs=>.ok (.cl (.bl (bs.any id)))|none=>.bad
  | _=>.bad
 | _=>.bad
@[simp] noncomputable def aNt (b:Bi) (x y:Vl):R Vl:=match b with
 | .max=>match x.d,y.d with|.int i,.int j=>.ok (.cl (.int (if j>i then j else i)))|_,_=>.bad
 | _=>.bad
noncomputable def biD(b:Bi)(xs:List Vl):R Vl:=match xs with|[x]=>aAJ b x|[x,y]=>aNt b x y|_=>.bad
noncomputable def bZ(vs:List Vl):List Nat:=vs.flatMap (·.al)
noncomputable def dX(vs:List Vl):Bool:=vs.any (·.pa)
noncomputable def aBO(vs:List Vl):Vl:=⟨.tup (vs.map (·.d)),false,dX vs,bZ vs⟩
noncomputable def uG(vs:List Vl):Vl:=⟨.lst (vs.map (·.d)),true,dX vs,bZ vs⟩
noncomputable def lO(args:List Vl)(r:Rt):Vl:=if r.2.2 then ⟨r.1,r.2.1,dX args,bZ args⟩ else ⟨r.1,r.2.1,false,[]⟩
noncomputable def qX:List D->Option (List Nat)
 | []=>some []|.int i::ds=>if 0<=i/\i<=3 then (match qX ds with|some r=>some (i.toNat::r)|none=>none) else none|_=>none
noncomputable def eW(ns:List Nat):List Nat:=(Ai 4).filter λk=>decide (k∈ns)
noncomputable def lY(a:Int):List D:=(Ai (a+1).toNat).map λ(k:Nat)=>.int (a-(k:Int))
noncomputable def hW(a b:Int):List D:=(Ai (b-a).toNat).map λ(k:Nat)=>.int (a+(k:Int))
noncomputable def iG:Int->List D->List D
 | _,[]=>[]
 | k,d::ds=>.tup [.int k,d]::iG (k+1) ds
noncomputable def fZ:List D->List D->List D
 | a::as,b::bs=>.tup [a,b]::fZ as bs|_,_=>[]
noncomputable def bT(Z:Sg)(v:Vl):T->R Sg
 | .n i=>.ok (Z.set i v.slot)|.t is=>match v.d with|.tup ds=>if ds.length=is.length then .ok ((is.zip ds).foldl (λZ p=>Z.set p.1 (v.sub p.2).slot) Z) else .bad|_=>.bad
noncomputable def fD(f:Vl->R (Option Vl)):List Vl->R (List Vl)
 | []=>.ok []|x::xs=>do
  let y<-f x
  let ys<-fD f xs
  match y with
  | some y=>.ok (y::ys)|none=>.ok ys
noncomputable def yQ:D->Option (List D)
 | .lst ds=>some ds|.tup ds=>some ds|_=>none
noncomputable def items(x:Vl)(ds:List D):List Vl:=ds.map x.sub
noncomputable def tS(ks:List (List Int×D))(k:List Int×D):List (List Int×D):=if k.1∈ks.map (·.1) then ks.map (λx=>if x.1=k.1 then (x.1,k.2) else x) else ks++[k]
noncomputable def aNu:D->Option (List Int)
 | .tup ds=>dN ds|_=>none
noncomputable def aAK:D->Option (List Int):=aNu
noncomputable def tU:D->Bool
 | .int _|.bl _=>true|_=>false
noncomputable def mB(ks:List (List Int×D))(k:List Int):Option D:=(ks.find? λx=>decide (x.1=k)).map (·.2)
noncomputable def fE(k:Nat)(caps al:List Nat)(vs:List Vl):Vl:=
 if noLs (vs.map (·.d)) then ⟨.lst (vs.map (·.d)),true,false,[]⟩
 else ⟨.lst (vs.map (·.d)),true,dX vs,al++(bZ vs).filterMap λj=>caps[j-k]?⟩
section
variable (P:Pg) (W:Caller)
mutual
noncomputable def ev(Z:Sg):E->R Vl
 | .c d=>.ok (.cl d)|.v i=>dI Z i|.op o a b=>do let x<-ev Z a;let y<-ev Z b;opD o x y
 | .neg a=>do
  let x<-ev Z a
  match x.d with
  | .int i=>.ok (.cl (.int (-i)))|_=>.bad
 | .nt a=>do let x<-ev Z a;let k<-jJ x;.ok (.cl (.bl (!k)))
 | .an a b=>do
  let x<-ev Z a
  match x.d with
  | .bl true=>ev Z b|.bl false=>.ok (.cl (.bl false))|_=>.bad
 | .orr a b=>do
  let x<-ev Z a
  match x.d with
  | .bl true=>.ok (.cl (.bl true))|.bl false=>ev Z b|_=>.bad
 | .ife t a b=>do
  let x<-tst Z t
  if x then ev Z a else ev Z b
 | .cmp o a b=>do
  let x<-ev Z a
  let y<-ev Z b
  match cZ o x.d y.d with
  | some k=>.ok (.cl (.bl k))|none=>.bad
 | .cmp2 o o' a b c=>do
  let x<-ev Z a
  let y<-ev Z b
  match cZ o x.d y.d with
  | some true=>do
   let z<-ev Z c
   match cZ o' y.d z.d with
   | some k=>.ok (.cl (.bl k))|none=>.bad
  | some false=>.ok (.cl (.bl false))|none=>.bad
 | .idx a b=>do let x<-ev Z a;let y<-ev Z b;eK x y
 | .sli a lo hi=>do
  let x<-ev Z a
  let l<-evs Z lo
  let h<-evs Z hi
  match l,h with
  | [],[]=>eC x none none|[l],[]=>match l.d with|.int l=>.iff (aO l) (eC x (some l) none)|_=>.bad
  | [],[h]=>match h.d with|.int h=>.iff (aO h) (eC x none (some h))|_=>.bad
  | [l],[h]=>match l.d,h.d with|.int l,.int h=>.iff (aO l&&aO h) (eC x (some l) (some h))|_,_=>.bad
  | _,_=>.bad
 | .tup es=>do let vs<-evs Z es;.ok (aBO vs)
 | .lst es=>do let vs<-evs Z es;.ok (uG vs)
 | .call f es=>do
  let vs<-evs Z es
  let r<-W f (vs.map (·.d))
  .ok (lO vs r)
 | .bi b es=>do let vs<-evs Z es;biD b vs
 | .isi a cs=>do
  let x<-ev Z a
  match isI cs P x.d with
  | some k=>.ok (.cl (.bl k))|none=>.bad
 | .comp k caps t it cond elt=>do
  let xs<-walk Z it
  let vs<-fD (λx=>do
   let Z1<-bT (Am k .dead++caps.map λi=>((freeze Z xs.2)[i]?).getD .dead) x t
   let k<-tsts Z1 cond
   if k then do let y<-ev Z1 elt;.ok (some y) else .ok none) xs.1
  .iff (decide (vs.length<=lim)) (.ok (fE k caps xs.2 vs))
 | .numset a=>do
  let x<-ev Z a
  match x.d with
  | .lst ds=>match gO ds with|some ks=>.iff (decide (ds.length<=1000)) (.ok (.cl (.int (qW ks).length)))|none=>.bad
  | _=>.bad
 | .tget i a=>do
  let x<-ev Z a
  match x.d,P.tabs[i]? with
  | .str k,some t=>.ok (.cl ((t.lookup k).getD .non))|_,_=>.bad
 | .dget j a=>do
  let x<-ev Z a
  match Z[j]?,aAK x.d with
  | some (.dct ks),some k=>(match mB ks k with
   | some d=>.iff (tU d) (.ok (.cl d))|none=>.bad)
  | _,_=>.bad
 | .sset a=>do
  let x<-ev Z a
  match x.d with
  | .lst ds=>match qX ds with|some ns=>.ok ⟨.lst ((eW ns).map λ(k:Nat)=>.int (k:Int)),true,false,[]⟩|none=>.bad
  | _=>.bad
noncomputable def tst(Z:Sg):E->R Bool
 | .nt a=>do let x<-tst Z a;.ok (!x)
 | .an a b=>do
  let x<-tst Z a
  if x then tst Z b else .ok false
 | .orr a b=>do
  let x<-tst Z a
  if x then .ok true else tst Z b
 | .c d=>jJ (.cl d)|.v i=>do let x<-dI Z i;jJ x
 | .cmp o a b=>do
  let x<-ev Z a
  let y<-ev Z b
  match cZ o x.d y.d with
  | some k=>.ok k|none=>.bad
 | .cmp2 o o' a b c=>do
  let x<-ev Z a
  let y<-ev Z b
  match cZ o x.d y.d with
  | some true=>do
   let z<-ev Z c
   match cZ o' y.d z.d with
   | some k=>.ok k|none=>.bad
  | some false=>.ok false|none=>.bad
 | .call f es=>do
  let vs<-evs Z es
  let r<-W f (vs.map (·.d))
  jJ (lO vs r)
 | .bi b es=>do let vs<-evs Z es;let x<-biD b vs;jJ x
 | .idx a b=>do let x<-ev Z a;let y<-ev Z b;let z<-eK x y;jJ z
 | .isi a cs=>do
  let x<-ev Z a
  match isI cs P x.d with
  | some k=>.ok k|none=>.bad
 | _=>.bad
noncomputable def evs(Z:Sg):Es->R (List Vl)
 | .nil=>.ok []|.cons e es=>do let x<-ev Z e;let xs<-evs Z es;.ok (x::xs)
noncomputable def walk(Z:Sg):It->R (List Vl×List Nat)
 | .seq e=>do
  let x<-ev Z e
  match x.d with
  | .lst ds=>.ok (items x ds,x.al)|.tup ds=>.ok (items x ds,x.al)|.str a=>.iff (decide (a.length<=lim)) (.ok (a.cps.toList.map λn=>.cl (.str ⟨#[n]⟩),[]))|_=>.bad
 | .dwn a=>do
  let x<-ev Z a
  match x.d with
  | .int i=>.iff (aO i) (.ok ((lY i).map .cl,[]))|_=>.bad
 | .rng a b=>do
  let x<-ev Z a
  let y<-ev Z b
  match x.d,y.d with
  | .int i,.int j=>.iff (aO i&&aO j) (.ok ((hW i j).map .cl,[]))|_,_=>.bad
 | .zip a b=>do
  let x<-ev Z a
  let y<-ev Z b
  match yQ x.d,yQ y.d with
  | some as,some bs=>.ok (items ⟨.non,false,x.pa||y.pa,x.al++y.al⟩ (fZ as bs),x.al++y.al)|_,_=>.bad
 | .enum a=>do
  let x<-ev Z a
  match yQ x.d with
  | some as=>.ok (items x (iG 0 as),x.al)|none=>.bad
noncomputable def tsts(Z:Sg):Es->R Bool
 | .nil=>.ok true|.cons e es=>do
  let x<-tst Z e
  if x then tsts Z es else .ok false
end
set_option genInjectivity true in
inductive O where
 | next (Z:Sg)|brk (Z:Sg)|cnt (Z:Sg)|ret (v:Vl)|bad
 deriving Inhabited
noncomputable def O.from{α:Type}(Z:Sg)(x:R α)(f:α->O):O:=match x with|.ok a=>f a|.bad=>.bad
noncomputable def O.on(o:O)(f:Sg->O):O:=match o with|.next Z=>f Z|o=>o
noncomputable def cK(f:Sg->Vl->O):List Vl->Sg->O
 | [],Z=>.next Z|x::xs,Z=>match f Z x with|.next Z'=>cK f xs Z'|.cnt Z'=>cK f xs Z'|.brk Z'=>.next Z'|o=>o
noncomputable def jK(t:Sg->R Bool)(f:Sg->O):Nat->Sg->O
 | 0,_=>.bad|n+1,Z=>O.from Z (t Z) λk=>if k then (match f Z with
     | .next Z'=>jK t f n Z'|.cnt Z'=>jK t f n Z'|.brk Z'=>.next Z'|o=>o) else .next Z
noncomputable def aBP:Nat:=1000000
noncomputable def iH(Z:Sg)(i:Nat):Option (Bool×List D):=match Z[i]? with|some (.own pa ds)=>some (pa,ds)|_=>none
noncomputable def put(Z:Sg)(i:Nat)(v:Vl)(f:List D->Option (List D)):O:=match iH (freeze Z v.al) i with
 | some (pa,ds)=>match f ds with|some ds'=>if ds'.length<=lim then .next ((freeze Z v.al).set i (.own (pa||v.pa) ds')) else .bad|none=>.bad
 | none=>.bad
noncomputable def aEP(Z:Sg)(i:Nat)(v:Vl):O:=put Z i v λds=>some (ds++[v.d])
noncomputable def qY(v:Vl):Option (Vl×List D):=match v.fr,v.d with|true,.lst ds=>some (⟨.non,false,v.pa&&!noLs ds,if noLs ds then [] else v.al⟩,ds)|_,_=>none
noncomputable def mZ(Z:Sg)(i:Nat)(k:Option Int):R (Vl×Sg):=match iH Z i with
 | some (pa,ds)=>match (match k with|none=>ixN ds.length (-1)|some k=>ixN ds.length k) with
  | some j=>match ds[j]? with|some d=>.ok (Vl.sub ⟨.non,false,pa,[]⟩ d,Z.set i (.own pa (ds.eraseIdx j)))|none=>.bad
  | none=>.bad
 | none=>.bad
noncomputable def aBQ(v:Vl)(k:Nat):R Vl:=match v.d with
 | .tup ds=>match ds[k]? with|some d=>.ok (v.sub d)|none=>.bad
 | _=>.bad
noncomputable def vw(Z:Sg)(j t i:Nat)(ds:List D):Sg:=(((Z.set i .dead).set j .dead).set t .dead).set t (.sh false (.lst ds))
noncomputable def eX(f:List D->R Bool):List (List D)->R (List D)
 | []=>.ok []|ds::r=>do
  let b<-f ds
  match b,ds with
  | false,_=>eX f r|true,[]=>.bad|true,d::_=>do let es<-eX f r;.ok (d::es)
noncomputable def yR(e:Option (R Vl)):R (Option Int):=match e with
 | none=>.ok none|some x=>do
  let v<-x
  match v.d with
  | .int k=>.iff (aO k) (.ok (some k))|_=>.bad
mutual
noncomputable def ex(Z:Sg):S->O
 | .set t e=>O.from Z (ev P W Z e) λv=>O.from Z (bT (freeze Z v.al) v t) .next|.mov i j=>match Z[j]? with|some (.own pa ds)=>if i=j then .bad else .next ((Z.set j .dead).set i (.own pa ds))|some (.sh pa d)=>.next (Z.set i (.sh (pa&&!noL d) d))|_=>.bad
 | .setIx i k e=>O.from Z (ev P W Z e) λv=>O.from Z (ev P W Z k) λkv=>match kv.d with
  | .int k=>put Z i v λds=>match ixN ds.length k with|some j=>some (ds.set j v.d)|none=>none
  | _=>.bad
 | .app i e=>O.from Z (ev P W Z e) λv=>aEP Z i v|.ext i e=>O.from Z (ev P W Z e) λv=>match qY v with|some (v',ds')=>put Z i v' λds=>some (ds++ds')|none=>.bad
 | .ret e=>O.from Z (ev P W Z e) .ret|.retv i=>match Z[i]? with|some (.own pa ds)=>.ret ⟨.lst ds,true,pa,[]⟩|some (.own2 dss)=>.ret ⟨.lst (dss.map .lst),true,false,[]⟩|_=>O.from Z (dI Z i) .ret
 | .retN=>.ret (.cl .non)|.iff c a b=>O.from Z (tst P W Z c) λk=>if k then exs Z a else exs Z b|.for t it b=>O.from Z (walk P W Z it) λxs=>cK (λZ x=>O.from Z (bT Z x t) λZ'=>exs Z' b) xs.1 (freeze Z xs.2)|.whl c b=>jK (λZ=>tst P W Z c) (λZ=>exs Z b) aBP Z|.brk=>.brk Z|.cnt=>.cnt Z|.pass=>.next Z|.ex e=>O.from Z (ev P W Z e) λ_=>.next Z|.dnew i=>.next (Z.set i (.dct []))|.dpv i e a=>O.from Z (ev P W Z a) λw=>O.from Z (ev P W Z e) λv=>match Z[i]?,aAK v.d with|some (.dct ks),some k=>if ks.length<lim/\tU w.d=true then .next (Z.set i (.dct (tS ks (k,w.d)))) else .bad|_,_=>.bad
 | .rse _ _ _=>.bad|.tryN b=>exs Z b|.appPop i j e k=>O.from Z (yR (some (ev P W Z e))) λm=>O.from Z (mZ Z j m) λ(v,Z')=>O.from Z' (aBQ v k) λw=>aEP Z' i w|.new2 i=>if aHD Z then .next (Z.set i (.own2 [])) else .bad|.app2 i e=>O.from Z (ev P W Z e) λv=>match Z[i]?,v.fr,v.d with|some (.own2 dss),true,.lst ds=>if noLs ds=true/\dss.length<1000 then .next (Z.set i (.own2 (dss++[ds]))) else .bad|_,_,_=>.bad
 | .pop2 i k=>O.from Z (ev P W Z k) λkv=>match Z[i]?,kv.d with
  | some (.own2 dss),.int k=>(match ixN dss.length k with
   | some q=>(match dss.getD q [] with
    | _::ds=>.next (Z.set i (.own2 (dss.set q ds)))|[]=>.bad)
   | none=>.bad)
  | _,_=>.bad
 | .pick j t i c=>match Z[i]?,iH Z j with|some (.own2 dss),some (pa,es)=>O.from Z (eX (λds=>tst P W (vw Z j t i ds) c) dss) λfs=>if t≠i/\t≠j/\t<Z.length/\es.length+fs.length<=lim then .next ((Z.set t .dead).set j (.own pa (es++fs))) else .bad|_,_=>.bad
noncomputable def exs(Z:Sg):Ss->O
 | .nil=>.next Z|.cons s ss=>(ex Z s).on λZ'=>exs Z' ss
end
noncomputable def vX(f:Nat)(ds:List D):R Rt:=match P.fns[f]? with
 | none=>.bad|some F=>if ds.length=F.np then
  match exs P W ((ds.map λd=>Sl.sh true d)++Am (F.ns-F.np) Sl.dead) F.body with
  | .ret v=>.ok (v.d,v.fr,v.pa)|.next _=>.ok (.non,false,false)|_=>.bad
  else .bad
end
noncomputable def call(P:Pg):Nat->Caller
 | 0=>λ_ _=>.bad|n+1=>vX P (call P n)
end Hp
namespace Hp
open PySem
structure Ct where
 N:List Str
 sc:List (Str×BZ)
 fns:List Str
 cns:List (Str×D)
 fn:Bool
 tbs:List Str
noncomputable def aEQ(Γ:Ct)(x:Str):Bool:=match Γ.sc.lookup x with|some .local=>true|some .cell=>true|some .free=>true|_=>false
noncomputable def yS(Γ:Ct)(x:Str):Bool:=match Γ.sc.lookup x with|some .local=>true|some .cell=>Γ.fn|_=>false
noncomputable def uH(sc names:List (Str×BZ)):List (Str×BZ):=names.map λ(n,k)=>if (k==.free&&sc.lookup n==some .cell) then (n,.cell) else (n,k)
noncomputable def qZ:A7->Bool
 | .Tuple _ _ _=>true|_=>false
noncomputable def tIx:T->List Nat
 | .n i=>[i]
 | .t is=>is
noncomputable def dY(Γ:Ct)(x:Str):Bool:=match Γ.sc.lookup x with|some .globalImplicit=>true|_=>false
noncomputable def eL(x:Str):Bool:=!(x==("__debug__" : Str))&&!(x==("__classdict__" : Str))
noncomputable def dB(Γ:Ct)(i:Nat)(x:Str):Bool:=(Γ.N[i]?==some x)&&aEQ Γ x&&eL x
noncomputable def cD(Γ:Ct)(i:Nat)(x:Str):Bool:=(Γ.N[i]?==some x)&&yS Γ x&&eL x
noncomputable def eqC:D->Const->Bool
 | .non,.none=>true|.bl a,.bool b=>a==b|.int a,.int b=>a==b|.str a,.str b=>a==b|_,_=>false
noncomputable def eqK:D->D->Bool
 | .non,.non=>true|.bl a,.bl b=>a==b|.int a,.int b=>a==b|.str a,.str b=>a==b|_,_=>false
noncomputable def mJ:Bi->Str
 | .len => "len" | .list => "list" | .tuple => "tuple" | .max => "max" | .int => "int" | .all => "all" | .any => "any"
noncomputable def clName:Cl->String
 | .tInt => "int" | .tBool => "bool" | .tStr => "str" | .tList => "list" | .tTuple => "tuple"
noncomputable def aJc(Γ:Ct)(c:Cl):A7->Bool
 | .Name x _=>((clName c:Str)==x)&&dY Γ x&&eL x|_=>false
noncomputable def tV(Γ:Ct):T->A7->Bool
 | .n i,.Name x _=>cD Γ i x|.t is,.Tuple es _ _=>is.length==es.length&&(is.zip es).all λp=>match p.2 with|.Name x _=>cD Γ p.1 x|_=>false
 | _,_=>false
noncomputable def hX:A7->List Str
 | .Name x _=>[x]
 | .Tuple es _ _=>es.filterMap fun|.Name x _=>some x|_=>none
 | _=>[]
noncomputable def aAL:E->Bool
 | .c (.int i)=>i==0|_=>false
noncomputable def asC(e:A7):Option { c:Const // ∃k p,e=.Constant c k p }:=match e with|.Constant c k p=>some ⟨c,k,p,rfl⟩|_=>none
noncomputable def asN(e:A7):Option { x:Str // ∃p,e=.Name x p }:=match e with|.Name x p=>some ⟨x,p,rfl⟩|_=>none
noncomputable def aNv(e:A7):Option { r:A7×Operator×A7 // ∃p,e=.BinOp r.1 r.2.1 r.2.2 p }:=match e with|.BinOp l o r p=>some ⟨(l,o,r),p,rfl⟩|_=>none
noncomputable def aKx(e:A7):Option { r:UnaryOp×A7 // ∃p,e=.UnaryOp r.1 r.2 p }:=match e with|.UnaryOp o x p=>some ⟨(o,x),p,rfl⟩|_=>none
noncomputable def aNw(e:A7):Option { r:BoolOp×List A7×Dy // e=.BoolOp r.1 r.2.1 r.2.2 }:=match e with|.BoolOp o xs p=>some ⟨(o,xs,p),rfl⟩|_=>none
noncomputable def aQf(e:A7):Option { r:A7×A7×A7 // ∃p,e=.IfExp r.1 r.2.1 r.2.2 p }:=match e with|.IfExp t a b p=>some ⟨(t,a,b),p,rfl⟩|_=>none
noncomputable def aJd(e:A7):Option { r:A7×List CmpOp×List A7 // ∃p,e=.Compare r.1 r.2.1 r.2.2 p }:=match e with|.Compare l os rs p=>some ⟨(l,os,rs),p,rfl⟩|_=>none
noncomputable def rA(e:A7):Option { r:A7×A7 // ∃p,e=.Subscript r.1 r.2 p }:=match e with|.Subscript x i p=>some ⟨(x,i),p,rfl⟩|_=>none
noncomputable def aQg(e:A7):Option { r:Option A7×Option A7 // ∃p,e=.Slice r.1 r.2 none p }:=match e with|.Slice l h none p=>some ⟨(l,h),p,rfl⟩|_=>none
noncomputable def aNx(e:A7):Option { r:List A7 // ∃k p,e=.Tuple r k p }:=match e with|.Tuple xs k p=>some ⟨xs,k,p,rfl⟩|_=>none
noncomputable def aJe(e:A7):Option { r:List A7 // ∃p,e=.List r p }:=match e with|.List xs p=>some ⟨xs,p,rfl⟩|_=>none
noncomputable def mK(e:A7):Option { r:Str×List A7 // ∃p1 p2,e=.Call (.Name r.1 p1) r.2 [] p2 }:=match e with|.Call (.Name x p1) xs [] p2=>some ⟨(x,xs),p1,p2,rfl⟩|_=>none
noncomputable def aNy(e:A7):Option { r:A7×Str×List A7×Bool // ∃ap cp,e=.Call (.Attribute r.1 r.2.1 ap) r.2.2.1 [] cp/\(ap.endLine==cp.line)=r.2.2.2 }:=match e with|.Call (.Attribute x a ap) xs [] cp=>some ⟨(x,a,xs,ap.endLine==cp.line),ap,cp,rfl,rfl⟩|_=>none
noncomputable def aQh(e:A7):Option { r:A7×List Comprehension×Da // ∃p,e=.ListComp r.1 r.2.1 r.2.2 p }:=match e with|.ListComp e gs s p=>some ⟨(e,gs,s),p,rfl⟩|_=>none
noncomputable def oB{α:Type}(o:Option α)(f:α->Bool):Bool:=match o with|some a=>f a|none=>false
noncomputable def oS{α:Type}{q:α->Prop}(o:Option { a:α // q a })(f:α->Bool):Bool:=match o with|some a=>f a.1|none=>false
noncomputable def aAM(e:A7):Bool:=oS (aKx e) λp=>p.1==.USub&&oS (asC p.2) (eqC (.int 1))
mutual
noncomputable def bC(Γ:Ct):E->A7->Bool
 | .c d,e=>oS (asC e) (eqC d)||oS (asN e) λx=>dY Γ x&&eL x&&oB (Γ.cns.lookup x) (eqK d)|.v i,e=>oS (asN e) (dB Γ i)|.op o a b,e=>oS (aNv e) λp=>o==p.2.1&&bC Γ a p.1&&bC Γ b p.2.2|.neg a,e=>oS (aKx e) λp=>p.1==.USub&&bC Γ a p.2|.nt a,e=>oS (aKx e) λp=>p.1==.Not&&bC Γ a p.2|.an a b,e=>oS (aNw e) λp=>p.1==.And&&(match p.2.1 with
  | [x,y]=>bC Γ a x&&bC Γ b y|x::y::z::r=>bC Γ a x&&bC Γ b (.BoolOp .And (y::z::r) p.2.2)|_=>false)
 | .orr a b,e=>oS (aNw e) λp=>p.1==.Or&&(match p.2.1 with
  | [x,y]=>bC Γ a x&&bC Γ b y|x::y::z::r=>bC Γ a x&&bC Γ b (.BoolOp .Or (y::z::r) p.2.2)|_=>false)
 | .ife t a b,e=>oS (aQf e) λp=>bC Γ t p.1&&bC Γ a p.2.1&&bC Γ b p.2.2|.cmp o a b,e=>oS (aJd e) λp=>(match p.2.1,p.2.2 with
  | [o'],[r]=>o==o'&&bC Γ a p.1&&bC Γ b r|_,_=>false)
 | .cmp2 o1 o2 a b c,e=>oS (aJd e) λp=>(match p.2.1,p.2.2 with
  | [o1',o2'],[m,r]=>o1==o1'&&o2==o2'&&bC Γ a p.1&&bC Γ b m&&bC Γ c r|_,_=>false)
 | .dget j a,e=>oS (rA e) λp=>oS (asN p.1) λx=>dB Γ j x&&bC Γ a p.2|.sset a,e=>oS (mK e) λp=>(match p.2 with
  | [s]=>oS (mK s) λq=>(p.1==("sorted" : Str))&&dY Γ p.1&&(q.1==("set" : Str))&&dY Γ q.1&&(match q.2 with|[x]=>bC Γ a x|_=>false)|_=>false)
 | .idx a b,e=>oS (rA e) λp=>bC Γ a p.1&&bC Γ b p.2|.sli a lo hi,e=>oS (rA e) λp=>oS (aQg p.2) λq=>bC Γ a p.1&&chkO Γ lo q.1&&chkO Γ hi q.2|.tup es,e=>oS (aNx e) λxs=>decide (xs.length<=1000)&&chkEs Γ es xs|.lst es,e=>oS (aJe e) λxs=>decide (xs.length<=1000)&&chkEs Γ es xs|.call f es,e=>oS (mK e) λp=>(Γ.fns[f]?==some p.1)&&dY Γ p.1&&eL p.1&&chkEs Γ es p.2|.bi b es,e=>oS (mK e) λp=>(mJ b==p.1)&&dY Γ p.1&&eL p.1&&!p.2.isEmpty&&chkEs Γ es p.2|.numset a,e=>oS (mK e) λp=>(match p.2 with
  | [s]=>oS (mK s) λq=>(p.1==("len" : Str))&&dY Γ p.1&&(q.1==("set" : Str))&&dY Γ q.1&&(match q.2 with|[x]=>bC Γ a x|_=>false)|_=>false)
 | .tget i a,e=>oS (aNy e) λp=>oS (asN p.1) λx=>(p.2.1==("get" : Str))&&(Γ.tbs[i]?==some x)&&dY Γ x&&eL x&&p.2.2.2&&(match p.2.2.1 with|[y]=>bC Γ a y|_=>false)|.isi a cs,e=>oS (mK e) λp=>(match cs,p.2 with
  | [c],[x,y]=>(p.1==("isinstance" : Str))&&dY Γ p.1&&bC Γ a x&&aJc Γ c y|_,_=>false)
 | .comp k caps t it cond elt,e=>oS (aQh e) λp=>(match p.2.1 with
  | [⟨tg,iter,ifs,as⟩]=>
   as==0&&(hX tg).length==k&&(caps.all λi=>decide (i<Γ.N.length))&&decide caps.Nodup&&p.2.2.kind==.function&&decide (hX tg++caps.filterMap λi=>Γ.N[i]?).Nodup &&
   ((caps.filterMap λi=>Γ.N[i]?).all λx=>p.2.2.names.lookup x==some .free&&Γ.sc.lookup x==some .cell) &&
   (p.2.2.names.all λq=>q.2 != .cell&&(q.2 != .local||p.2.2.names.lookup q.1==some .local)&&(q.2 != .free||Γ.sc.lookup q.1==some .cell)) &&
   ((tIx t).all λi=>decide (i<k))&&decide (ifs.length<=1) &&
   tV { Γ with N:=hX tg++caps.filterMap λi=>Γ.N[i]?,sc:=uH Γ.sc p.2.2.names,fn:=false } t tg&&chkI Γ (qZ tg) it iter &&
   chkEs { Γ with N:=hX tg++caps.filterMap λi=>Γ.N[i]?,sc:=uH Γ.sc p.2.2.names,fn:=false } cond ifs &&
   bC { Γ with N:=hX tg++caps.filterMap λi=>Γ.N[i]?,sc:=uH Γ.sc p.2.2.names,fn:=false } elt p.1
  | _=>false)
noncomputable def chkEs(Γ:Ct):Es->List A7->Bool
 | .nil,[]=>true|.cons e es,x::xs=>bC Γ e x&&chkEs Γ es xs|_,_=>false
noncomputable def chkO(Γ:Ct):Es->Option A7->Bool
 | .nil,none=>true|.cons e .nil,some x=>bC Γ e x|_,_=>false
noncomputable def chkI(Γ:Ct)(tt:Bool):It->A7->Bool
 | .rng a b,e=>oS (mK e) λp=>(p.1==("range" : Str))&&dY Γ p.1&&(match p.2 with
  | [x]=>aAL a&&bC Γ b x|[x,y]=>bC Γ a x&&bC Γ b y|_=>false)
 | .zip a b,e=>oS (mK e) λp=>(match p.2 with
  | [x,y]=>tt&&(p.1==("zip" : Str))&&dY Γ p.1&&bC Γ a x&&bC Γ b y|_=>false)
 | .seq c,x=>bC Γ c x|.enum a,e=>oS (mK e) λp=>(match p.2 with
  | [x]=>tt&&(p.1==("enumerate" : Str))&&dY Γ p.1&&bC Γ a x|_=>false)
 | .dwn a,e=>oS (mK e) λp=>(p.1==("range" : Str))&&dY Γ p.1&&(match p.2 with
  | [x,y,z]=>bC Γ a x&&aAM y&&aAM z|_=>false)
end
noncomputable def rB:A7->Bool
 | .ListComp _ _ _ _=>true|.SetComp _ _ _ _=>true|.DictComp _ _ _ _ _=>true|_=>false
noncomputable def vY:A7->Bool
 | .Tuple _ _ _=>true|.List _ _=>true|_=>false
noncomputable def aKy:A7->Bool
 | .Name _ _=>true|_=>false
noncomputable def jL(Γ:Ct)(i:Nat)(m:Str):A7->Option (List A7)
 | .Call (.Attribute (.Name x _) a ap) xs [] cp=>if (a==m)&&dB Γ i x&&(ap.endLine==cp.line) then some xs else none|_=>none
noncomputable def aQi(e:A7):Option { r:Unit // ∃p,e=.Dict [] [] p }:=match e with|.Dict [] [] p=>some ⟨(),p,rfl⟩|_=>none
noncomputable def aDe(s:Cg):Option { r:A7×A7 // ∃p,s=.Assign [r.1] r.2 p }:=match s with|.Assign [t] v p=>some ⟨(t,v),p,rfl⟩|_=>none
noncomputable def sEx(s:Cg):Option { r:A7 // ∃p,s=.Expr r p }:=match s with|.Expr v p=>some ⟨v,p,rfl⟩|_=>none
noncomputable def aKz(s:Cg):Option { r:Option A7 // ∃p,s=.Return r p }:=match s with|.Return v p=>some ⟨v,p,rfl⟩|_=>none
noncomputable def sIf(s:Cg):Option { r:A7×List Cg×List Cg // ∃p,s=.If r.1 r.2.1 r.2.2 p }:=match s with|.If t x y p=>some ⟨(t,x,y),p,rfl⟩|_=>none
noncomputable def aNz(s:Cg):Option { r:A7×A7×List Cg // ∃p,s=.For r.1 r.2.1 r.2.2 [] p }:=match s with|.For t i b [] p=>some ⟨(t,i,b),p,rfl⟩|_=>none
noncomputable def aQj(s:Cg):Option { r:A7×List Cg // ∃p,s=.While r.1 r.2 [] p }:=match s with|.While t b [] p=>some ⟨(t,b),p,rfl⟩|_=>none
noncomputable def aQk(s:Cg):Option { r:Unit // ∃p,s=.Break p }:=match s with|.Break p=>some ⟨(),p,rfl⟩|_=>none
noncomputable def aQl(s:Cg):Option { r:Unit // ∃p,s=.Continue p }:=match s with|.Continue p=>some ⟨(),p,rfl⟩|_=>none
noncomputable def aNA(s:Cg):Option { r:Unit // ∃p,s=.Pass p }:=match s with|.Pass p=>some ⟨(),p,rfl⟩|_=>none
noncomputable def aNB(s:Cg):Option { r:List Cg // ∃h hs p,s=.Try r (h::hs) [] [] p }:=match s with|.Try b (h::hs) [] [] p=>some ⟨b,h,hs,p,rfl⟩|_=>none
mutual
noncomputable def gA(Γ:Ct):S->Cg->Bool
 | .set t e,s=>oS (aDe s) λr=>tV Γ t r.1&&bC Γ e r.2&&(aKy r.1||!vY r.2)|.mov i j,s=>oS (aDe s) λr=>oS (asN r.1) λx=>oS (asN r.2) λy=>cD Γ i x&&dB Γ j y|.dnew i,s=>oS (aDe s) λr=>oS (asN r.1) λx=>cD Γ i x&&oS (aQi r.2) λ_=>true|.dpv i k e,s=>oS (aDe s) λr=>oS (rA r.1) λu=>oS (asN u.1) λx=>dB Γ i x&&bC Γ k u.2&&bC Γ e r.2&&!vY r.2|.setIx i k e,s=>oS (aDe s) λr=>oS (rA r.1) λu=>oS (asN u.1) λx=>dB Γ i x&&bC Γ k u.2&&bC Γ e r.2|.app i e,s=>oS (sEx s) λc=>(match jL Γ i "append" c with|some [a]=>bC Γ e a|_=>false)
 | .ext i e,s=>oS (sEx s) λc=>(match jL Γ i "extend" c with|some [a]=>bC Γ e a|_=>false)
 | .ret e,s=>oS (aKz s) λr=>oB r (bC Γ e)|.retv i,s=>oS (aKz s) λr=>oB r λv=>oS (asN v) (dB Γ i)|.retN,s=>oS (aKz s) λr=>r.isNone|.iff c a b,s=>oS (sIf s) λr=>bC Γ c r.1&&chkSs Γ a r.2.1&&chkSs Γ b r.2.2|.for t it b,s=>oS (aNz s) λr=>tV Γ t r.1&&chkI Γ (qZ r.1) it r.2.1&&chkSs Γ b r.2.2|.whl c b,s=>oS (aQj s) λr=>bC Γ c r.1&&chkSs Γ b r.2|.brk,s=>oS (aQk s) λ_=>true|.cnt,s=>oS (aQl s) λ_=>true|.pass,s=>oS (aNA s) λ_=>true|.ex e,s=>oS (sEx s) λv=>bC Γ e v&&!rB v|.rse _ _ _,_=>true|.tryN b,s=>oS (aNB s) λr=>chkSs Γ b r|.appPop i j e k,s=>oS (sEx s) λc=>(match jL Γ i "append" c with|some [a]=>oS (rA a) (λu=>oS (asC u.2) (eqC (.int k))&&(match jL Γ j "pop" u.1 with|some [b]=>bC Γ e b&&(i != j)|_=>false))|_=>false)
 | .new2 i,s=>oS (aDe s) λr=>oS (asN r.1) λx=>cD Γ i x&&oS (aJe r.2) λl=>l.isEmpty|.app2 i e,s=>oS (sEx s) λc=>(match jL Γ i "append" c with|some [a]=>bC Γ e a|_=>false)
 | .pop2 i k,s=>oS (sEx s) λc=>oS (aNy c) λp=>(p.2.1==("pop" : Str))&&p.2.2.2&&(match p.2.2.1 with|[a]=>oS (asC a) (eqC (.int 0))|_=>false)&&oS (rA p.1) λu=>oS (asN u.1) (dB Γ i)&&bC Γ k u.2|.pick j t i c,s=>oS (aNz s) λq=>oS (asN q.1) λz=>cD Γ t z&&(oS (asN q.2.1) λx=>dB Γ i x)&&(match q.2.2 with
  | [b]=>oS (sIf b) λr=>bC Γ c r.1&&r.2.2.isEmpty&&(match r.2.1 with
   | [b']=>oS (sEx b') λe=>(match jL Γ j "append" e with|some [a]=>bC Γ (.idx (.v t) (.c (.int 0))) a|_=>false)
   | _=>false)
  | _=>false)
noncomputable def chkSs(Γ:Ct):Ss->List Cg->Bool
 | .nil,[]=>true|.cons s ss,x::xs=>gA Γ s x&&chkSs Γ ss xs|_,_=>false
end
end Hp
namespace Hp
open PySem L2
abbrev Fg:=Ap
mutual
noncomputable def Rep(K:Fg)(H:Hp)(ex:Addr->Prop):D->V->Prop
 | .non,v=>v=.non|.bl b,v=>v=.bl b|.int i,v=>v=.int i|.str x,v=>v=.str x|.tup ds,v=>∃a xs,v=.ref a/\SqT K H a xs/\Reps K H ex ds xs|.lst ds,v=>∃a xs,v=.ref a/\SqL K H a xs/\¬ ex a/\Reps K H ex ds xs
noncomputable def Reps(K:Fg)(H:Hp)(ex:Addr->Prop):List D->List V->Prop
 | [],xs=>xs=[]
 | d::ds,xs=>∃x r,xs=x::r/\Rep K H ex d x/\Reps K H ex ds r
end
section
variable {K:Fg} {H H':Hp} {ex ex':Addr->Prop}
theorem aX.seqT(e:aX H H')(h:SqT K H a xs):SqT K H' a xs:=by rcases h with(h|⟨o,h⟩)|h;exact .inl (.inl (e _ _ h));exact .inl (.inr ⟨o,e _ _ h⟩);exact .inr h
mutual
theorem Rep.imp(I:∀a xs,SqT K H a xs->SqT K H' a xs)(B:∀a xs,¬ ex a->SqL K H a xs->¬ ex' a/\SqL K H' a xs) :
 ∀(d:D) (v:V),Rep K H ex d v->Rep K H' ex' d v
 | .non,_,h=>h|.bl _,_,h=>h|.int _,_,h=>h|.str _,_,h=>h|.tup ds,_,h=>by obtain⟨a,xs,e,q,r⟩:=h;exact⟨a,xs,e,I a xs q,Reps.imp I B ds xs r⟩|.lst ds,_,h=>by obtain⟨a,xs,e,q,n,r⟩:=h;obtain⟨L,U⟩:=B a xs n q;exact⟨a,xs,e,U,L,Reps.imp I B ds xs r⟩
theorem Reps.imp(B:∀a xs,SqT K H a xs->SqT K H' a xs)(q:∀a xs,¬ ex a->SqL K H a xs->¬ ex' a/\SqL K H' a xs) :
 ∀(ds:List D) (xs:List V),Reps K H ex ds xs->Reps K H' ex' ds xs
 | [],_,h=>h|d::ds,_,h=>by obtain⟨x,r,e,h1,h2⟩:=h;exact⟨x,r,e,Rep.imp B q d x h1,Reps.imp B q ds r h2⟩
end
theorem Rep.weak(h:Rep K H ex d v)(e:∀a,ex' a->ex a):Rep K H ex' d v:=Rep.imp (λ_ _ q=>q) (λa _ n q=>⟨λz=>n (e a z),q⟩) d v h
theorem Reps.weak(h:Reps K H ex d v)(e:∀a,ex' a->ex a):Reps K H ex' d v:=Reps.imp (λ_ _ q=>q) (λa _ n q=>⟨λz=>n (e a z),q⟩) d v h
theorem Rep.grow(h:Rep K H ex d v)(s:aX H H'):Rep K H' ex d v:=Rep.imp (λ_ _ q=>aX.seqT s q) (λ_ _ n q=>⟨n,s.seq q⟩) d v h
theorem Reps.grow(h:Reps K H ex d v)(s:aX H H'):Reps K H' ex d v:=Reps.imp (λ_ _ q=>aX.seqT s q) (λ_ _ n q=>⟨n,s.seq q⟩) d v h
theorem Rep.keep(h:Rep K H ex d v)(s:∀a o,H a=some o->(∀xs,o=.lst xs->¬ ex a)->(∀φ,o≠.ext φ)->H' a=some o):Rep K H' ex d v:=by refine Rep.imp (λa xs q=>?_) (λa xs n q=>⟨n,?_⟩) d v h;rcases q with(q|⟨o,q⟩)|q;exact .inl (.inl (s _ _ q (λxs e=>by cases e) (λ_ z=>by cases z)));exact .inl (.inr ⟨o,s _ _ q (λxs e=>by cases e) (λ_ z=>by cases z)⟩);exact .inr q;rcases q with(q|⟨o,q⟩)|q;exact .inl (.inl (s _ _ q (λ_ _=>n) (λ_ z=>by cases z)));exact .inl (.inr ⟨o,s _ _ q (λxs e=>by cases e) (λ_ z=>by cases z)⟩);exact .inr q
theorem Reps.keep(h:Reps K H ex d v)(s:∀a o,H a=some o->(∀xs,o=.lst xs->¬ ex a)->(∀φ,o≠.ext φ)->H' a=some o):Reps K H' ex d v:=by refine Reps.imp (λa xs q=>?_) (λa xs n q=>⟨n,?_⟩) d v h;rcases q with(q|⟨o,q⟩)|q;exact .inl (.inl (s _ _ q (λxs e=>by cases e) (λ_ z=>by cases z)));exact .inl (.inr ⟨o,s _ _ q (λxs e=>by cases e) (λ_ z=>by cases z)⟩);exact .inr q;rcases q with(q|⟨o,q⟩)|q;exact .inl (.inl (s _ _ q (λ_ _=>n) (λ_ z=>by cases z)));exact .inl (.inr ⟨o,s _ _ q (λxs e=>by cases e) (λ_ z=>by cases z)⟩);exact .inr q
mutual
theorem Rep.free:∀(d:D) (v:V),noL d=true->Rep K H ex d v->Rep K H ex' d v
 | .non,_,_,h=>h|.bl _,_,_,h=>h|.int _,_,_,h=>h|.str _,_,_,h=>h|.tup ds,_,n,h=>by obtain⟨a,xs,e,q,r⟩:=h;exact⟨a,xs,e,q,Reps.free ds xs (by simpa[noL] using n) r⟩|.lst ds,_,n,_=>by simp[noL] at n
theorem Reps.free:∀(ds:List D) (xs:List V),noLs ds=true->Reps K H ex ds xs->Reps K H ex' ds xs
 | [],_,_,h=>h|d::ds,_,n,h=>by obtain⟨x,r,e,h1,h2⟩:=h;simp only[noLs,bA] at n;exact⟨x,r,e,Rep.free d x n.1 h1,Reps.free ds r n.2 h2⟩
end
theorem Reps.length:∀{ds:List D} {xs:List V},Reps K H ex ds xs->ds.length=xs.length
 | [],_,h=>by rw[show _=[] from h];rfl|d::ds,_,h=>by obtain⟨x,r,e,_,h2⟩:=h;subst e;rw[lC,lC,Reps.length h2]
theorem Reps.get:∀{ds:List D} {xs:List V} {j:Nat} {d:D},Reps K H ex ds xs->ds[j]? = some d->∃x,xs[j]? = some x/\Rep K H ex d x
 | [],_,_,_,_,e=>by simp at e|d::ds,_,0,_,h,e=>by obtain⟨x,r,B,h1,_⟩:=h;grind|d::ds,_,j+1,d',h,e=>by obtain⟨x,r,B,_,h2⟩:=h;subst B;obtain⟨y,I,q⟩:=Reps.get (j:=j) (d:=d') h2 (by simpa using e);grind
theorem Reps.get'{ds:List D}{xs:List V}{j:Nat}{x:V}(h:Reps K H ex ds xs)(e:xs[j]? = some x):∃d,ds[j]? = some d/\Rep K H ex d x:=by
 have L:=h.length;have I:j<xs.length:=(Au.mp e).1;obtain⟨d,hd⟩:∃d,ds[j]? = some d:=⟨ds[j],Ac (by omega)⟩
 obtain⟨y,B,q⟩:=h.get hd;rw[e] at B;grind
theorem Reps.nil:Reps K H ex [] []:=rfl
theorem Reps.cons(h:Rep K H ex d x)(t:Reps K H ex ds xs):Reps K H ex (d::ds) (x::xs):=⟨x,xs,rfl,h,t⟩
theorem Reps.append:∀{ds es:List D} {xs q:List V},Reps K H ex ds xs->Reps K H ex es q->Reps K H ex (ds++es) (xs++q)
 | [],_,_,_,h,t=>by rw[show _=[] from h];exact t|d::ds,_,_,_,h,t=>by obtain⟨x,r,e,h1,h2⟩:=h;subst e;exact⟨x,_,rfl,h1,Reps.append h2 t⟩
theorem Reps.take:∀{ds:List D} {xs:List V} (n:Nat),Reps K H ex ds xs->Reps K H ex (ds.take n) (xs.take n)
 | _,_,0,_=>by simp[Reps]|[],_,n+1,h=>by rw[show _=[] from h];simp[Reps]|d::ds,_,n+1,h=>by obtain⟨x,r,e,h1,h2⟩:=h;subst e;exact⟨x,_,rfl,h1,Reps.take n h2⟩
theorem Reps.drop:∀{ds:List D} {xs:List V} (n:Nat),Reps K H ex ds xs->Reps K H ex (ds.drop n) (xs.drop n)
 | _,_,0,h=>h|[],_,n+1,h=>by rw[show _=[] from h];simp[Reps]|d::ds,_,n+1,h=>by obtain⟨x,r,e,h1,h2⟩:=h;subst e;exact Reps.drop n h2
theorem Reps.set:∀{ds:List D} {xs:List V} {d:D} {x:V} (j:Nat),Reps K H ex ds xs->Rep K H ex d x->Reps K H ex (ds.set j d) (xs.set j x)
 | [],_,_,_,_,h,_=>by rw[show _=[] from h];simp[Reps]|d::ds,_,_,_,0,h,q=>by obtain⟨x,r,e,h1,h2⟩:=h;subst e;exact⟨_,_,rfl,q,h2⟩|d::ds,_,_,_,j+1,h,q=>by obtain⟨x,r,e,h1,h2⟩:=h;subst e;exact⟨x,_,rfl,h1,Reps.set j h2 q⟩
theorem Reps.eraseIdx:∀{ds:List D} {xs:List V} (j:Nat),Reps K H ex ds xs->Reps K H ex (ds.eraseIdx j) (xs.eraseIdx j)
 | [],_,_,h=>by rw[show _=[] from h];simp[Reps]|d::ds,_,0,h=>by obtain⟨x,r,e,h1,h2⟩:=h;subst e;exact h2|d::ds,_,j+1,h=>by obtain⟨x,r,e,h1,h2⟩:=h;subst e;exact⟨x,_,rfl,h1,Reps.eraseIdx j h2⟩
theorem Reps.flat:∀{ds:List D} {xs:List V},Reps K H ex ds xs->∀k:Nat,Reps K H ex (Am k ds).flatten (Am k xs).flatten
 | _,_,_,0=>by simp[Reps]|ds,xs,h,k+1=>by rw[B2,B2,BV,BV];exact h.append (Reps.flat h k)
end
end Hp
namespace Hp
open PySem PySem.Spec PyProof.Rows L2
theorem aPz(a b:Str):(a++b).length=a.length+b.length:=by show(a.cps++b.cps).size=_;rw[Array.size_append];rfl
noncomputable def Kp(R:Addr->Prop)(H H':Hp):Prop:=∀a o,H a=some o->¬ R a->H' a=some o
noncomputable def RE{α:Type}:R α->(α->Prop)->Prop
 | .ok a,p=>p a|_,_=>False
theorem RE.mono{α:Type}{x:R α}{p q:α->Prop}(h:RE x p)(f:∀a,p a->q a):RE x q:=by
 cases x with
 | ok a=>exact f a h|bad=>exact h
theorem RE.bind{α q:Type}{x:R α}{f:α->R q}{p:q->Prop}:RE (x >>= f) p=RE x λa=>RE (f a) p:=by cases x <;> rfl
theorem RE.iff{α:Type}{c:Bool}{x:R α}{p:α->Prop}(h:RE (R.iff c x) p):c=true/\RE x p:=by
 cases c with
 | true=>exact⟨rfl,h⟩|false=>exact h.elim
section
variable (K:Fg) (RT Y J:Addr->Prop)
noncomputable def exB(pa:Bool)(a:Addr):Prop:=Y a\/(pa=false/\J a)
noncomputable def Tk(H:Hp):Prop:=∀b,H b≠none->K.lookup b=none
noncomputable def dV:D->V
 | .int i=>.int i|.bl b=>.bl b|_=>.non
abbrev kV(x:NK×D):NK×V:=(x.1,dV x.2)
noncomputable def Rws(H:Hp):List (List D)->List Addr->Prop
 | [],bs=>bs=[]
 | ds::dss,bs=>∃b r xs,bs=b::r/\H b=some (.lst xs)/\noLs ds=true/\Reps K H (λ_=>False) ds xs/\Rws H dss r
noncomputable def Pt(Z:Sg)(ZV:L2.St)(p:Addr):Prop:=RT p/\¬ J p/\∀(k:Nat) (pa:Bool) (ds:List D),Z[k]? = some (.own pa ds)->ZV[k]?≠some (some (.ref p))
structure Dx (Z:Sg) (ZV:L2.St) (H:Hp):Prop where
 at':∀(i:Nat) (ks:List (NK×D)),Z[i]? = some (.dct ks)->∃a xs,ZV[i]? = some (some (.ref a))/\H a=some (eY a xs)/\RT a/\¬ J a/\xs.map pj=ks.map kV/\∀x∈xs,eI K H x.1 x.2.1
 inj:∀(i j:Nat) (ks ks':List (NK×D)) (a:Addr),Z[i]? = some (.dct ks)->Z[j]? = some (.dct ks')->ZV[i]? = some (some (.ref a))->ZV[j]? = some (some (.ref a))->i=j
 at2:∀(i:Nat) (dss:List (List D)),Z[i]? = some (.own2 dss)->∃a bs,ZV[i]? = some (some (.ref a))/\H a=some (.lst (bs.map V.ref))/\(∀b∈a::bs,Pt RT J Z ZV b)/\(a::bs).Nodup/\Rws K H dss bs
 one:∀(i j:Nat) (dss dss':List (List D)),Z[i]? = some (.own2 dss)->Z[j]? = some (.own2 dss')->i=j
noncomputable def RtO(H:Hp)(a:Addr):Prop:=(∃xs,H a=some (.lst xs))\/∃xs,H a=some (eY a xs)
structure Sx (Z:Sg) (ZV:L2.St) (H:Hp):Prop where
 sh:∀(i:Nat) (pa:Bool) (d:D),Z[i]? = some (.sh pa d)->∃v,ZV[i]? = some (some v)/\Rep K H (λa=>RT a\/exB Y J pa a) d v
 own:∀(i:Nat) (pa:Bool) (ds:List D),Z[i]? = some (.own pa ds)->∃a xs,ZV[i]? = some (some (.ref a))/\H a=some (.lst xs)/\RT a/\¬ J a/\Reps K H (λa=>RT a\/exB Y J pa a) ds xs
 trk:∀a,RT a\/Y a\/J a->H a≠none
 yo:∀a,Y a->J a
 tk:Tk K H
 rt:∀a,RT a->RtO H a
 inj:∀(i j:Nat) (pa pa':Bool) (ds ds':List D) (a:Addr),Z[i]? = some (.own pa ds)->Z[j]? = some (.own pa' ds')->ZV[i]? = some (some (.ref a))->ZV[j]? = some (some (.ref a))->i=j
 len:Z.length=ZV.length
 dx:Dx K RT J Z ZV H
noncomputable def alR(Z:Sg)(ZV:L2.St)(al:List Nat)(a:Addr):Prop:=∃j∈al,(∃pa ds,Z[j]? = some (.own pa ds))/\ZV[j]? = some (some (.ref a))
noncomputable def exV(Z:Sg)(ZV:L2.St)(pa:Bool)(al:List Nat)(a:Addr):Prop:=(RT a/\¬ alR Z ZV al a)\/exB Y J pa a
noncomputable def Rv(Z:Sg)(ZV:L2.St)(H:Hp)(v:Vl)(u:V):Prop:=Rep K H (exV RT Y J Z ZV v.pa v.al) v.d u
noncomputable def Ro(Z:Sg)(ZV:L2.St)(H H':Hp)(v:Vl)(u:V):Prop:=
 aX H H'/\(if v.fr=true then ∃a xs ds,u=.ref a/\v.d=.lst ds/\H a=none/\H' a=some (.lst xs)/\Reps K H' (λb=>b=a\/exV RT Y J Z ZV v.pa v.al b) ds xs
  else Rv K RT Y J Z ZV H' v u)
noncomputable def Rvs(Z:Sg)(ZV:L2.St)(H:Hp):List Vl->List V->Prop
 | [],us=>us=[]
 | v::vs,us=>∃u r,us=u::r/\Rv K RT Y J Z ZV H v u/\Rvs Z ZV H vs r
end
section
variable {K:Fg} {RT Y J:Addr->Prop} {Z:Sg} {ZV:L2.St} {H H' H1 H2:Hp} {v:Vl} {u:V}
theorem eI.imp(q:∀b ks,SqT K H b ks->SqT K H' b ks)(h:eI K H k b):eI K H' k b:=q _ _ h
mutual
theorem Rep.noT{ex:Addr->Prop}(B:∀b ks,SqT K H b ks->SqT K H' b ks):∀(d:D) (v:V),noL d=true->Rep K H ex d v->Rep K H' ex d v
 | .non,_,_,h=>h|.bl _,_,_,h=>h|.int _,_,_,h=>h|.str _,_,_,h=>h|.tup ds,_,n,h=>by obtain⟨a,xs,e,q,r⟩:=h;exact⟨a,xs,e,B _ _ q,Reps.noT B ds xs (by simpa[noL] using n) r⟩|.lst ds,_,n,_=>by simp[noL] at n
theorem Reps.noT{ex:Addr->Prop}(q:∀b ks,SqT K H b ks->SqT K H' b ks):∀(ds:List D) (xs:List V),noLs ds=true->Reps K H ex ds xs->Reps K H' ex ds xs
 | [],_,_,h=>h|d::ds,_,n,h=>by obtain⟨x,r,e,h1,h2⟩:=h;simp only[noLs,bA] at n;exact⟨x,r,e,Rep.noT q d x n.1 h1,Reps.noT q ds r n.2 h2⟩
end
theorem Rws.imp(q:∀b ks,SqT K H b ks->SqT K H' b ks):∀{dss:List (List D)} {bs:List Addr},Rws K H dss bs->(∀b∈bs,∀xs,H b=some (.lst xs)->H' b=some (.lst xs))->Rws K H' dss bs
 | [],_,h,_=>h|ds::dss,_,h,f=>by obtain⟨b,r,xs,rfl,h1,h2,B,I⟩:=h;exact⟨b,r,xs,rfl,f b Ar xs h1,h2,Reps.noT q ds xs h2 B,Rws.imp q I λc L=>f c (Al _ L)⟩
theorem Rws.at:∀{dss:List (List D)} {bs:List Addr},Rws K H dss bs->∀b∈bs,∃xs,H b=some (.lst xs)
 | [],_,h,b,hb=>by rw[show _=[] from h] at hb;cases hb|ds::dss,_,h,b,hb=>by obtain⟨c,r,xs,rfl,h1,h2,B,q⟩:=h;rcases A4.mp hb with z|z;grind;exact Rws.at q b z
theorem Dx.imp{B:Addr->Prop}{Z':Sg}{q:L2.St}(L:Dx K RT J Z ZV H)(m:Nat->Nat)(hs:∀j ks,Z'[j]? = some (.dct ks)->Z[m j]? = some (.dct ks)/\q[j]? = ZV[m j]?)(hm:∀i j ks ks',Z'[i]? = some (.dct ks)->Z'[j]? = some (.dct ks')->m i=m j->i=j)
 (hh:∀a xs,H a=some (eY a xs)->RT a->¬ J a->H' a=some (eY a xs)/\B a) (hr:∀b ks,SqT K H b ks->SqT K H' b ks)
 (U:∀j dss,Z'[j]? = some (.own2 dss)->Z[m j]? = some (.own2 dss)/\q[j]? = ZV[m j]?) (q3:∀i j dss dss',Z'[i]? = some (.own2 dss)->Z'[j]? = some (.own2 dss')->m i=m j->i=j)
 (I:∀p xs,H p=some (.lst xs)->Pt RT J Z ZV p->H' p=some (.lst xs)/\Pt B J Z' q p):Dx K B J Z' q H' where
 at':=λi ks e=>by obtain⟨W,e2⟩:=hs i ks e;obtain⟨a,xs,h1,h2,h3,h4,h5,h6⟩:=L.at' (m i) ks W;obtain⟨g1,g2⟩:=hh a xs h2 h3 h4;exact⟨a,xs,by rw[e2];exact h1,g1,g2,h4,h5,λx hx=>eI.imp hr (h6 x hx)⟩
 inj:=λi j ks ks' a q1 q2 v1 v2=>by obtain⟨W,e2⟩:=hs i ks q1;obtain⟨e3,e4⟩:=hs j ks' q2;exact hm i j ks ks' q1 q2 (L.inj (m i) (m j) ks ks' a W e3 (by rw[<-e2];exact v1) (by rw[<-e4];exact v2))
 at2:=λi dss e=>by obtain⟨W,e2⟩:=U i dss e;obtain⟨a,bs,h1,ha,hp,hn,hw⟩:=L.at2 (m i) dss W;obtain⟨q0,_⟩:=I a _ ha (hp a Ar);refine⟨a,bs,by rw[e2];exact h1,q0,λb hb=>?_,hn,hw.imp hr λb hb xs e=>(I b xs e (hp b (Al _ hb))).1⟩;rcases A4.mp hb with z|z;rw[z];grind;obtain⟨xs,e⟩:=hw.at b z;exact(I b xs e (hp b hb)).2
 one:=λi j dss dss' q1 q2=>q3 i j dss dss' q1 q2 (L.one _ _ _ _ (U i dss q1).1 (U j dss' q2).1)
theorem RtO.grow(h:RtO H a)(s:aX H H'):RtO H' a:=h.imp (λ⟨xs,e⟩=>⟨xs,s _ _ e⟩) λ⟨xs,e⟩=>⟨xs,s _ _ e⟩
theorem Sx.grow(S:Sx K RT Y J Z ZV H)(s:aX H H')(t:Tk K H'):Sx K RT Y J Z ZV H' where
 sh:=λi pa d e=>let ⟨v,h1,h2⟩:=S.sh i pa d e;⟨v,h1,h2.grow s⟩
 own:=λi pa ds e=>let ⟨a,xs,h1,h2,h3,h4,h5⟩:=S.own i pa ds e;⟨a,xs,h1,s _ _ h2,h3,h4,h5.grow s⟩
 trk:=λa h z=>S.trk a h (s.free z)
 yo:=S.yo
 tk:=t
 rt:=λa h=>(S.rt a h).grow s
 inj:=S.inj
 len:=S.len
 dx:=S.dx.imp id (λ_ _ e=>⟨e,rfl⟩) (λ_ _ _ _ _ _ e=>e) (λa xs e z _=>⟨s _ _ e,z⟩) (λ_ _ r=>aX.seqT s r) (λ_ _ e=>⟨e,rfl⟩) (λ_ _ _ _ _ _ e=>e) λp xs e z=>⟨s _ _ e,z⟩
theorem exV.trk(S:Sx K RT Y J Z ZV H)(h:exV RT Y J Z ZV pa al a):H a≠none:=by
 rcases h with⟨h,_⟩|h|⟨_,h⟩
 exact S.trk a (.inl h);exact S.trk a (.inr (.inl h));exact S.trk a (.inr (.inr h))
theorem Ro.rv(S:Sx K RT Y J Z ZV H)(h:Ro K RT Y J Z ZV H H' v u):Rv K RT Y J Z ZV H' v u:=by obtain⟨s,h⟩:=h;by_cases q:v.fr=true;rw[if_pos q] at h;obtain⟨a,xs,ds,B,I,L,U,r⟩:=h;unfold Rv;rw[I];exact⟨a,xs,B,SqL.of U,λz=>exV.trk S z L,r.weak λb z=>.inr z⟩;rw[if_neg q] at h;exact h
theorem Rv.grow(h:Rv K RT Y J Z ZV H v u)(s:aX H H'):Rv K RT Y J Z ZV H' v u:=Rep.grow h s
theorem Rvs.grow:∀{vs:List Vl} {us:List V},Rvs K RT Y J Z ZV H vs us->aX H H'->Rvs K RT Y J Z ZV H' vs us
 | [],_,h,_=>h|v::vs,_,h,s=>by obtain⟨u,r,e,h1,h2⟩:=h;exact⟨u,r,e,h1.grow s,Rvs.grow h2 s⟩
theorem Ro.plain(s:aX H H')(q:v.fr=false)(h:Rv K RT Y J Z ZV H' v u):Ro K RT Y J Z ZV H H' v u:=⟨s,by rw[if_neg (by rw[q];decide)];exact h⟩
theorem Ro.from(h:Ro K RT Y J Z ZV H1 H' v u)(s:aX H H1):Ro K RT Y J Z ZV H H' v u:=by obtain⟨s',h⟩:=h;refine⟨s.trans s',?_⟩;by_cases q:v.fr=true;rw[if_pos q] at h ⊢;obtain⟨a,xs,ds,B,I,L,U,r⟩:=h;exact⟨a,xs,ds,B,I,s.free L,U,r⟩;rw[if_neg q] at h ⊢;exact h
theorem Ro.cl(s:aX H H')(h:Rep K H' (exV RT Y J Z ZV false []) d u):Ro K RT Y J Z ZV H H' (.cl d) u:=Ro.plain s rfl h
theorem Rv.sub{ds:List D}{xs:List V}{j:Nat}(h:Rep K H (exV RT Y J Z ZV v.pa v.al) d x):Rv K RT Y J Z ZV H (v.sub d) x:=by unfold Rv Vl.sub;by_cases q:noL d=true;rw[if_pos q];exact Rep.free d x q h;rw[if_neg q];exact h
theorem alR.mono(h:alR Z ZV al a)(s:∀j∈al,j∈al'):alR Z ZV al' a:=by obtain⟨j,B,q⟩:=h;exact⟨j,s j B,q⟩
theorem exV.mono(h:exV RT Y J Z ZV pa' al' a)(q:pa=true->pa'=true)(s:∀j∈al,j∈al'):exV RT Y J Z ZV pa al a:=by
 rcases h with⟨h1,h2⟩|h|⟨h1,h2⟩
 exact .inl ⟨h1,λz=>h2 (z.mono s)⟩;exact .inr (.inl h);refine .inr (.inr ⟨?_,h2⟩);grind
theorem Rvs.length:∀{vs:List Vl} {us:List V},Rvs K RT Y J Z ZV H vs us->vs.length=us.length
 | [],_,h=>by rw[show _=[] from h];rfl|v::vs,_,h=>by obtain⟨u,r,e,_,h2⟩:=h;subst e;rw[lC,lC,Rvs.length h2]
theorem pG{v:Vl}(h:v∈vs):∀j∈v.al,j∈bZ vs:=λj q=>ED.mpr ⟨v,h,q⟩
theorem yT{v:Vl}(h:v∈vs)(q:v.pa=true):dX vs=true:=EE.mpr ⟨v,h,q⟩
theorem Rvs.reps:∀{vs:List Vl} {us:List V} {pa:Bool} {al:List Nat},Rvs K RT Y J Z ZV H vs us->(∀v∈vs,(v.pa=true->pa=true)/\∀j∈v.al,j∈al) ->
 Reps K H (exV RT Y J Z ZV pa al) (vs.map (·.d)) us
 | [],_,_,_,h,_=>h|v::vs,_,_,_,h,q=>by obtain⟨u,r,e,h1,h2⟩:=h;have B:=q v Ar;exact⟨u,r,e,Rep.weak h1 λa z=>z.mono B.1 B.2,Rvs.reps h2 λw I=>q w (Al _ I)⟩
theorem Rvs.all{vs:List Vl}(h:Rvs K RT Y J Z ZV H vs us):Reps K H (exV RT Y J Z ZV (dX vs) (bZ vs)) (vs.map (·.d)) us:=
 h.reps λv q=>⟨λz=>yT q z,pG q⟩
theorem Ro.fresh(B:H p=none)(L:Tk K (upd H p (.lst xs)))(hd:v.d=.lst ds)(I:v.fr=true)(S:Sx K RT Y J Z ZV H)(r:Reps K H (exV RT Y J Z ZV v.pa v.al) ds xs) :
 Ro K RT Y J Z ZV H (upd H p (.lst xs)) v (.ref p):=by
 have s:aX H (upd H p (.lst xs)):=λb o q=>by rw[aN (cB q B)];exact q
 refine⟨s,?_⟩;rw[if_pos I];refine⟨p,xs,ds,rfl,hd,B,bY,?_⟩;refine Reps.imp (λ_ _ q=>aX.seqT s q) (λa ys n q=>⟨λz=>?_,s.seq q⟩) ds xs r;rcases z with z|z;subst z;rcases q with(q|⟨o,q⟩)|⟨o,U,W,q,_⟩
 rw[B] at q;cases q;rw[B] at q;cases q;have z:=L a (by rw[bY];simp);rw[q] at z;cases z;exact n z
theorem aX.new(B:H p=none):aX H (upd H p o):=λb u q=>by rw[aN (cB q B)];exact q
theorem Ro.tup(q:H p=none)(hd:v.d=.tup ds)(B:v.fr=false)(r:Reps K H (exV RT Y J Z ZV v.pa v.al) ds xs) :
 Ro K RT Y J Z ZV H (upd H p (.tup xs)) v (.ref p):=by refine Ro.plain (aX.new q) B ?_;unfold Rv;rw[hd];exact⟨p,xs,rfl,SqT.of bY,r.grow (aX.new q)⟩
end
section
variable (X:Cx) (P:Pg) (W:Caller) (RT Y J:Addr->Prop)
noncomputable def wE(Z:Sg)(c:E):TE:=λZV H Q=>Sx X.K RT Y J Z ZV H/\RE (ev P W Z c) λv=>∀u H',Tk X.K H'->Ro X.K RT Y J Z ZV H H' v u->Q u H'
noncomputable def wT(Z:Sg)(c:E):TT:=λZV H Q=>Sx X.K RT Y J Z ZV H/\RE (tst P W Z c) λk=>∀H',Tk X.K H'->aX H H'->Q k H'
noncomputable def wA(Z:Sg)(cs:Es):TA:=λZV H Q=>Sx X.K RT Y J Z ZV H/\RE (evs P W Z cs) λvs=>∀us H',Tk X.K H'->aX H H'->Rvs X.K RT Y J Z ZV H' vs us->Q us H'
end
section
variable {X:Cx} {P:Pg} {W:Caller} {RT Y J:Addr->Prop} {Z:Sg} {pos:Dy}
theorem _root_.L2.Inv.tk(I:Inv X G ZV H s):Tk X.K H:=λb B=>by
 cases q:X.K.lookup b with
 | none=>rfl|some o=>exact absurd (I.bs b o (I.ok.mod.kin b o q)).2 B
theorem _root_.L2.PE.imp(h:PE X e t)(f:∀ZV H Q,Tk X.K H->t' ZV H Q->t ZV H λv H'=>Tk X.K H'->Q v H'):PE X e t':=λG s ZV H Q I L=>thn (h G s ZV H _ I (f ZV H Q I.tk L)) λu s' ⟨v,H',B,r,q⟩=>⟨v,H',B,r,q B.tk⟩
theorem _root_.L2.PT.imp(h:PT X e t)(f:∀ZV H Q,Tk X.K H->t' ZV H Q->t ZV H λv H'=>Tk X.K H'->Q v H'):PT X e t':=λG s ZV H Q I L=>thn (h G s ZV H _ I (f ZV H Q I.tk L)) λk s' ⟨H',B,q⟩=>⟨H',B,q B.tk⟩
theorem _root_.L2.PA.imp(h:PA X es t)(f:∀ZV H Q,Tk X.K H->t' ZV H Q->t ZV H λv H'=>Tk X.K H'->Q v H'):PA X es t':=λpos G s ZV H Q I L=>thn (h pos G s ZV H _ I (f ZV H Q I.tk L)) λu s' ⟨v,H',B,r,q⟩=>⟨v,H',B,r,q B.tk⟩
theorem wE.two{p:Vl->Vl->Prop}{Q:V->V->Hp->Prop}(S:Sx X.K RT Y J Z ZV H)(h:RE (ev P W Z a) λx=>RE (ev P W Z b) λy=>p x y)
 (f:∀x y B I q,p x y->Tk X.K q->aX H q->Sx X.K RT Y J Z ZV q->Rv X.K RT Y J Z ZV q x B->Rv X.K RT Y J Z ZV q y I->Q B I q) :
 wE X P W RT Y J Z a ZV H λB H1=>wE X P W RT Y J Z b ZV H1 λI q=>Q B I q:=by refine⟨S,h.mono λx hx B H1 t1 L=>⟨S.grow L.1 t1,hx.mono λy hy I q t2 U=>?_⟩⟩;have S1:=S.grow L.1 t1;exact f x y B I q hy t2 (L.1.trans U.1) (S1.grow U.1 t2) ((L.rv S).grow U.1) (U.rv S1)
theorem Ro.val(s:aX H H')(h:∀ex,Rep X.K H' ex d u):Ro X.K RT Y J Z ZV H H' (.cl d) u:=Ro.cl s (h _)
theorem s_c (h : eqC d c = true) : PE X (.Constant c k pos) (wE X P W RT Y J Z (.c d)) := by
 have key : ∀ {v : V}, (∀ (H : Hp) ex, Rep X.K H ex d v) -> PE X (.Constant c k pos) (tC v) -> PE X (.Constant c k pos) (wE X P W RT Y J Z (.c d)) := λ I B =>B.imp λ ZV H Q t ⟨S, q⟩ t' => q _ H t' (Ro.val (aX.refl H) (I H));cases d with
 | non => cases c with|none => exact key (λ _ _ => rfl) aJL|_ => cases h
 | bl b => cases c with
  | bool b' => have e : b = b' := by simpa [eqC] using h
               subst e; exact key (λ _ _ => rfl) aMN
  | _ => cases h
 | int b => cases c with
  | int b' => have e : b = b' := by simpa [eqC] using h
              subst e; exact key (λ _ _ => rfl) aAB
  | _ => cases h
 | str b => cases c with
  | str b' => have e : b = b' := by simpa [eqC] using h
              subst e; exact key (λ _ _ => rfl) aJM
  | _ => cases h
 | _ => cases c <;> cases h
theorem s_v(U:X.N[i]? = some x)(hv:Vis X.env.scope x)(hd:(x==("__debug__" : Str))=false)(B:(x==("__classdict__" : Str))=false) :
 PE X (.Name x pos) (wE X P W RT Y J Z (.v i)):=by
 refine(vL U hv hd B).imp λZV H Q t ⟨S,q⟩=>?_;have q:RE (dI Z i) _:=q;unfold dI at q;cases e:Z[i]? with
 | none=>rw[e] at q;exact q.elim|some sl=>
  rw[e] at q;cases sl with
  | dead=>exact q.elim|dct _=>exact q.elim|own2 _=>exact q.elim|sh pa d=>
   obtain⟨v,h1,h2⟩:=S.sh i pa d e;refine⟨v,h1,λt'=>q v H t' (Ro.plain (aX.refl H) rfl ?_)⟩;unfold Rv;by_cases hn:noL d=true;exact Rep.free d v hn h2;refine Rep.weak h2 λa z=>?_;rcases z with⟨z,_⟩|z|⟨z,z'⟩
   exact .inl z;exact .inr (.inl z);have:pa=false:=by grind
   exact .inr (.inr ⟨this,z'⟩)
  | own pa ds=>
   obtain⟨a,xs,h1,h2,h3,I,L⟩:=S.own i pa ds e;refine⟨.ref a,h1,λt'=>q _ H t' (Ro.plain (aX.refl H) rfl ?_)⟩;unfold Rv;refine⟨a,xs,rfl,SqL.of h2,λz=>?_,L.weak λb z=>?_⟩;rcases z with⟨_,z⟩|z|⟨_,z⟩
   exact z ⟨i,by simp,⟨pa,ds,e⟩,h1⟩;exact I (S.yo a z);exact I z;rcases z with⟨z,_⟩|z;exact .inl z;exact .inr z
end
noncomputable def uI(prog:A2)(w:AL)(K:Fg)(a:Addr)(t:List (Str×D)):Prop:=(a==En)=false/\∃vs:List (Key×Ad),(∀h:Heap,K.In h->h.DictOf (cI prog w) a vs) /\
 ∀k:Str,(t.lookup k=none/\EV vs (BR k:Key)=none)\/∃d u v,t.lookup k=some d/\EV vs (BR k:Key)=some u/\cC v u/\∀(H:Hp) (ex:Addr->Prop),Rep K H ex d v
section
variable {X:Cx}
theorem aHE{t:List (Str×D)}{p ap cp:Dy}(T:uI X.prog X.w X.K a t)(hg:Gl X x)(hm:X.mg x=some (.ref a))(hd:(x==("__debug__" : Str))=false)(he:PE X e te)(B:(ap.endLine==cp.line)=true)
 (hs:Bj [e] X.env=[(false,Dm e X.env)]) :
 PE X (.Call (.Attribute (.Name x p) "get" ap) [e] [] cp) (λZ H Q=>te Z H λu H1=>∃k,u=.str k/\∀v,(∀(H:Hp) (ex:Addr->Prop),Rep X.K H ex ((t.lookup k).getD .non) v)->Q v H1):=by
 intro G s Z H Q I h;obtain⟨W,vs,dict,q0⟩:=T;refine ES rfl (by rw[hs];rfl) B rfl (thn (aBE (v:=.ref a) hg hm rfl hd G s Z H (λv H1=>v=.ref a/\H1=H) I ⟨rfl,rfl⟩) λv s1 ⟨y,H1,I1,r1,e1,e2⟩=>?_);subst e1 e2;obtain rfl:v=Dt a:=r1;have dd:=dict s1.heap I1.kIn;refine⟨"dict", "dict.get",PySem.F.plainAttrs_dict,Fj,PySem.F.type_dict_get,dd.typeIs,λb q=>?_,?_⟩;cases q;obtain⟨ob,_,_,h1,h2,_⟩:=dd;exact⟨ob,h1,h2.2.1⟩
 . have hA:=(fC he gN hs) cp G s1 Z H1 (λus H2=>match us with|[u]=>(∃k,u=.str k/\∀v,(∀(H:Hp) (ex:Addr->Prop),Rep X.K H ex ((t.lookup k).getD .non) v)->Q v H2)|_=>False) I1 h;rw[hs] at hA ⊢;refine ET rfl (Fw ?_);refine thn hA λus s2 ⟨xs,H2,I2,r2,L⟩=>?_
   match xs,r2,L with
   | [y],.cons ry .nil,L=>
    obtain⟨k,ey,L⟩:=L;subst ey;obtain⟨tk,rfl⟩:=ry;have U:=dict s2.heap I2.kIn;refine call_meetsIn Fj U.typeIs PySem.F.entry_dict_get (PySem.F.args_dict_get_2 _ _) (meets_dict_get (cI X.prog X.w) a (k:=(BR k:Key)) (oF k tk) W) ⟨_,U.mapOf,?_⟩;rcases q0 k with⟨l1,l2⟩|⟨d,u,v,l1,l2,rv,rep⟩
    rw[l2];refine⟨.non,H2,I2.tok _,rfl,L .non λH ex=>?_⟩;rw[l1];rfl;rw[l2];refine⟨v,H2,I2.tok _,rv,L v λH ex=>?_⟩;rw[l1];exact rep H ex
end
section
variable {X:Cx} {RT Y J:Addr->Prop} {Z:Sg} {ZV:L2.St} {H:Hp} {s:Ag} {G:List (Addr×Obj)} {Q:VK} {ux uy:V} {vx vy:Ad} {x y:Vl}
theorem _root_.L2.EP.tk(h:EP X G ZV (λv H'=>Tk X.K H'->Q v H') u s'):EP X G ZV Q u s':=by obtain⟨v,H',B,r,q⟩:=h;exact⟨v,H',B,r,q (Inv.tk B)⟩
abbrev Wn(X:Cx)(RT Y J:Addr->Prop)(Z:Sg)(ZV:L2.St)(H:Hp)(Q:VK)(v:Vl):Prop:=∀u H',Tk X.K H'->Ro X.K RT Y J Z ZV H H' v u->Q u H'
theorem Wn.val(w:Wn X RT Y J Z ZV H Q (.cl d))(t:Tk X.K H)(h:∀ex,Rep X.K H ex d u):Q u H:=w u H t (Ro.cl (aX.refl H) (h _))
theorem Rv.int(h:Rv X.K RT Y J Z ZV H x u)(e:x.d=.int i):u=.int i:=by unfold Rv at h;rw[e] at h;exact h
theorem Rv.str(h:Rv X.K RT Y J Z ZV H x u)(e:x.d=.str i):u=.str i:=by unfold Rv at h;rw[e] at h;exact h
theorem Rv.bl(h:Rv X.K RT Y J Z ZV H x u)(e:x.d=.bl i):u=.bl i:=by unfold Rv at h;rw[e] at h;exact h
theorem Rv.non(h:Rv X.K RT Y J Z ZV H x u)(e:x.d=.non):u=.non:=by unfold Rv at h;rw[e] at h;exact h
theorem Rv.tup(h:Rv X.K RT Y J Z ZV H x u)(e:x.d=.tup ds):∃a xs,u=.ref a/\SqT X.K H a xs/\Reps X.K H (exV RT Y J Z ZV x.pa x.al) ds xs:=by unfold Rv at h;rw[e] at h;exact h
theorem Rv.lst(h:Rv X.K RT Y J Z ZV H x u)(e:x.d=.lst ds):∃a xs,u=.ref a/\SqL X.K H a xs/\¬ exV RT Y J Z ZV x.pa x.al a/\Reps X.K H (exV RT Y J Z ZV x.pa x.al) ds xs:=by unfold Rv at h;rw[e] at h;exact h
theorem aKA:lim<=sizeLine:=by unfold lim;rw[Cb];decide
theorem oH(h:n<=lim):n<=sizeLine:=AM h aKA
theorem gE{ds:List D}{xs:List V}{pa:Bool}{al:List Nat}{K:Fg}(r:Reps K H (exV RT Y J Z ZV pa al) ds xs) :
 Reps K H (exV RT Y J Z ZV (pa&&!noLs ds) (if noLs ds=true then [] else al)) ds xs:=by by_cases q:noLs ds=true;exact Reps.free ds xs q r;grind
noncomputable def aNC(K:Fg):R2:=λx y H Q=>∃l b xs zs,x=.ref l/\y=.ref b/\SqL K H l xs/\SqL K H b zs/\xs.length+zs.length<=sizeLine/\∀p,H p=none->Q (.ref p) (upd H p (.lst (xs++zs)))
theorem aHF:OpR X (De .Add) (aNC X.K):=by
 intro G s ZV H x y v u Q I rx ry h;obtain⟨l,b,xs,zs,rfl,rfl,hH,hB,hz,q⟩:=h;cases rx;cases ry;obtain⟨L,r,pl,z⟩:=I.list hH;obtain⟨B,r2,q3,z2⟩:=I.list hB;obtain⟨⟨cls,dd,data,sl⟩,ho,hc,n,hd⟩:=pl.isList;obtain⟨⟨q5,q2,q1,q4⟩,q0,U,n2,W⟩:=q3.isList;simp only at hc hd U W;subst hc hd U W;have e:L.toArray++B.toArray=(L++B).toArray:=by simp
 have hl:=r.length;have q6:=r2.length;refine EO ⟨_,ho,rfl⟩ ⟨_,q0,rfl⟩ noFill_list_add seq_list_add PySem.F.slot_list_add PySem.F.entry_list_add (PySem.F.args_list_add_2 _ _) (list_addW l b L.toArray B.toArray n n2 dd q2 sl q4 (by rw[Aj,Aj];omega)) ⟨ho,q0,?_⟩;rw[e];exact⟨.ref _,_,I.lnew (t':=s.toks) (r.append r2) (by rw[lA];omega),rfl,q _ I.fresh⟩
noncomputable def aKB(K:Fg):R2:=λx y H Q=>∃a b xs ys,x=.ref a/\y=.ref b/\SqT K H a xs/\SqT K H b ys/\xs.length+ys.length<=sizeLine /\
 (xs=[]->Q (.ref b) H)/\(xs≠[]->ys=[]->Q (.ref a) H)/\(xs≠[]->ys≠[]->∀p,H p=none->Q (.ref p) (upd H p (.tup (xs++ys))))
theorem aER:OpR X (De .Add) (aKB X.K):=by
 intro G s Z H x y v u Q I rx ry h;obtain⟨a,b,xs,ys,rfl,rfl,ha,hb,hz,q0,q1,q2⟩:=h;by_cases U:xs=[]
 cases rx;cases ry;obtain⟨W,r1,p1,_⟩:=I.tuple ha;obtain⟨q3,r2,p2,_⟩:=I.tuple hb;obtain⟨⟨cls,dd,data,sl⟩,ho,hc,n,hd⟩:=id p1;obtain⟨⟨q7,q5,q4,q6⟩,L,q,n2,B⟩:=id p2;simp only at hc hd q B;subst hc hd q B;have hi:W=[]:=r1.nil_iff.mpr U;exact EO ⟨_,ho,rfl⟩ ⟨_,L,rfl⟩ EB FP D4 Dv (Df _ _)
  (tuple_addW0 a b W.toArray q3.toArray n n2 dd q5 sl q6 (by simp[hi])) ⟨ho,L,⟨.ref b,H,I,rfl,q0 U⟩⟩
 exact aHv G s Z H _ _ v u Q I rx ry ⟨a,b,xs,ys,rfl,rfl,ha,hb,U,hz,q1 U,q2 U⟩
theorem aES{o:Operator}(I:Inv X G ZV H s)(S:Sx X.K RT Y J Z ZV H)(rx:cC ux vx)(ry:cC uy vy)(W:Rv X.K RT Y J Z ZV H x ux)(hy:Rv X.K RT Y J Z ZV H y uy)
 (q6:x.fr=true->∃a xs,ux=.ref a/\H a=some (.lst xs)) (h:RE (opD o x y) (Wn X RT Y J Z ZV H Q)):Aw (AA X.prog X.w) X.A (De o vx vy) (EP X G ZV Q) X.xe s:=by
 have t:=Inv.tk I;have go:∀{f:Ad->Ad->JC Ad} {r:R2},OpR X f r->(r ux uy H λv H'=>Tk X.K H'->Q v H')->Aw (AA X.prog X.w) X.A (f vx vy) (EP X G ZV Q) X.xe s:=λhr q=>thn (hr G s ZV H ux uy vx vy _ I rx ry q) λu s' z=>EP.tk z;cases o with
 | Add=>have h:RE (aKu x y) (Wn X RT Y J Z ZV H Q):=h;unfold aKu at h;split at h;rename_i i j B L;exact go aKa ⟨i,j,W.int B,hy.int L,λ_=>h.val t λ_=>rfl⟩;rename_i as bs B L;obtain⟨c,h⟩:=h.iff;obtain⟨a,xs,e1,q1,r1⟩:=W.tup B;obtain⟨b,ys,e2,q2,r2⟩:=hy.tup L;have l1:=r1.length;have l2:=r2.length;have c':=of_decide_eq_true c;have q4:Reps X.K H (exV RT Y J Z ZV (x.pa||y.pa) (x.al++y.al)) as xs:=r1.weak λa z=>z.mono (λU=>by rw[U];rfl) λj hj=>AY _ hj;have q5:Reps X.K H (exV RT Y J Z ZV (x.pa||y.pa) (x.al++y.al)) bs ys:=r2.weak λa z=>z.mono (λU=>by rw[U,IF]) λj hj=>A5 _ hj;refine go aER ⟨a,b,xs,ys,e1,e2,q1,q2,oH (by omega),λz t'=>?_,λz z' t'=>?_,λz z' p U t'=>?_⟩;subst z;have:as=[]:=BB.mp (by simpa using l1);subst this;exact h _ _ t' (Ro.plain (aX.refl H) rfl ⟨b,ys,rfl,q2,q5⟩);subst z';have:bs=[]:=BB.mp (by simpa using l2);subst this;exact h _ _ t' (Ro.plain (aX.refl H) rfl ⟨a,xs,rfl,q1,by rw[Bu];exact q4⟩);exact h _ _ t' (Ro.tup U rfl rfl (q4.append q5));rename_i as bs B L;obtain⟨c,h⟩:=h.iff;obtain⟨a,xs,e1,q1,_,r1⟩:=W.lst B;obtain⟨b,ys,e2,q2,_,r2⟩:=hy.lst L;have l1:=r1.length;have l2:=r2.length;have c':=of_decide_eq_true c;refine go aHF ⟨a,b,xs,ys,e1,e2,q1,q2,oH (by omega),λp U t'=>h _ _ t' (Ro.fresh U t' rfl rfl S ?_)⟩;refine Reps.append ((gE r1).weak λa z=>z.mono (λU=>?_) λj hj=>AY _ hj) ((gE r2).weak λa z=>z.mono (λU=>?_) λj hj=>A5 _ hj);grind;grind;exact h.elim|Mult=>have h:RE (aKv x y) (Wn X RT Y J Z ZV H Q):=h;unfold aKv at h;split at h;rename_i i j B L;obtain⟨c,h⟩:=h.iff;refine go aKc ⟨i,j,W.int B,hy.int L,?_,λ_=>Wn.val h t λ_=>rfl⟩;simp only[iF,BY,bA,AO] at c;exact c;rename_i as k B L;obtain⟨c,h⟩:=h.iff;simp only[bA,AO] at c;obtain⟨a,xs,e1,q1,_,r1⟩:=W.lst B;obtain⟨a',q7,q0,q3⟩:=q6 c.1.1.1;rw[e1] at q0;cases q0;have e3:xs=q7:=I.list_inj q1 (SqL.of q3);subst e3;have l1:=r1.length;have hk:=c.1.1.2;unfold aO at hk;simp only[bA,AO] at hk;have q8:=hk.1;have q9:=hk.2;refine go aKp ⟨a,k,xs,e1,hy.int L,q3,by omega,by omega,oH (by rw[<-l1];exact c.1.2),λp U t'=>h _ _ t' (Ro.fresh U t' rfl rfl S ?_)⟩;exact Reps.flat (Reps.free as xs c.2 r1) _;exact h.elim|Sub=>dsimp only[opD,aDc] at h;split at h;rename_i i j B L;exact go aKb ⟨i,j,W.int B,hy.int L,λ_=>h.val t λ_=>rfl⟩;exact h.elim|FloorDiv=>dsimp only[opD,aDc] at h;split at h;rename_i i j B L;obtain⟨c,h⟩:=h.iff;refine go aHl ⟨i,j,W.int B,hy.int L,?_,λ_=>Wn.val h t λ_=>rfl⟩;simp only[yP,bA,AO] at c;exact c;exact h.elim|Mod=>dsimp only[opD,aDc] at h;split at h;rename_i i j B L;obtain⟨c,h⟩:=h.iff;exact go aKd ⟨i,j,W.int B,hy.int L,of_decide_eq_true c,λ_=>Wn.val h t λ_=>rfl⟩;exact h.elim|_=>exact h.elim
end
end Hp
namespace Hp
open PySem PySem.Spec PyProof.Rows L2 PySem.SeqAt
noncomputable def nA(n:Nat)(ds es:List D)(j:Nat):Bool:=match ds[j]?,es[j]? with|some x,some y=>(eqF n x y).getD false|_,_=>false
theorem aBR:∀{n:Nat} {ds es:List D} {k:Bool},fY n ds es=some k->∀{j:Nat} {x y:D},ds[j]? = some x->es[j]? = some y->∃b,eqF n x y=some b
 | n,[],es,k,h,j,x,y,e1,e2=>by simp at e1|n,d::ds,[],k,h,j,x,y,e1,e2=>by simp at e2|n,d::ds,e::es,k,h,j,x,y,e1,e2=>by
  rw[fY] at h;cases h1:eqF n d e with
  | none=>rw[h1] at h;simp at h|some b=>
   cases h2:fY n ds es with
   | none=>rw[h1,h2] at h;simp at h|some b'=>
    cases j with
    | zero=>grind|succ j=>exact aBR h2 (by simpa using e1) (by simpa using e2)
theorem nB:∀{n:Nat} {ds es:List D} {k:Bool},fY n ds es=some k->k=((Ai (min ds.length es.length)).all (nA n ds es)&&ds.length==es.length)
 | n,[],[],k,h=>by simp[fY] at h;simp[<-h]|n,[],e::es,k,h=>by simp[fY] at h;simp[<-h]|n,d::ds,[],k,h=>by simp[fY] at h;simp[<-h]|n,d::ds,e::es,k,h=>by
  rw[fY] at h;cases h1:eqF n d e with
  | none=>rw[h1] at h;simp at h|some b=>
   cases h2:fY n ds es with
   | none=>rw[h1,h2] at h;simp at h|some b'=>
    rw[h1,h2] at h;have q:nA n (d::ds) (e::es) 0=b:=by simp[nA,h1]
    have B:min (d::ds).length (e::es).length=min ds.length es.length+1:=by simp only[lC];omega
    rw[B,CC,Dg,q,Ec];have:(nA n (d::ds) (e::es))∘Nat.succ=nA n ds es:=funext λj=>(λj=>by simp[nA]) j;rw[this,<-(A9 h),(nB h2)];simp[Bool.and_assoc]
section
variable {X:Cx} {ZV:L2.St} {H:Hp} {s:Ag} {G:List (Addr×Obj)}
theorem _root_.L2.Inv.lt_ne(I:L2.Inv X G ZV H s)(h1:SqL X.K H a xs)(h2:SqT X.K H a ys):False:=by obtain⟨B,_,pl,_⟩:=I.list h1;obtain⟨q,_,pt,_⟩:=I.tuple h2;exact ne_of_list_tuple pl.isList (pt) rfl
mutual
theorem vZ(I:L2.Inv X G ZV H s):∀(n:Nat) (d e:D) (u:V) (k:Bool) (ex B:Addr->Prop),Rep X.K H ex d u->Rep X.K H B e u->eqF n d e=some k->k=true
 | 0,d,e,u,k,_,_,_,_,h=>by simp[eqF] at h|n+1,.non,e,u,k,_,_,h1,h2,h=>by
  rw[show u=.non from h1] at h2;cases e with
  | non=>simpa[eqF] using h.symm|tup ds=>obtain⟨a,xs,z,_⟩:=h2;cases z|lst ds=>obtain⟨a,xs,z,_⟩:=h2;cases z|bl b=>cases(h2)|int b=>cases(h2)|str b=>cases(h2)
 | n+1,.bl b,e,u,k,_,_,h1,h2,h=>by
  rw[show u=.bl b from h1] at h2;cases e with
  | bl b'=>cases(h2);simpa[eqF] using h.symm|tup ds=>obtain⟨a,xs,z,_⟩:=h2;cases z|lst ds=>obtain⟨a,xs,z,_⟩:=h2;cases z|non=>cases(h2)|int b'=>cases(h2)|str b'=>cases(h2)
 | n+1,.int b,e,u,k,_,_,h1,h2,h=>by
  rw[show u=.int b from h1] at h2;cases e with
  | int b'=>cases(h2);simpa[eqF] using h.symm|tup ds=>obtain⟨a,xs,z,_⟩:=h2;cases z|lst ds=>obtain⟨a,xs,z,_⟩:=h2;cases z|non=>cases(h2)|bl b'=>cases(h2)|str b'=>cases(h2)
 | n+1,.str b,e,u,k,_,_,h1,h2,h=>by
  rw[show u=.str b from h1] at h2;cases e with
  | str b'=>cases(h2);simpa[eqF] using h.symm|tup ds=>obtain⟨a,xs,z,_⟩:=h2;cases z|lst ds=>obtain⟨a,xs,z,_⟩:=h2;cases z|non=>cases(h2)|bl b'=>cases(h2)|int b'=>cases(h2)
 | n+1,.tup ds,e,u,k,ex,B,h1,h2,h=>by
  obtain⟨a,xs,z,q,r⟩:=h1;subst z;cases e with
  | tup es=>obtain⟨a',W,z,L,U⟩:=h2;cases z;have:=I.tuple_inj q L;subst this;exact eqs_same I n ds es xs k ex B r U (by simpa[eqF] using h)|lst es=>obtain⟨a',W,z,L,_,U⟩:=h2;cases z;exact(I.lt_ne L q).elim|non=>cases(h2)|bl b'=>cases(h2)|int b'=>cases(h2)|str b'=>cases(h2)
 | n+1,.lst ds,e,u,k,ex,B,h1,h2,h=>by
  obtain⟨a,xs,z,q,_,r⟩:=h1;subst z;cases e with
  | lst es=>obtain⟨a',W,z,L,_,U⟩:=h2;cases z;have:=I.list_inj q L;subst this;exact eqs_same I n ds es xs k ex B r U (by simpa[eqF,(r.length.trans U.length.symm)] using h)|tup es=>obtain⟨a',W,z,L,U⟩:=h2;cases z;exact(I.lt_ne q L).elim|non=>cases(h2)|bl b'=>cases(h2)|int b'=>cases(h2)|str b'=>cases(h2)
theorem eqs_same(I:L2.Inv X G ZV H s):∀(n:Nat) (ds es:List D) (us:List V) (k:Bool) (ex q:Addr->Prop),Reps X.K H ex ds us->Reps X.K H q es us->fY n ds es=some k->k=true
 | n,[],[],us,k,_,_,h1,h2,h=>by simpa[fY] using h.symm|n,[],e::es,us,k,_,_,h1,h2,h=>by obtain⟨x,r,z,_⟩:=h2;rw[show us=[] from h1] at z;cases z|n,d::ds,[],us,k,_,_,h1,h2,h=>by obtain⟨x,r,z,_⟩:=h1;rw[show us=[] from h2] at z;cases z|n,d::ds,e::es,us,k,ex,q,h1,h2,h=>by
  obtain⟨x,r,z,W,b1⟩:=h1;obtain⟨x',r',U,a2,b2⟩:=h2;rw[z] at U;cases U;rw[fY] at h;cases B:eqF n d e with
  | none=>rw[B] at h;simp at h|some b=>
   cases L:fY n ds es with
   | none=>rw[B,L] at h;simp at h|some b'=>rw[B,L] at h;have e1:=vZ I n d e x b ex q W a2 B;have e2:=eqs_same I n ds es r b' ex q b1 b2 L;grind
end
noncomputable def Eq3(A:Be)(s:Ag)(v z:Ad)(k:Bool):Prop:=EqAt A s v z k/\RcAt A s v z k/\RcNeAt A s v z (!k)
theorem aBS{xs:List V}{us:List Ad}(r:bJ xs us)(h:j<us.toArray.size):∃x,xs[j]? = some x/\cC x us.toArray[j]:=by
 have I:=r.length;have B:j<xs.length:=by rw[Aj] at h;omega
 obtain⟨u,e,q⟩:=r.get (Ac B);grind
theorem uJ(A:Be):A.in1.units=A.units+1:=rfl
theorem aBT(I:L2.Inv X G ZV H s):∀(n:Nat) (A:Be) (d e:D) (u w:V) (v z:Ad) (k:Bool) (ex q4:Addr->Prop),A.units+n<Ej->Rep X.K H ex d u->Rep X.K H q4 e w->cC u v->cC w z->eqF n d e=some k->Eq3 A s v z k:=by
 intro n
 induction n with
 | zero=>intro A d e u w v z k ex q4 _ _ _ _ _ h;simp[eqF] at h|succ n ih=>
  intro A d e u w v z k ex q4 hA h1 h2 r1 U h;have L:A.units<Ej:=by omega
  have items:∀{ds es:List D} {xs ys:List V} {q0 W:List Ad} {k:Bool},Reps X.K H ex ds xs->Reps X.K H q4 es ys->bJ xs q0->bJ ys W->fY n ds es=some k ->
   ∀j (_:j<q0.toArray.size) (_:j<W.toArray.size),EqAt A.in1 s q0.toArray[j] W.toArray[j] (nA n ds es j):=by
   intro ds es xs ys q0 W k q1 q2 v1 v2 hk j w5 w6;obtain⟨x,w3,rx⟩:=aBS v1 w5;obtain⟨y,w4,ry⟩:=aBS v2 w6;obtain⟨d',ed,rd⟩:=q1.get' w3;obtain⟨e',ee,re⟩:=q2.get' w4;obtain⟨b,hb⟩:=aBR hk ed ee;have hj:nA n ds es j=b:=by simp[nA,ed,ee,hb]
   rw[hj];exact(ih A.in1 d' e' x y _ _ b ex q4 (by rw[uJ];omega) rd re rx ry hb).1
  cases d with
  | non=>
   rw[show u=.non from h1] at r1;cases r1;cases e with
   | non=>rw[show w=.non from h2] at U;cases U;simp[eqF] at h;subst h;exact⟨EqAt.same _,RcAt.none_none,RcNeAt.none_none⟩|bl b=>rw[show w=.bl b from h2] at U;cases U;simp[eqF] at h;subst h;exact⟨EqAt.none_bool _,RcAt.none_bool _,RcNeAt.none_bool _⟩|int b=>rw[show w=.int b from h2] at U;obtain⟨t,rfl⟩:=U;simp[eqF] at h;subst h;exact⟨EqAt.none_int _ _,RcAt.none_int _ _,RcNeAt.none_int _ _⟩|str b=>rw[show w=.str b from h2] at U;obtain⟨t,rfl⟩:=U;simp[eqF] at h;subst h;exact⟨EqAt.none_str _ _,RcAt.none_str _ _,RcNeAt.none_str _ _⟩|tup es=>obtain⟨b,ys,rfl,q,r⟩:=h2;cases U;obtain⟨q0,_,p,_⟩:=I.tuple q;simp[eqF] at h;subst h;exact⟨EqAt.none_tuple (p) L,RcAt.none_tuple (p) L,RcNeAt.none_tuple (p) L⟩|lst es=>obtain⟨b,ys,rfl,q,_,r⟩:=h2;cases U;obtain⟨q0,_,p,_⟩:=I.list q;simp[eqF] at h;subst h;exact⟨EqAt.none_list p.isList L,RcAt.none_list p.isList L,RcNeAt.none_list p.isList L⟩
  | bl a=>
   rw[show u=.bl a from h1] at r1;cases r1;cases e with
   | non=>rw[show w=.non from h2] at U;cases U;simp[eqF] at h;subst h;exact⟨EqAt.bool_none _,RcAt.bool_none _,RcNeAt.bool_none _⟩|bl b=>rw[show w=.bl b from h2] at U;cases U;simp only[eqF,Co] at h;subst h;exact⟨EqAt.bool_bool _ _,RcAt.bool_bool _ _,RcNeAt.bool_bool _ _⟩|int b=>rw[show w=.int b from h2] at U;obtain⟨t,rfl⟩:=U;simp only[eqF,Co] at h;subst h;exact⟨EqAt.bool_int _ _ _,RcAt.bool_int _ _ _,RcNeAt.bool_int _ _ _⟩|str b=>rw[show w=.str b from h2] at U;obtain⟨t,rfl⟩:=U;simp[eqF] at h;subst h;exact⟨EqAt.bool_str _ _ _,RcAt.bool_str _ _ _,RcNeAt.bool_str _ _ _⟩|tup es=>obtain⟨b,ys,rfl,q,r⟩:=h2;cases U;obtain⟨q0,_,p,_⟩:=I.tuple q;simp[eqF] at h;subst h;exact⟨EqAt.bool_tuple _ (p) L,RcAt.bool_tuple _ (p) L,RcNeAt.bool_tuple _ (p) L⟩|lst es=>obtain⟨b,ys,rfl,q,_,r⟩:=h2;cases U;obtain⟨q0,_,p,_⟩:=I.list q;simp[eqF] at h;subst h;exact⟨EqAt.bool_list _ p.isList L,RcAt.bool_list _ p.isList L,RcNeAt.bool_list _ p.isList L⟩
  | int a=>
   rw[show u=.int a from h1] at r1;obtain⟨t1,rfl⟩:=r1;cases e with
   | non=>rw[show w=.non from h2] at U;cases U;simp[eqF] at h;subst h;exact⟨EqAt.int_none _ _,RcAt.int_none _ _,RcNeAt.int_none _ _⟩|bl b=>rw[show w=.bl b from h2] at U;cases U;simp only[eqF,Co] at h;subst h;exact⟨EqAt.int_bool _ _ _,RcAt.int_bool _ _ _,RcNeAt.int_bool _ _ _⟩|int b=>rw[show w=.int b from h2] at U;obtain⟨t,rfl⟩:=U;simp only[eqF,Co] at h;subst h;exact⟨EqAt.int_int _ _ _ _,RcAt.int_int _ _ _ _,RcNeAt.int_int _ _ _ _⟩|str b=>rw[show w=.str b from h2] at U;obtain⟨t,rfl⟩:=U;simp[eqF] at h;subst h;exact⟨EqAt.int_str _ _ _ _,RcAt.int_str _ _ _ _,RcNeAt.int_str _ _ _ _⟩|tup es=>obtain⟨b,ys,rfl,q,r⟩:=h2;cases U;obtain⟨q0,_,p,_⟩:=I.tuple q;simp[eqF] at h;subst h;exact⟨EqAt.int_tuple _ _ (p) L,RcAt.int_tuple _ _ (p) L,RcNeAt.int_tuple _ _ (p) L⟩|lst es=>obtain⟨b,ys,rfl,q,_,r⟩:=h2;cases U;obtain⟨q0,_,p,_⟩:=I.list q;simp[eqF] at h;subst h;exact⟨EqAt.int_list _ _ p.isList L,RcAt.int_list _ _ p.isList L,RcNeAt.int_list _ _ p.isList L⟩
  | str a=>
   rw[show u=.str a from h1] at r1;obtain⟨t1,rfl⟩:=r1;cases e with
   | non=>rw[show w=.non from h2] at U;cases U;simp[eqF] at h;subst h;exact⟨EqAt.str_none _ _,RcAt.str_none _ _,RcNeAt.str_none _ _⟩|bl b=>rw[show w=.bl b from h2] at U;cases U;simp[eqF] at h;subst h;exact⟨EqAt.str_bool _ _ _,RcAt.str_bool _ _ _,RcNeAt.str_bool _ _ _⟩|int b=>rw[show w=.int b from h2] at U;obtain⟨t,rfl⟩:=U;simp[eqF] at h;subst h;exact⟨EqAt.str_int _ _ _ _,RcAt.str_int _ _ _ _,RcNeAt.str_int _ _ _ _⟩|str b=>rw[show w=.str b from h2] at U;obtain⟨t,rfl⟩:=U;simp only[eqF,Co] at h;subst h;exact⟨EqAt.str_str _ _ _ _,RcAt.str_str _ _ _ _,RcNeAt.str_str _ _ _ _⟩|tup es=>obtain⟨b,ys,rfl,q,r⟩:=h2;cases U;obtain⟨q0,_,p,_⟩:=I.tuple q;simp[eqF] at h;subst h;exact⟨EqAt.str_tuple _ _ (p) L,RcAt.str_tuple _ _ (p) L,RcNeAt.str_tuple _ _ (p) L⟩|lst es=>obtain⟨b,ys,rfl,q,_,r⟩:=h2;cases U;obtain⟨q0,_,p,_⟩:=I.list q;simp[eqF] at h;subst h;exact⟨EqAt.str_list _ _ p.isList L,RcAt.str_list _ _ p.isList L,RcNeAt.str_list _ _ p.isList L⟩
  | tup ds=>
   have q8:=h1;obtain⟨a,xs,rfl,q1,q5⟩:=h1;cases r1;obtain⟨q7,v1,p1,_⟩:=I.tuple q1;have B:=p1;cases e with
   | non=>rw[show w=.non from h2] at U;cases U;simp[eqF] at h;subst h;exact⟨EqAt.tuple_none B L,RcAt.tuple_none B L,RcNeAt.tuple_none B L⟩|bl b=>rw[show w=.bl b from h2] at U;cases U;simp[eqF] at h;subst h;exact⟨EqAt.tuple_bool _ B L,RcAt.tuple_bool _ B L,RcNeAt.tuple_bool _ B L⟩|int b=>rw[show w=.int b from h2] at U;obtain⟨t,rfl⟩:=U;simp[eqF] at h;subst h;exact⟨EqAt.tuple_int _ _ B L,RcAt.tuple_int _ _ B L,RcNeAt.tuple_int _ _ B L⟩|str b=>rw[show w=.str b from h2] at U;obtain⟨t,rfl⟩:=U;simp[eqF] at h;subst h;exact⟨EqAt.tuple_str _ _ B L,RcAt.tuple_str _ _ B L,RcNeAt.tuple_str _ _ B L⟩|tup es=>
    have q9:=h2;obtain⟨b,ys,rfl,q2,q3⟩:=h2;cases U;obtain⟨W,v2,p2,_⟩:=I.tuple q2;have hk:fY n ds es=some k:=by simpa[eqF] using h
    have l1:q7.toArray.size=ds.length:=by rw[Aj,<-v1.length,q5.length]
    have l2:W.toArray.size=es.length:=by rw[Aj,<-v2.length,q3.length]
    have rc:RcAt A s (.ref a) (.ref b) k:=by rw[(nB hk),<-l1,<-l2];exact RcAt.tuples B (p2) L (items q5 q3 v1 v2 hk)
    have rn:RcNeAt A s (.ref a) (.ref b) (!k):=by rw[(nB hk),<-l1,<-l2];exact RcNeAt.tuples B (p2) L (items q5 q3 v1 v2 hk)
    refine⟨?_,rc,rn⟩;by_cases q6:a=b;subst q6;have:=vZ I (n+1) (.tup ds) (.tup es) (.ref a) k ex q4 q8 q9 h;subst this;exact EqAt.same _;exact EqAt.of_refs q6 rc
   | lst es=>obtain⟨b,ys,rfl,q2,_,q3⟩:=h2;cases U;obtain⟨W,v2,p2,_⟩:=I.list q2;simp[eqF] at h;subst h;exact⟨EqAt.tuple_list B p2.isList L,RcAt.tuple_list B p2.isList L,RcNeAt.tuple_list B p2.isList L⟩
  | lst ds=>
   have q8:=h1;obtain⟨a,xs,rfl,q1,_,q5⟩:=h1;cases r1;obtain⟨q7,v1,p1,_⟩:=I.list q1;have B:=p1.isList;cases e with
   | non=>rw[show w=.non from h2] at U;cases U;simp[eqF] at h;subst h;exact⟨EqAt.list_none B L,RcAt.list_none B L,RcNeAt.list_none B L⟩|bl b=>rw[show w=.bl b from h2] at U;cases U;simp[eqF] at h;subst h;exact⟨EqAt.list_bool _ B L,RcAt.list_bool _ B L,RcNeAt.list_bool _ B L⟩|int b=>rw[show w=.int b from h2] at U;obtain⟨t,rfl⟩:=U;simp[eqF] at h;subst h;exact⟨EqAt.list_int _ _ B L,RcAt.list_int _ _ B L,RcNeAt.list_int _ _ B L⟩|str b=>rw[show w=.str b from h2] at U;obtain⟨t,rfl⟩:=U;simp[eqF] at h;subst h;exact⟨EqAt.list_str _ _ B L,RcAt.list_str _ _ B L,RcNeAt.list_str _ _ B L⟩|lst es=>
    have q9:=h2;obtain⟨b,ys,rfl,q2,_,q3⟩:=h2;cases U;obtain⟨W,v2,p2,_⟩:=I.list q2;have l1:q7.toArray.size=ds.length:=by rw[Aj,<-v1.length,q5.length]
    have l2:W.toArray.size=es.length:=by rw[Aj,<-v2.length,q3.length]
    have both:RcAt A s (.ref a) (.ref b) k/\RcNeAt A s (.ref a) (.ref b) (!k):=by
     by_cases hl:ds.length=es.length;have hk:fY n ds es=some k:=by simpa[eqF,hl] using h
     have hv:=nB hk;rw[<-hl,Nat.min_self,beq_self_eq_true,Dh,<-l1] at hv;rw[hv];exact⟨RcAt.lists B p2.isList (by rw[l1,l2,hl]) L (items q5 q3 v1 v2 hk),RcNeAt.lists B p2.isList (by rw[l1,l2,hl]) L (items q5 q3 v1 v2 hk)⟩;have hk:k=false:=by simpa[eqF,hl] using h.symm
     subst hk;exact⟨RcAt.lists_lengths B p2.isList (by rw[l1,l2];simpa using hl) L,RcNeAt.lists_lengths B p2.isList (by rw[l1,l2];simpa using hl) L⟩
    refine⟨?_,both.1,both.2⟩;by_cases q6:a=b;subst q6;have:=vZ I (n+1) (.lst ds) (.lst es) (.ref a) k ex q4 q8 q9 h;subst this;exact EqAt.same _;exact EqAt.of_refs q6 both.1
   | tup es=>obtain⟨b,ys,rfl,q2,q3⟩:=h2;cases U;obtain⟨W,v2,p2,_⟩:=I.tuple q2;simp[eqF] at h;subst h;exact⟨EqAt.list_tuple B p2 L,RcAt.list_tuple B p2 L,RcNeAt.list_tuple B p2 L⟩
mutual
theorem aBU(I:L2.Inv X G ZV H s):∀(d e:D) (u:V) (ex B:Addr->Prop),Rep X.K H ex d u->Rep X.K H B e u->d=e
 | .tup ds,e,u,ex,B,⟨a,xs,z,q,r⟩,h2=>by
  subst z;cases e with
  | tup es=>obtain⟨_,W,z,L,U⟩:=h2;cases z;cases I.tuple_inj q L;rw[reps_inj I ds es xs ex B r U]|lst es=>obtain⟨_,W,z,L,_⟩:=h2;cases z;exact(I.lt_ne L q).elim|_=>injection h2
 | .lst ds,e,u,ex,B,⟨a,xs,z,q,_,r⟩,h2=>by
  subst z;cases e with
  | lst es=>obtain⟨_,W,z,L,_,U⟩:=h2;cases z;cases I.list_inj q L;rw[reps_inj I ds es xs ex B r U]|tup es=>obtain⟨_,W,z,L,_⟩:=h2;cases z;exact(I.lt_ne q L).elim|_=>injection h2
 | .non,e,u,_,_,h1,h2=>by cases(show u=_ from h1);cases e <;> first|rfl|(obtain⟨_,_,z,_⟩:=h2;cases z)|(cases(show _=_ from h2);try rfl)
 | .bl _,e,u,_,_,h1,h2=>by cases(show u=_ from h1);cases e <;> first|(obtain⟨_,_,z,_⟩:=h2;cases z)|(cases(show _=_ from h2);try rfl)
 | .int _,e,u,_,_,h1,h2=>by cases(show u=_ from h1);cases e <;> first|(obtain⟨_,_,z,_⟩:=h2;cases z)|(cases(show _=_ from h2);try rfl)
 | .str _,e,u,_,_,h1,h2=>by cases(show u=_ from h1);cases e <;> first|(obtain⟨_,_,z,_⟩:=h2;cases z)|(cases(show _=_ from h2);try rfl)
theorem reps_inj(I:L2.Inv X G ZV H s):∀(ds es:List D) (us:List V) (ex q:Addr->Prop),Reps X.K H ex ds us->Reps X.K H q es us->ds=es
 | [],[],_,_,_,_,_=>rfl|[],_::_,_,_,_,h1,⟨_,_,z,_⟩=>by cases(show _=[] from h1);cases z|_::_,[],_,_,_,⟨_,_,z,_⟩,h2=>by cases(show _=[] from h2);cases z|d::ds,e::es,us,ex,q,⟨x,r,z,a1,b1⟩,⟨_,_,z',a2,b2⟩=>by subst z;cases z';rw[aBU I d e x ex q a1 a2,reps_inj I ds es r ex q b1 b2]
end
theorem jM:∀{ds:List D} {ns:List Int} {xs:List V} {ex:Addr->Prop},dN ds=some ns->Reps X.K H ex ds xs->xs=ns.map V.int
 | [],ns,xs,ex,h,r=>by simp[dN] at h;subst h;exact r|.int a::ds,ns,xs,ex,h,r=>by
  obtain⟨x,B,z,h1,h2⟩:=r;rw[dN] at h;cases q:dN ds with
  | none=>rw[q] at h;cases h|some ms=>rw[q] at h;cases h;rw[z,show x=.int a from h1,jM q h2];rfl
 | .non::ds,ns,xs,ex,h,r=>by simp[dN] at h|.bl _::ds,ns,xs,ex,h,r=>by simp[dN] at h|.str _::ds,ns,xs,ex,h,r=>by simp[dN] at h|.tup _::ds,ns,xs,ex,h,r=>by simp[dN] at h|.lst _::ds,ns,xs,ex,h,r=>by simp[dN] at h
theorem aBV:∀(ns ms:List Int),aDd ns ms=HT.lexLt ns ms
 | [],[]=>rfl|[],_::_=>rfl|_::_,[]=>rfl|x::xs,y::ys=>by rw[aDd,HT.lexLt_cons,aBV xs ys]
theorem aDf(h:aKw as bs=some k):∃ns ms,dN as=some ns/\dN bs=some ms/\k=HT.lexLt ns ms:=by
 unfold aKw at h;cases q:dN as with
 | none=>rw[q] at h;cases h|some ns=>
  cases B:dN bs with
  | none=>rw[q,B] at h;cases h|some ms=>rw[q,B] at h;exact⟨ns,ms,rfl,rfl,(A9 h).symm.trans (aBV ns ms)⟩
theorem aBW:∀{x:D} {q:List D} {k:Bool},tR x q=some k->(∀y∈q,∃b,eqD y x=some b)/\(k=true↔∃y∈q,eqD y x=some true)
 | x,[],k,h=>by simp[tR] at h;subst h;simp|x,y::q,k,h=>by
  rw[tR] at h;cases B:eqD y x with
  | none=>rw[B] at h;simp at h|some a=>
   cases I:tR x q with
   | none=>rw[B,I] at h;simp at h|some b=>rw[B,I] at h;have L:(a||b)=k:=A9 h;obtain⟨i1,i2⟩:=aBW I;grind
open Classical in
theorem aDg(I:L2.Inv X G ZV H s){A:Be}(hA:A.units+mY+1<Ej){ex B:Addr->Prop}{L:List Ad}
 (hx:Rep X.K H ex x ux) (rx:cC ux vx) (r:Reps X.K H B ys xs) (v:bJ xs L) (h:tR x ys=some k) :
 ∃e:Ad->Bool,(∀y,y∈L.toArray->EqAt A.in1 s y vx (e y))/\L.toArray.any e=k:=by
 obtain⟨h1,h2⟩:=aBW h;have at':∀y∈L,∃u d,cC u y/\Rep X.K H B d u/\d∈ys:=λy hy=>by
  obtain⟨j,W⟩:=Cp hy;have hl:=v.length;have U:j<xs.length:=by have:=(Au.mp W).1;omega
  obtain⟨u',e',q⟩:=v.get (Ac U);rw[W] at e';cases e';obtain⟨d,hd,rd⟩:=r.get' (Ac U);exact⟨_,d,q,rd,mG hd⟩
 refine⟨λy=>decide (∃u d,cC u y/\Rep X.K H B d u/\d∈ys/\eqD d x=some true),λy hy=>?_,?_⟩;obtain⟨u,d,q,rd,hd⟩:=at' y (by grind);obtain⟨b,hb⟩:=h1 d hd;have key:(decide (∃u d,cC u y/\Rep X.K H B d u/\d∈ys/\eqD d x=some true))=b:=by
  cases b with
  | true=>grind|false=>refine A3 ?_;rintro ⟨u',d',q',q0,q2,q1⟩;have e1:u'=u:=q'.inj q;subst e1;have e2:d=d':=aBU I d d' u' B B rd q0;grind
 show EqAt A.in1 s y vx (decide (∃u d,cC u y/\Rep X.K H B d u/\d∈ys/\eqD d x=some true));rw[key];exact(aBT I mY A.in1 d x u ux y vx b B ex (by rw[uJ];omega) rd hx q rx hb).1;rw[Bv,h2];constructor;grind;rintro ⟨d,hd,e⟩;have:L.any (λy=>decide (∃u d,cC u y/\Rep X.K H B d u/\d∈ys/\eqD d x=some true))=true:=by obtain⟨j,W⟩:=Cp hd;obtain⟨u,hu,ru⟩:=r.get W;obtain⟨y,hy,q⟩:=v.get hu;exact EE.mpr ⟨y,mG hy,Ak ⟨u,d,q,ru,hd,e⟩⟩
 grind
end
section
variable {X:Cx} {RT Y J:Addr->Prop} {Z:Sg} {ZV:L2.St} {H:Hp} {s:Ag} {G:List (Addr×Obj)} {Q:VK} {ux uy:V} {vx vy:Ad} {x y:Vl}
theorem aDh(I:L2.Inv X G ZV H s)(hA:X.A.units+200<Ej)(rx:cC ux vx)(ry:cC uy vy)(B:Rv X.K RT Y J Z ZV2 H x ux)(W:Rv X.K RT Y J Z ZV2 H y uy)
 (h:cZ o x.d y.d=some k) (q:Q (.bl k) H):Aw (AA X.prog X.w) X.A (BI o vx vy) (EP X G ZV Q) X.xe s:=by
 have hu:X.A.units<Ej:=by omega
 have q0:EP X G ZV Q (.bool k) s:=⟨.bl k,H,I,rfl,q⟩
 have hD:mY=120:=rfl;have go:∀{f:Ad->Ad->JC Ad} {r:R2},OpR X f r->r ux uy H Q->Aw (AA X.prog X.w) X.A (f vx vy) (EP X G ZV Q) X.xe s:=λhr q=>hr G s ZV H ux uy vx vy Q I rx ry q;have e3:∀{b:Bool},eqD x.d y.d=some b->Eq3 X.A s vx vy b:=λ{b} hb=>aBT I mY X.A x.d y.d ux uy vx vy b _ _ (by omega) B W rx ry hb;cases o with
 | Eq=>exact(e3 h).2.1 X.prog X.w X.xe _ q0|NotEq=>simp only[cZ,Bp] at h;obtain⟨b,hb,e⟩:=h;subst e;exact(e3 hb).2.2 X.prog X.w X.xe _ q0|Lt=>simp only[cZ] at h;unfold ltD at h;split at h;rename_i a b L U;exact go aNc ⟨a,b,B.int L,W.int U,by grind⟩;rename_i as bs L U;obtain⟨ns,ms,q1,q2,e⟩:=aDf h;obtain⟨a,xs,e1,p1,r1⟩:=B.tup L;obtain⟨b,ys,e2,p2,r2⟩:=W.tup U;rw[jM q1 r1] at p1;rw[jM q2 r2] at p2;exact go (aKk hu) ⟨a,b,ns,ms,e1,e2,p1,p2,by rw[<-e];exact q⟩;cases h|Gt=>simp only[cZ] at h;split at h;rename_i a b L U;exact go aNe ⟨a,b,B.int L,W.int U,by grind⟩;cases h|LtE=>simp only[cZ] at h;unfold leD at h;split at h;rename_i a b L U;exact go aNd ⟨a,b,B.int L,W.int U,by grind⟩;cases h|GtE=>cases h|Is=>
  simp only[cZ] at h;split at h;rename_i U;refine go aKf ⟨W.non U,?_⟩;have:decide (ux=V.non)=k:=by
   rw[<-A9 h];unfold isNone;split;rename_i L;rw[B.non L];simp;rename_i L;refine A3 λz=>?_;rw[z] at B;unfold Rv at B;cases q':x.d with
   | non=>exact L q'|_=>rw[q'] at B;first|(obtain⟨a,xs,z',_⟩:=B;cases z')|exact B.elim|injection B
  rw[this];exact q;cases h
 | IsNot=>
  simp only[cZ] at h;split at h;rename_i U;refine go aHm ⟨W.non U,?_⟩;have:(!decide (ux=V.non))=k:=by
   rw[<-A9 h];unfold isNone;split;rename_i L;rw[B.non L];simp;rename_i L;rw[A3 λz=>?_];rw[z] at B;unfold Rv at B;cases q':x.d with
   | non=>exact L q'|_=>rw[q'] at B;first|(obtain⟨a,xs,z',_⟩:=B;cases z')|exact B.elim|injection B
  rw[this];exact q;cases h
 | In=>simp only[cZ] at h;unfold inD at h;split at h;rename_i ys U;obtain⟨b,xs,e2,p2,_,r2⟩:=W.lst U;subst e2;cases ry;obtain⟨q3,v2,t2,_⟩:=I.list p2;obtain⟨e,he,hk⟩:=aDg I (A:=X.A) (by omega) B rx r2 v2 h;exact in_listAt e t2.isList he (by rw[hk];exact q0);rename_i a b L U;exact go aCT ⟨a,b,B.str L,W.str U,by rw[show(!(E9 b a 0 b.length 1).isEmpty)=k from A9 h];exact q⟩;cases h|NotIn=>cases h
end
end Hp
namespace Hp
open PySem PySem.Spec PyProof.Rows L2
section
variable {X:Cx} {RT Y J:Addr->Prop} {Z:Sg} {ZV:L2.St} {H:Hp} {s:Ag} {G:List (Addr×Obj)} {Q:VK} {ux uy:V} {vx vy:Ad} {x y:Vl}
theorem oI(n:Nat)(k:Int):Hp.ixN n k=L2.ixN n k:=rfl
theorem Rv.ofSub(h:Rep X.K H (exV RT Y J Z ZV x.pa x.al) d u):Ro X.K RT Y J Z ZV H H (x.sub d) u:=by refine Ro.plain (aX.refl H) ?_ (Rv.sub (ds:=[]) (xs:=[]) (j:=0) h);unfold Vl.sub Vl.cl;split <;> rfl
theorem aDi(t:Tk X.K H)(W:Rv X.K RT Y J Z ZV H x ux)(hy:Rv X.K RT Y J Z ZV H y uy)(h:RE (eK x y) (Wn X RT Y J Z ZV H Q)):rIx X.K ux uy H (λv H'=>Tk X.K H'->Q v H'):=by
 unfold eK at h;split at h;rename_i ds k I L;obtain⟨a,xs,e,q,_,r⟩:=W.lst I;cases B:Hp.ixN ds.length k with
 | none=>rw[B] at h;exact h.elim|some j=>
  rw[B] at h;cases hd:ds[j]? with
  | none=>simp only[hd] at h;exact h.elim|some d=>simp only[hd] at h;obtain⟨v,U,rv⟩:=r.get hd;refine .inl ⟨a,xs,k,v,e,hy.int L,q,?_,λt'=>h v H t' (Rv.ofSub rv)⟩;unfold atI;rw[<-r.length,<-oI,B];exact U
 rename_i ds k I L;obtain⟨a,xs,e,q,r⟩:=W.tup I;cases B:Hp.ixN ds.length k with
 | none=>rw[B] at h;exact h.elim|some j=>
  rw[B] at h;cases hd:ds[j]? with
  | none=>simp only[hd] at h;exact h.elim|some d=>simp only[hd] at h;obtain⟨v,U,rv⟩:=r.get hd;refine .inr (.inl ⟨a,xs,k,v,e,hy.int L,q,?_,λt'=>h v H t' (Rv.ofSub rv)⟩);unfold atI;rw[<-r.length,<-oI,B];exact U
 rename_i z k I L;obtain⟨c,h⟩:=h.iff;have c':=of_decide_eq_true c;cases B:Hp.ixN z.length k with
 | none=>rw[B] at h;exact h.elim|some j=>
  rw[B] at h;cases hd:z.cps.toList[j]? with
  | none=>simp only[hd] at h;exact h.elim|some c=>
   simp only[hd] at h;refine .inr (.inr ⟨z,k,c,W.str I,hy.int L,oH c',?_,λt'=>Wn.val h t' λ_=>rfl⟩);unfold atI;have hl:z.cps.toList.length=z.length:=by simp[Jq]
   rw[hl,<-oI,B];exact hd
 exact h.elim
theorem wB(n d:Nat)(o:Option Int):Hp.sIx n d o=HT.sIx n d o:=by cases o <;> rfl
theorem yU{K:Fg}{ex:Addr->Prop}{ds:List D}{xs:List V}(r:Reps K H ex ds xs)(lo hi:Option Int):Reps K H ex (cut ds lo hi) (yG xs lo hi):=by unfold cut yG;rw[wB,wB,r.length];exact(r.drop _).take _
theorem lP{prog:A2}{w:AL}{A:Be}{E:Ad->Ag->Prop}{t sl:Addr}{items:Array Ad}{W vu:Ad}{lo hi:Option Int}{Q:Ad->Ag->Prop}(q:IsTup s.heap t items)(hs:s.heap.IsSliceOf sl W vu .none)(pl:EQ W lo)(pu:EQ vu hi)
 (U:HT.sIx items.size 0 lo=0/\HT.sIx items.size items.size hi=items.size) (h:Q (.ref t) s):Aw (AA prog w) A (FE (.ref t) (.ref sl)) Q E s:=by
 obtain⟨os,L,I,q0⟩:=id hs;unfold FE
 try with_reducible refine B8 ?_
 first|refine Aa (Ah ?_)|skip
 refine Aa (Gr q.typeIs (by decide) ?_);refine Aa (AS q.typeIs Bk
  (Bh Bk q.typeIs FH ?_ (FZ _ _)))
 show Aw _ _ (El (.ref t) >>= _) _ _ s;refine Aa (Ie q ?_);refine Aa (Eb (⟨os,L,I⟩) ?_);rw[if_pos (by decide)];refine Aa (HT.sliceApplied_gen hs pl pu ?_);have B:(((HT.sIx items.size 0 lo:Nat):Int)==0&&(1:Int)==1&&(HT.sIx items.size items.size hi-HT.sIx items.size 0 lo)==items.size)=true:=by rw[U.1,U.2];simp
 show Aw _ _ (if (((HT.sIx items.size 0 lo:Nat):Int)==0&&(1:Int)==1&&(HT.sIx items.size items.size hi-HT.sIx items.size 0 lo)==items.size)=true then _ else _) _ _ s;rw[if_pos B];unfold HF;refine Aa (Aa (Eb q.typeIs (Ah ?_)));rw[if_pos (beq_self_eq_true _)];exact Aa (DG (Ah ⟨_,rfl,Ah h⟩))
noncomputable def aJf(K:Fg):V->Option Int->Option Int->Hp->VK->Prop:=λx lo hi H Q=>∃a xs,x=.ref a/\SqT K H a xs/\(HT.sIx xs.length 0 lo=0/\HT.sIx xs.length xs.length hi=xs.length)/\Q (.ref a) H
theorem aHG:SlR X (aJf X.K):=by
 intro G s Z H x v vl vu lo hi sl Q I rx hs pl pu h;obtain⟨a,xs,rfl,hx,W,q⟩:=h;cases rx;obtain⟨L,r,U,hz⟩:=I.tuple hx;have B:L.toArray.size=xs.length:=by rw[Aj];exact r.length.symm
 exact⟨"tuple",_,Bk.lookup,U.typeIs,(lP U hs pl pu (by rw[B];exact W) ⟨.ref a,H,I,rfl,q⟩)⟩
noncomputable def aHH(K:Fg):V->Option Int->Option Int->Hp->VK->Prop:=λx lo hi H Q=>aNq K x lo hi H Q\/aNk K x lo hi H Q\/aJf K x lo hi H Q
theorem aKC:SlR X (aHH X.K):=aHw.or (aKj.or aHG)
theorem aDj{α:Type}{xs:List α}{lo hi:Option Int}(h1:Hp.sIx xs.length 0 lo=0)(h2:Hp.sIx xs.length xs.length hi=xs.length):cut xs lo hi=xs:=by unfold cut;rw[h1,h2,HG,EW,Bx]
theorem aDk{lo hi:Option Int}(S:Sx X.K RT Y J Z ZV H)(t:Tk X.K H)(U:Rv X.K RT Y J Z ZV H x ux)(h:RE (eC x lo hi) (Wn X RT Y J Z ZV H Q)) :
 aHH X.K ux lo hi H λv H'=>Tk X.K H'->Q v H':=by unfold eC at h;split at h;rename_i ds I;obtain⟨a,xs,e,q,_,r⟩:=U.lst I;exact .inl ⟨a,xs,e,q,λp L t'=>h _ _ t' (Ro.fresh L t' rfl rfl S (yU (gE r) lo hi))⟩;rename_i ds I;obtain⟨a,xs,e,q,r⟩:=U.tup I;by_cases B:HT.sIx xs.length 0 lo=0/\HT.sIx xs.length xs.length hi=xs.length;refine .inr (.inr ⟨a,xs,e,q,B,λt'=>h _ _ t' (Ro.plain (aX.refl H) rfl ?_)⟩);unfold Rv;rw[(aDj (by rw[wB,r.length];exact B.1) (by rw[wB,r.length];exact B.2))];exact⟨a,xs,rfl,q,(gE r)⟩;exact .inr (.inl ⟨a,xs,e,q,B,λp L t'=>h _ _ t' (Ro.tup L rfl rfl (yU (gE r) lo hi))⟩);exact h.elim
theorem iR:∀{ds:List D} {bs:List Bool} {xs:List V} {ex:Addr->Prop},cS ds=some bs->Reps X.K H ex ds xs->xs=bs.map V.bl
 | [],bs,xs,ex,h,r=>by simp[cS] at h;subst h;exact r|.bl a::ds,bs,xs,ex,h,r=>by
  obtain⟨x,B,z,h1,h2⟩:=r;rw[cS] at h;cases q:cS ds with
  | none=>rw[q] at h;cases h|some ms=>rw[q] at h;cases h;rw[z,show x=.bl a from h1,iR q h2];rfl
 | .non::ds,ns,xs,ex,h,r=>by simp[cS] at h|.int _::ds,ns,xs,ex,h,r=>by simp[cS] at h|.str _::ds,ns,xs,ex,h,r=>by simp[cS] at h|.tup _::ds,ns,xs,ex,h,r=>by simp[cS] at h|.lst _::ds,ns,xs,ex,h,r=>by simp[cS] at h
theorem uK:∀{bs:List Bool} {us:List Ad},bJ (bs.map V.bl) us->us=bs.map Cs:=by
 intro bs
 induction bs with
 | nil=>intro us r;rw[mN] at r;cases r;rfl|cons b bs q=>
  intro us r;rw[mC] at r;cases r with
  | cons B I=>rw[show _=Cs b from B,q I];rfl
theorem aAN(bs:List Bool):((Ai bs.length).all λi=>(bs[i]?).getD true)=bs.all id:=by rw[Bv];simp only[AT,AC,id];constructor;intro h b q;obtain⟨i,hi⟩:=Cp q;have:=h i (Au.mp hi).1;rw[hi] at this;grind;intro h i hi;rw[(Ac hi)];exact h _ (AF hi)
theorem aDl(hc:X.calm=true):gM X (.builtin "all") (λxs H Q=>∃(p:Addr) (bs:List Bool),xs=[.ref p]/\SqL X.K H p (bs.map V.bl)/\Q (.bl (bs.all id)) H):=by
 intro G s Z H xs us Q I r h;obtain⟨p,bs,rfl,hq,q⟩:=h;obtain⟨u,rfl,rx⟩:=pE r;cases rx;obtain⟨q0,rv,pl,hz⟩:=I.list hq;have U:=uK rv;subst U;refine call_all_walk (BS pl.isList ?_);refine⟨s.heap.objs.size,[s.heap.objs.size,p],[s.heap.objs.size],(bs.map Cs).toArray.size,_,_,λi=>(bs[i]?).getD true,rfl,Gc (A:=X.A.in1) (I.ok.hd hc) _ p (AB pl.lt) _,
  ⟨⟨_,An _ rfl,rfl,rfl⟩,pl.isList.push _⟩,λi v s' Q' E' hP W=>?_,λh' tk hk=>?_⟩
 have B:bs[i]?.map Cs=some v:=by grind
 cases e:bs[i]? with
 | none=>rw[e] at B;cases B|some b=>rw[e] at B;cases B;simp only[e] at W;exact B5 W
 have e:((Ai (bs.map Cs).toArray.size).all λi=>(bs[i]?).getD true)=bs.all id:=by rw[Aj,lM];exact aAN bs
 rw[e];refine⟨.bl _,H,I.kept λb o L=>hk b o ?_ (Ab _ L),rfl,q⟩;intro hm;rw[AE.mp hm] at L;exact Br _ (Aq L)
theorem aAO(bs:List Bool):((Ai bs.length).any λi=>(bs[i]?).getD true)=bs.any id:=by rw[Bv];simp only[EE,AC,id];constructor;rintro ⟨i,hi,h⟩;rw[Ac hi] at h;exact⟨bs[i],AF hi,h⟩;rintro ⟨b,q,h⟩;obtain⟨i,hi⟩:=Cp q;grind
theorem aDm(hc:X.calm=true):gM X (.builtin "any") (λxs H Q=>∃(p:Addr) (bs:List Bool),xs=[.ref p]/\SqL X.K H p (bs.map V.bl)/\Q (.bl (bs.any id)) H):=by
 intro G s Z H xs us Q I r h;obtain⟨p,bs,rfl,hq,q⟩:=h;obtain⟨u,rfl,rx⟩:=pE r;cases rx;obtain⟨q0,rv,pl,hz⟩:=I.list hq;have U:=uK rv;subst U;refine call_any_walk (BS pl.isList ?_);refine⟨s.heap.objs.size,[s.heap.objs.size,p],[s.heap.objs.size],(bs.map Cs).toArray.size,_,_,λi=>(bs[i]?).getD true,rfl,Gc (A:=X.A.in1) (I.ok.hd hc) _ p (AB pl.lt) _,
  ⟨⟨_,An _ rfl,rfl,rfl⟩,pl.isList.push _⟩,λi v s' Q' E' hP W=>?_,λh' tk hk=>?_⟩
 have B:bs[i]?.map Cs=some v:=by grind
 cases e:bs[i]? with
 | none=>rw[e] at B;cases B|some b=>rw[e] at B;cases B;simp only[e] at W;exact B5 W
 have e:((Ai (bs.map Cs).toArray.size).any λi=>(bs[i]?).getD true)=bs.any id:=by rw[Aj,lM];exact aAO bs
 rw[e];refine⟨.bl _,H,I.kept λb o L=>hk b o ?_ (Ab _ L),rfl,q⟩;intro hm;rw[AE.mp hm] at L;exact Br _ (Aq L)
noncomputable def rBi(X:Cx)(b:Bi):List V->Hp->VK->Prop:=match b with|.len=>λxs H Q=>(∃p ys,xs=[.ref p]/\(SqL X.K H p ys\/SqT X.K H p ys)/\Q (.int ys.length) H)\/∃z,xs=[.str z]/\z.length<=sizeLine/\Q (.int z.length) H|.list=>λxs H Q=>∃p ys,xs=[.ref p]/\(SqL X.K H p ys\/SqT X.K H p ys)/\∀l,H l=none->Q (.ref l) (upd H l (.lst ys))|.tuple=>λxs H Q=>∃p ys,xs=[.ref p]/\((SqL X.K H p ys/\∀l,H l=none->Q (.ref l) (upd H l (.tup ys)))\/(SqT X.K H p ys/\Q (.ref p) H))|.max=>λxs H Q=>∃i j,xs=[.int i,.int j]/\Q (.int (if j>i then j else i)) H|.int=>λxs H Q=>(∃i,xs=[.int i]/\Q (.int i) H)\/∃k,xs=[.bl k]/\Q (.int (if k then 1 else 0)) H|.all=>λxs H Q=>∃(p:Addr) (bs:List Bool),xs=[.ref p]/\SqL X.K H p (bs.map V.bl)/\Q (.bl (bs.all id)) H|.any=>λxs H Q=>∃(p:Addr) (bs:List Bool),xs=[.ref p]/\SqL X.K H p (bs.map V.bl)/\Q (.bl (bs.any id)) H
noncomputable def aJg:Bi->Ad
 | .len=>.builtin "len" | .list=>.type "list" | .tuple=>.type "tuple" | .max=>.builtin "max" | .int=>.type "int" | .all=>.builtin "all" | .any=>.builtin "any"
theorem aHI(q:X.calm=true)(B:X.A.guards=some [])(I:X.A.units+200<Ej)(b:Bi):gM X (aJg b) (rBi X b):=by
 cases b with
 | len=>exact vU.or vV|list=>exact vW|tuple=>exact tQ|max=>exact aCU q|int=>exact aCV|all=>exact aDl q|any=>exact aDm q
theorem aET(S:Sx X.K RT Y J Z ZV H)(hv:Rvs X.K RT Y J Z ZV H vs us)(h:RE (biD b vs) (Wn X RT Y J Z ZV H Q)) :
 rBi X b us H (λv H'=>Tk X.K H'->Q v H'):=by
 unfold biD at h;split at h;rename_i x;obtain⟨u,r,e,I,W⟩:=hv;rw[show r=[] from W] at e;subst e;cases b with
 | len=>dsimp only[aAJ] at h;split at h;rename_i ds B;obtain⟨a,xs,e,q,_,r⟩:=I.lst B;exact .inl ⟨a,xs,by rw[e],.inl q,λt'=>by rw[<-r.length];exact Wn.val h t' λ_=>rfl⟩;rename_i ds B;obtain⟨a,xs,e,q,r⟩:=I.tup B;exact .inl ⟨a,xs,by rw[e],.inr q,λt'=>by rw[<-r.length];exact Wn.val h t' λ_=>rfl⟩;rename_i z B;obtain⟨c,h⟩:=h.iff;exact .inr ⟨z,by rw[I.str B],oH (of_decide_eq_true c),λt'=>Wn.val h t' λ_=>rfl⟩;exact h.elim|list=>dsimp only[aAJ] at h;split at h;rename_i ds B;obtain⟨a,xs,e,q,_,r⟩:=I.lst B;exact⟨a,xs,by rw[e],.inl q,λp U t'=>h _ _ t' (Ro.fresh U t' rfl rfl S (gE r))⟩;rename_i ds B;obtain⟨a,xs,e,q,r⟩:=I.tup B;exact⟨a,xs,by rw[e],.inr q,λp U t'=>h _ _ t' (Ro.fresh U t' rfl rfl S (gE r))⟩;exact h.elim|tuple=>dsimp only[aAJ] at h;split at h;rename_i ds B;obtain⟨a,xs,e,q,_,r⟩:=I.lst B;exact⟨a,xs,by rw[e],.inl ⟨q,λp U t'=>h _ _ t' (Ro.tup U rfl rfl (gE r))⟩⟩;rename_i ds B;obtain⟨a,xs,e,q,r⟩:=I.tup B;exact⟨a,xs,by rw[e],.inr ⟨q,λt'=>h _ _ t' (Ro.plain (aX.refl H) rfl ⟨a,xs,rfl,q,r⟩)⟩⟩;exact h.elim|int=>dsimp only[aAJ] at h;split at h;rename_i i B;exact .inl ⟨i,by rw[I.int B],λt'=>Wn.val h t' λ_=>rfl⟩;rename_i k B;exact .inr ⟨k,by rw[I.bl B],λt'=>Wn.val h t' λ_=>rfl⟩;exact h.elim|all=>dsimp only[aAJ] at h;split at h;rename_i ds B;obtain⟨a,xs,e,q,_,r⟩:=I.lst B;split at h;rename_i bs L;rw[iR L r] at q;exact⟨a,bs,by rw[e],q,λt'=>Wn.val h t' λ_=>rfl⟩;exact h.elim;exact h.elim|any=>dsimp only[aAJ] at h;split at h;rename_i ds B;obtain⟨a,xs,e,q,_,r⟩:=I.lst B;split at h;rename_i bs L;rw[iR L r] at q;exact⟨a,bs,by rw[e],q,λt'=>Wn.val h t' λ_=>rfl⟩;exact h.elim;exact h.elim|max=>exact h.elim
 rename_i x y;obtain⟨u,r,e,I,u',r',e',hy,W⟩:=hv;rw[show r'=[] from W] at e';subst e' e;cases b with
 | max=>dsimp only[aNt] at h;split at h;rename_i i j B d2;exact⟨i,j,by rw[I.int B,hy.int d2],λt'=>Wn.val h t' λ_=>rfl⟩;exact h.elim|_=>exact h.elim
 exact h.elim
noncomputable def tyD:D->Option String
 | .non=>some "NoneType" | .bl _=>some "bool" | .int _=>some "int" | .str _=>some "str" | .tup _=>some "tuple" | .lst _=>some "list"
theorem kN(K:Fg)(P:Pg){c:Cl}{d:D}{k:Bool}{T:String}(q:tyD d=some T)(h:isI [c] P d=some k):PySem.W.kitOne K (.type T) (.type (clName c))=some k:=by cases c <;> cases d <;> cases q <;> simp[isI] at h <;> subst h <;> kernel_rfl
theorem aDn(P:Pg)(I:L2.Inv X G ZV H s)(L:cC ux vx)(U:Rv X.K RT Y J Z ZV H x ux)(h:isI [c] P x.d=some k)(q:Q (.bl k) H) :
 Aw (AA X.prog X.w) X.A (HE (.builtin "isinstance") [vx,.type (clName c)]) (EP X G ZV Q) X.xe s:=by
 have B:∀tk,EP X G ZV Q (.bool k) { s with toks:=tk }:=λtk=>⟨.bl k,H,I.tok tk,rfl,q⟩
 cases d:x.d with
 | non=>rw[U.non d] at L;cases L;exact CF PySem.W.kitx_none I.kIn Eo (kN X.K P (by rw[d];rfl) h) (λz=>nomatch z) B|bl b=>rw[U.bl d] at L;cases L;exact CF PySem.W.kitx_bool I.kIn Eo (kN X.K P (by rw[d];rfl) h) (λz=>nomatch z) B|int i=>rw[U.int d] at L;obtain⟨t,rfl⟩:=L;exact CF PySem.W.kitx_int I.kIn Eo (kN X.K P (by rw[d];rfl) h) (λz=>nomatch z) B|str z=>rw[U.str d] at L;obtain⟨t,rfl⟩:=L;exact CF PySem.W.kitx_str I.kIn Eo (kN X.K P (by rw[d];rfl) h) (λz=>nomatch z) B|tup ds=>obtain⟨a,xs,W,p,_⟩:=U.tup d;subst W;cases L;obtain⟨q0,_,t,_⟩:=I.tuple p;obtain⟨o,h1,h2,_⟩:=t;exact CF PySem.W.kitx_tuple I.kIn ⟨o,h1,h2⟩ (kN X.K P (by rw[d];rfl) h) (λz=>nomatch z) B|lst ds=>obtain⟨a,xs,W,p,_⟩:=U.lst d;subst W;cases L;obtain⟨q0,_,t,_⟩:=I.list p;obtain⟨o,n,h1,h2,_⟩:=t;exact CF PySem.W.kitx_list I.kIn ⟨o,h1,h2⟩ (kN X.K P (by rw[d];rfl) h) (λz=>nomatch z) B
end
end Hp
namespace L2
open PySem PySem.Spec PyProof.Rows
noncomputable def lQ(cells:List (Str×Addr)):List (Str×BZ)->List (Str×Addr)->List (Str×Addr)
 | [],acc=>acc|(n,k)::r,acc=>if k==.free then lQ cells r ((n,(cells.lookup n).getD 0)::acc) else lQ cells r acc
theorem clos_mem{cells:List (Str×Addr)}:∀{names:List (Str×BZ)} {acc:List (Str×Addr)} {p:Str×Addr},p∈lQ cells names acc->p∈acc\/((p.1,Bn)∈names/\p.2=(cells.lookup p.1).getD 0)
 | [],_,_,h=>.inl h|(n,k)::r,acc,p,h=>by unfold lQ at h;by_cases B:(k==Bn)=true;rw[if_pos B] at h;rcases clos_mem h with q|q;grind;grind;rw[if_neg B] at h;rcases clos_mem h with q|q;exact .inl q;grind
theorem rC{cells:List (Str×Addr)}:∀{names:List (Str×BZ)} {acc:List (Str×Addr)} {p:Str×Addr},p∈acc->p∈lQ cells names acc
 | [],_,_,h=>h|(n,k)::r,acc,p,h=>by unfold lQ;by_cases q:(k==Bn)=true;rw[if_pos q];exact rC (Al _ h);rw[if_neg q];exact rC h
theorem nC{cells:List (Str×Addr)}:∀{names:List (Str×BZ)} {acc:List (Str×Addr)} {n:Str},(n,Bn)∈names->(n,(cells.lookup n).getD 0)∈lQ cells names acc
 | [],_,_,h=>by simp at h|(m,k)::r,acc,n,h=>by unfold lQ;rcases A4.mp h with q|q;cases q;rw[if_pos (by rfl:(Bn==Bn)=true)];exact rC Ar;by_cases B:(k==Bn)=true;rw[if_pos B];exact nC q;rw[if_neg B];exact nC q
theorem gB{α:Type}:∀{l:List (Str×α)} {x:Str} {a:α},(x,a)∈l->∃b,l.lookup x=some b
 | (y,b)::r,x,a,h=>by
  rw[List.lookup_cons];cases B:x==y with
  | true=>grind|false=>rcases A4.mp h with q|q;grind;exact gB q
theorem dM{cells:List (Str×Addr)}(B:∀n,(n,Bn)∈names->∃c,cells.lookup n=some c)(h:(lQ cells names []).lookup x=some c):cells.lookup x=some c:=by
 rcases clos_mem (B0 h) with q|⟨I,L⟩
 simp at q;grind
theorem jB{scope:Da}{env:IT}(I:∀n,(n,Bn)∈scope.names->∃c,env.cells.lookup n=some c):closureFor scope env=pure (lQ env.cells scope.names []):=by
 have go:∀(l:List (Str×BZ)) (acc:List (Str×Addr)),(∀n,(n,Bn)∈l->∃c,env.cells.lookup n=some c) ->
  (forIn l acc (λ(x:Str×BZ) (r:List (Str×Addr))=>(match x with|(name,kind)=>if (kind==Bn)=true then do let __do_lift<-cellOf env name;pure (CG ((name,__do_lift)::r)) else pure (CG r):JC (ForInStep (List (Str×Addr))))))=(pure (lQ env.cells l acc):JC (List (Str×Addr))):=by
  intro l
  induction l with
  | nil=>intro acc _;rfl|cons p r U=>
   intro acc B;obtain⟨n,k⟩:=p;rw[Fe];unfold lQ;by_cases q:(k==Bn)=true;have:=eq_of_beq q;subst this;obtain⟨c,e⟩:=B n Ar;have W:cellOf env n=pure c:=by unfold cellOf;rw[e]
   grind;simp only[q];exact U _ λm L=>B m (Al _ L)
 unfold closureFor;exact(bind_pure _).trans (go scope.names [] I)
section
variable {prog:A2} {w:AL} {A:Be} {R:FX->Ag->Prop} {s:Ag}
theorem jN(I:Nat->Ag->Prop)
 (q7:∀n s,I n s->Aw (AA prog w) A (CK it) (λr q=>match r with
  | none=>R (.ok .next) q|some v=>Aw (AA prog w) A (DP target it v) (λ_ B=>Aw (AA prog w) A (Hr target env v) (λ_ q0=>
   Aw (AA prog w) A (forIn ifs true λc r=>if r=true then do let ok<-isTrue c env (Dm c env);pure (CG ok) else pure (CG r)) (λok L=>
    if ok=true then Aw (AA prog w) A (Dm elt env) (λx q1=>
     Aw (AA prog w) A (call (.builtin "list.append") [acc,x]) (λ_ q2=>∃m,m<n/\I m q2) (λ_ _=>False) q1) (λ_ _=>False) L
    else ∃m,m<n/\I m L) (λ_ _=>False) q0) (λ_ _=>False) B) (λ_ _=>False) q) (λ_ _=>False) s)
 (n:Nat) (h:I n s) :
 DK (AA prog w) A (.compLoop (.ListComp elt [⟨target,iter,ifs,0⟩] scope pos) 0 it acc env) R s:=by
 refine codeAny_loop rfl I (λn s hI=>?_) n h;refine wpAny_noted ?_;rw[compTurn_list];refine Aa (FN (Aa (C8 (q7 n s hI) (λr q U=>?_) λ_ _ h'=>h'.elim)));cases r with
 | none=>exact Ah U|some v=>
  refine Aa (C8 U (λ_ B q3=>?_) λ_ _ h'=>h'.elim);refine Aa (C8 q3 (λ_ q0 q4=>Aa (C8 q4 (λok L W=>?_) λ_ _ h'=>h'.elim)) λ_ _ h'=>h'.elim);cases ok with
  | false=>exact Ah ⟨rfl,W⟩|true=>exact Aa (Aa (C8 W (λx q1 q5=>Aa (C8 q5 (λ_ q2 q6=>Ah (Ah ⟨rfl,q6⟩)) λ_ _ h'=>h'.elim)) λ_ _ h'=>h'.elim))
end
noncomputable def fB(X:Cx)(scope:Da)(N':List Str)(C:Addr)(s₀:Ag)(H₀:Hp)(ex:List Addr):Cx:=
 { X with env:=Ja scope (lQ X.env.cells scope.names []) C X.env,N:=N',s₀:=s₀,H₀:=H₀,outer:=X.stack,ex:=ex,fn:=λ_=>false,pn:=[],xe:=λ_ _=>False }
noncomputable def PTs(X:Cx)(ifs:List A7)(t:TT):Prop:=
 ∀(G:List (Addr×Obj)) (s:Ag) (Z:St) (H:Hp) (Q:Bool->Hp->Prop),Inv X G Z H s->t Z H Q ->
  Aw (AA X.prog X.w) X.A (forIn ifs true λc r=>if r=true then do let ok<-isTrue c X.env (Dm c X.env);pure (CG ok) else pure (CG r)) (TP X G Z Q) X.xe s
theorem aHJ:PTs X [] (λ_ H Q=>Q true H):=λG s Z H Q I h=>Ah ⟨H,I,h⟩
theorem aHK(h:PT X c t):PTs X [c] t:=λG s Z H Q I q=>wpAny_tests_one (h G s Z H Q I q)
structure eD (X:Cx) (scope:Da) (k:Nat) (caps:List Nat) (N':List Str):Prop where
 kind:scope.kind=.function
 nocell:∀y∈scope.names,y.2≠.cell
 loc:∀y∈scope.names,y.2=.local->scope.names.lookup y.1=some .local
 free:∀n,(n,Bn)∈scope.names->X.env.kindOf n=some .cell\/X.env.kindOf n=some .free
 len:N'.length=k+caps.length
 cap:∀j i,caps[j]? = some i->∃x,N'[k+j]? = some x/\X.N[i]? = some x/\scope.names.lookup x=some .free/\X.env.kindOf x=some .cell
 ndp:X.N.Nodup
noncomputable def mL(k:Nat)(caps:List Nat)(Z:St):St:=Am k none++caps.map λi=>(Z[i]?).getD none
noncomputable def aEU(k:Nat)(caps:List Nat)(wi:TI)(g:TG)(tt:TT)(te:TE):TE:=λZ H Q=>wi Z H λJ'' H1=>
 ∃W0:Nat->Nat->List V->St->Hp->Prop,(∃m,W0 0 m [] (mL k caps Z) H1)/\∀i m ys Z1 H,W0 i m ys Z1 H ->
  (J''.stop i H/\ys.length<=sizeLine/\∀p,H p=none->Q (.ref p) (upd H p (.lst ys))) \/
  (J''.go i H/\ys.length<sizeLine/\∀x H',J''.yld i H x H'->g x Z1 H' λZ2 H2=>tt Z2 H2 λb H3=>
   if b=true then te Z2 H3 λy H4=>∃m',m'<m/\W0 (i+1) m' (ys++[y]) Z2 H4 else ∃m',m'<m/\W0 (i+1) m' ys Z2 H3)
theorem HOk.track(ok:HOk P w H h)(n:H a=none)(new:fS P w (upd H a o) h a o):HOk P w (upd H a o) h:=λb u e=>by by_cases B:b=a;subst B;rw[bY] at e;grind;rw[aN B] at e;exact(ok b u e).stay (λ_ _ _ q=>q) (λc q=>by rw[aN (cB q n)];exact q) λc xs q=>by rw[aN (cB q n)];exact q
abbrev fT(its:List Ad)(n:Nat):Obj:={ cls:=.type "list",data:=.seq its.toArray n }
section
variable {X:Cx} {scope:Da} {k:Nat} {caps:List Nat} {N':List Str} {G:List (Addr×Obj)} {Z:St} {H:Hp} {s:Ag} {fp:List Addr}
theorem Inv.cellLt(I:Inv X G Z H s)(e:X.env.cells.lookup x=some c):c<s.heap.objs.size:=by obtain⟨v,q⟩:=I.cell x c e;exact q.lt
theorem gW:∀{l:List (Str×BZ)} {x:Str} {k:BZ},l.lookup x=some k->(x,k)∈l:=λh=>B0 h
theorem relabel_lookup{env:IT}:∀{names:List (Str×BZ)} {x:Str} {k:BZ},
 (names.map λ(n,k)=>if (k==Bn&&env.scope.kind==.function&&env.kindOf n==some .cell) then (n,NameKind.cell) else (n,k)).lookup x=some k ->
 (k=.cell/\names.lookup x=some .free/\env.kindOf x=some .cell)\/names.lookup x=some k
 | [],_,_,h=>by simp at h|(n,k')::r,x,k,h=>by have q:=@relabel_lookup env r x k;rw[mC] at h;grind
theorem aQm(L:eD X scope k caps N')(I:Inv X G Z H s)(f:∀b∈fp,mW X G H b)(hf:∀b∈fp,b<s.heap.objs.size) :
 (fB X scope N' (s.heap.objs.size+1) { s with heap:=s.heap.push (fT [] 0) } H (s.heap.objs.size::fp)).Ok:=by
 have U:∀b∈frs X.stack,∃o,s.heap.get? b=some o:=λb B=>by obtain⟨_,o,ho,_⟩:=I.stack.mem B;grind
 refine⟨I.ok.mod,?_,I.ok.glob,I.ok.blt,?_,λx y c h1 h2=>?_,λx hx=>?_,λx c h _=>?_,I.ok.hd,I.ok.frames,.inl rfl,λb B=>?_,λb o e=>?_,?_,λb o e B=>?_,λb B=>?_,?_,I.stkFree⟩;exact L.kind;show(s.heap.push (fT [] 0)).objs.size<=s.heap.objs.size+1;rw[Bq];grind;exact I.ok.inj x y c (dM (λn W=>I.ok.has n (L.free n W)) h1) (dM (λn W=>I.ok.has n (L.free n W)) h2);have fr:(x,Bn)∈scope.names:=by rcases hx with q|q;rcases relabel_lookup q with⟨_,z,_⟩|z;exact gW z;exact absurd rfl (L.nocell _ (gW z));rcases relabel_lookup q with⟨z,_⟩|z;cases z;exact gW z
 obtain⟨c,e⟩:=gB (nC fr);exact⟨c,e⟩;cases(h);refine⟨?_,λx c e=>?_⟩;show b≠s.heap.objs.size+1;rcases A4.mp B with z|z;rw[z];grind;grind;have e':=dM (λn W=>I.ok.has n (L.free n W)) e;rcases A4.mp B with z|z;rw[z];exact AB (I.cellLt e');exact(f b z).2.2.2.2.1 x c e';exact⟨(λb o e=>Ab _ e) b o (I.bs b o e).1,(I.bs b o e).2⟩;show X.base.objs.size<=(s.heap.push (fT [] 0)).objs.size;rw[Bq];exact G0 (AM I.ok.bsz I.sz);have lt:=Aq e;rcases A4.mp B with z|z;subst z;exact absurd (A1 lt (AM I.ok.bsz I.sz)) (Br _);rcases(f b z).2.2.2.1 with q|q;exact I.ok.noex b o e q;exact absurd (A1 lt (AM I.ok.bsz q)) (Br _);show b∉frs X.stack;intro hs;rcases A4.mp B with z|z;subst z;obtain⟨o,e⟩:=U _ hs;exact absurd (Aq e) (Br _);rcases A4.mp (I.stkSub b hs) with q|q;exact(f b z).2.1 q;exact(f b z).2.2.1 q;exact I.stack.of_keeps λb o e _=>⟨o,(λb o e=>Ab _ e) b o e,rfl⟩
theorem aEV(B:eD X scope k caps N')(h:(mL k caps Z)[j]? = some (some v)):∃q i,j=k+q/\caps[q]? = some i/\Z[i]? = some (some v):=by unfold mL at h;grind
theorem aND(U:eD X scope k caps N')(I:Inv X G Z H s)(f:∀b∈fp,mW X G H b)(hf:∀b∈fp,b<s.heap.objs.size){B:Heap}{tk:Nat}
 (q3:B.Ns (s.heap.objs.size+1) λ_=>none) (hk:∀b o,(s.heap.push (fT [] 0)).get? b=some o->B.get? b=some o) :
 Inv (fB X scope N' (s.heap.objs.size+1) { s with heap:=s.heap.push (fT [] 0) } H (s.heap.objs.size::fp)) [] (mL k caps Z) H { s with heap:=B,toks:=tk }:=by
 have L:∀{c:Addr} {v:Option Ad},s.heap.IsCell c v->B.IsCell c v:=λ{c v} ⟨o,e,d⟩=>⟨o,(λb o e=>hk b o (Ab _ e)) _ _ e,d⟩
 refine⟨aQm U I f hf,rfl,I.bare,Un.kept hk,⟨_,q3,λj x v e1 e2 e3=>?_⟩,λx c e=>?_,?_,λx c e=>?_,λp hp=>absurd (show p∈([]:List (Addr×Obj)) from hp) (by simp),I.hok.kept (λb o e=>hk b o (Ab _ e)),?_⟩;obtain⟨j',i,ej,ec,es⟩:=aEV U e2;obtain⟨y,h1,h2,h3,h4⟩:=U.cap j' i ec;have q0:N'[j]? = some x:=e1;rw[ej,h1] at q0;have ey:=A9 q0;subst ey;obtain⟨m,W,hl⟩:=I.loc;obtain⟨u,ru,lk⟩:=hl i y v h2 es (.inr (.inl h4));rcases lk with⟨k1,_⟩|⟨_,c,q2,hc⟩
 rw[h4] at k1;cases k1;refine⟨u,ru,.inr ⟨?_,c,?_,L hc⟩⟩;have q1:=e3;rcases q1 with z|z|z;rcases relabel_lookup z with⟨z,_⟩|z;cases z;grind;exact .inl z;exact .inr z;obtain⟨c',e⟩:=gB (nC (gW h3));have e':=dM (λn W=>I.ok.has n (U.free n W)) e;rw[q2] at e';cases e';exact e;obtain⟨v,q⟩:=I.cell x c (dM (λn W=>I.ok.has n (U.free n W)) e);exact⟨v,L q⟩;exact I.hok.fresh (CT _);exact I.freeC x c (dM (λn W=>I.ok.has n (U.free n W)) e);show(mL k caps Z).length=N'.length;unfold mL;rw[lA,AK,lM,U.len]
theorem yV{tg q0 elt:A7}{q5:List A7}{pos:Dy}{g:TG}{tt:TT}{te:TE}{it:Addr}{tn:Nat->Heap->Prop}{J'':It}{RR:Ad->Addr->FX->Ag->Prop}{E:Ad->Ag->Prop}{Q:VK}
 (CS:eD X scope k caps N') (hc:X.calm=true) (I:Inv X G Z H s) (T:vP X.prog X.w X.K tg J'' fp it tn) (st:tn 0 s.heap) (f:∀b∈fp,mW X G H b)
 (x2:∀C s₀ H₀ ex,PG (fB X scope N' C s₀ H₀ ex) tg g/\PTs (fB X scope N' C s₀ H₀ ex) q5 tt/\PE (fB X scope N' C s₀ H₀ ex) elt te)
 (hw:∃W0:Nat->Nat->List V->St->Hp->Prop,(∃m,W0 0 m [] (mL k caps Z) H)/\∀i m ys Z1 H,W0 i m ys Z1 H ->
  (J''.stop i H/\ys.length<=sizeLine/\∀p,H p=none->Q (.ref p) (upd H p (.lst ys))) \/
  (J''.go i H/\ys.length<sizeLine/\∀x H',J''.yld i H x H'->g x Z1 H' λZ2 H2=>tt Z2 H2 λb H3=>
   if b=true then te Z2 H3 λy H4=>∃m',m'<m/\W0 (i+1) m' (ys++[y]) Z2 H4 else ∃m',m'<m/\W0 (i+1) m' ys Z2 H3))
 (hR:∀D C s' H' m,Inv X G Z H' s'->s'.heap.Ns C m->s.heap.objs.size<C->(∀(Z':St) (q2:Ag) (h':Heap),Inv X G Z' H' q2->B9 C q2.heap h'->Inv X G Z' H' { q2 with heap:=h' })->Q (.ref D) H'->RR (.ref D) C (.ok .next) s') :
 Aw (AA X.prog X.w) X.A (newList []) (λacc z5=>Aw (AA X.prog X.w) X.A (newFunctionEnv scope X.env.globals (lQ X.env.cells scope.names []) [] X.env.qual none .none (some X.env)) (λw4 z6=>
  DK (AA X.prog X.w) X.A (.compStart (.ListComp elt [⟨tg,q0,q5,0⟩] scope pos) 0 (.ref it) acc { w4 with scope:=IG scope X.env }) (RR acc w4.locals) z6) E z5) E s:=by
 obtain⟨W0,⟨m0,w0⟩,z7⟩:=hw;have hf:∀b∈fp,b<s.heap.objs.size:=λb L=>by obtain⟨o,e,_⟩:=T.obj 0 _ st b L;exact Aq e
 refine Bm (wpAny_newFunctionEnv CS.nocell (by grind) (λU q3 q4=>?_) CS.kind);have hsz:(s.heap.push (fT [] 0)).objs.size=s.heap.objs.size+1:=Bq _ _;have x4:U.Ns (s.heap.objs.size+1) λ_=>none:=by have:=q3;rw[show({ s with heap:=s.heap.push (fT [] 0) }:Ag).heap.objs.size=s.heap.objs.size+1 from hsz] at this;exact this
 have hk:∀b o,(s.heap.push (fT [] 0)).get? b=some o->U.get? b=some o:=λb o e=>q4.extBut b o (AB (by have:=Aq e;rw[hsz] at this;grind)) (Ab _ e);have z4:∀b∈frs X.stack,b<s.heap.objs.size:=λb L=>by obtain⟨_,o,ho,_⟩:=I.stack.mem L;exact Aq ho
 have w5:∀(pl:List (Addr×Obj)),(∀p∈pl,p.1=s.heap.objs.size)->∀{H':Hp},(∀b∈fp,H' b=none)->∀b∈fp,mW (fB X scope N' (s.heap.objs.size+1) { s with heap:=s.heap.push (fT [] 0) } H (s.heap.objs.size::fp)) pl H' b:=by
  intro pl x6 H' hn b L;refine⟨hn b L,(λ{b} L=>AB (CN L)) (hf b L),λz=>?_,.inl (Al _ L),λx c e=>(f b L).2.2.2.2.1 x c (dM (λn hn=>I.ok.has n (CS.free n hn)) e),λp hp z=>?_⟩;rcases A4.mp (I.stkSub b z) with q|q;exact(f b L).2.1 q;exact(f b L).2.2.1 q;have x5:p∈pl:=by simpa[fB] using hp
  rw[x6 p x5] at z;grind
 have q1:∀{Z':St} {H':Hp} {s':Ag} {B:List Ad} {n:Nat} {pl:List (Addr×Obj)},Inv (fB X scope N' (s.heap.objs.size+1) { s with heap:=s.heap.push (fT [] 0) } H (s.heap.objs.size::fp)) pl Z' H' s' ->
  s'.heap.get? s.heap.objs.size=some (fT B n)->H' s.heap.objs.size=none->Inv (fB X scope N' (s.heap.objs.size+1) { s with heap:=s.heap.push (fT [] 0) } H (s.heap.objs.size::fp)) [(s.heap.objs.size,fT B n)] Z' H' s':=by
  intro Z' H' s' B n pl J'' e nn;refine J''.pins_of λp hp=>?_;have:p=(s.heap.objs.size,fT B n):=by simpa using hp
  subst this;refine⟨e,nn,AB (C6 _),λz=>absurd (z4 _ z) (Br _),λv z=>by cases z⟩
 have start:DK (AA X.prog X.w) X.A (.compLoop (.ListComp elt [⟨tg,q0,q5,0⟩] scope pos) 0 (.ref it) (.ref s.heap.objs.size) (Ja scope (lQ X.env.cells scope.names []) (s.heap.objs.size+1) X.env))
  (RR (.ref s.heap.objs.size) (s.heap.objs.size+1)) { s with heap:=U,toks:=s.toks+([]:List (Str×Ad)).length }:=by
  refine jN (λn s'=>∃i ys B cnt Z1 H',Inv (fB X scope N' (s.heap.objs.size+1) { s with heap:=s.heap.push (fT [] 0) } H (s.heap.objs.size::fp)) [(s.heap.objs.size,fT B cnt)] Z1 H' s' /\
   tn i s'.heap/\(∀b∈fp,H' b=none)/\bJ ys B/\W0 i n ys Z1 H') ?_ m0 ⟨0,[],[],0,_,H,q1 (aND CS I f hf x4 hk) (hk _ _ (An _ rfl)) I.fresh,T.keep _ _ _ st λb _ o e=>hk b o (Ab _ e),λb L=>(f b L).1,.nil,w0⟩
  rintro n s3 ⟨i,ys,B,cnt,Z1,H3,I3,z3,z1,q9,w3⟩;obtain⟨v0,v1,_⟩:=I3.pin (s.heap.objs.size,fT B cnt) (by simp[fB]);have w6:∀p∈[(s.heap.objs.size,fT B cnt)],p.1=s.heap.objs.size:=λp hp=>by grind
  rcases z7 i n ys Z1 H3 w3 with⟨stop,hz,qn⟩|⟨go,hz,step⟩
  refine thn (T.done (fB X scope N' (s.heap.objs.size+1) { s with heap:=s.heap.push (fT [] 0) } H (s.heap.objs.size::fp)) rfl rfl rfl hc i _ s3 _ H3 _ I3 (w5 _ w6 z1) z3 stop) λr s4 ⟨hr,I4⟩=>?_;subst hr;obtain⟨x0,z2,_⟩:=I4.pin (s.heap.objs.size,fT B cnt) (by simp[fB]);have u4:=I4.base;have nb:∀{b:Addr} {o:Obj},s.heap.get? b=some o->b∉fp->b∉s.heap.objs.size::fp:=λ{b o} e L z=>by rcases A4.mp z with z|z;exact absurd (Aq e) (by rw[z];grind);exact L z
  have x9:∀{b:Addr} {o:Obj},s.heap.get? b=some o->b≠s.heap.objs.size:=λ{b o} e=>AB (Aq e);have z0:∀{b:Addr} {o:HO},H b=some o->b≠s.heap.objs.size:=λ{b o} e=>cB e I.fresh;have u:Un (frs X.stack) fp H (upd H3 s.heap.objs.size (.lst ys)) s.heap s4.heap:={
   keep:=λb o e nn L hx=>u4.keep b o (Ab _ e) nn L (nb e hx)
   slot:=λb o e nn L hx=>u4.slot b o (Ab _ e) nn L (nb e hx)
   free:=λb o e nn hx=>by rw[aN (x9 e)];exact u4.free b o (Ab _ e) nn (nb e hx)
   there:=λb o e hx=>u4.there b o (Ab _ e) (nb e hx)
   tups:=λb xs e=>by rw[aN (z0 e)];exact u4.tups b xs e
   frzs:=λb o u e=>by rw[aN (z0 e)];exact u4.frzs b o u e
   tbls:=λb ps e=>by rw[aN (z0 e)];exact u4.tbls b ps e }
  obtain⟨m4,x3,_⟩:=I4.loc;refine hR s.heap.objs.size (s.heap.objs.size+1) s4 _ m4 (I.call' I4.os u (HOk.track I4.hok z2 ⟨hz,B,cnt,q9,x0⟩) I4.bare λb L=>⟨(f b L).2.2.2.1,(f b L).2.1,(f b L).2.2.2.2.1,(f b L).2.2.2.2.2⟩) x3 (C6 _) (λZ' q2 h' I6 x7=>?_) (qn _ z2);have:=I6.turned (t':=q2.toks) (λb o L e=>x7.extBut b o L e) (by rw[aN (BO (C6 _))];exact I4.free)
   (BO (CN I.lt)) (.inr (G0 I.sz)) (λx c e=>AB (CN (I.cellLt e))) λp hp z=>?_
  exact this;have:=Aq (I.pin p hp).1;rw[z] at this;grind;refine thn (T.item (fB X scope N' (s.heap.objs.size+1) { s with heap:=s.heap.push (fT [] 0) } H (s.heap.objs.size::fp)) rfl rfl rfl hc i _ s3 _ H3 _ I3 (w5 _ w6 z1) z3 go) λr s4 ⟨u,hr,h4⟩=>?_;subst hr;refine thn h4 λ_ s5 ⟨x,H5,I5,r5,y5,w9,z9⟩=>?_;obtain⟨hg,ht,he⟩:=x2 (s.heap.objs.size+1) { s with heap:=s.heap.push (fT [] 0) } H (s.heap.objs.size::fp);have keep:∀{Z7:St} {H7:Hp} {s7:Ag},Inv (fB X scope N' (s.heap.objs.size+1) { s with heap:=s.heap.push (fT [] 0) } H (s.heap.objs.size::fp)) ([(s.heap.objs.size,fT B cnt)]++qO fp s5.heap) Z7 H7 s7 ->
   tn (i+1) s7.heap/\(∀b∈fp,H7 b=none)/\s7.heap.get? s.heap.objs.size=some (fT B cnt)/\H7 s.heap.objs.size=none:=by intro Z7 H7 s7 I7;obtain⟨x1,x8,_⟩:=I7.pin (s.heap.objs.size,fT B cnt) (by simp[fB]);refine⟨T.keep _ _ _ w9 λb L o e=>(I7.pin (b,o) (A5 _ (A5 _ (iQ L e)))).1,λb L=>?_,x1,x8⟩;obtain⟨o,e,d⟩:=T.obj _ _ w9 b L;exact(I7.pin (b,o) (A5 _ (A5 _ (iQ L e)))).2.1
  refine thn (hg _ s5 _ H5 x u _ (I5.pinned (w5 _ w6 z9) (T.obj _ _ w9)) r5 (step x H5 y5)) λ_ s6 ⟨Z6,H6,I6,q6⟩=>?_;refine thn (ht _ s6 Z6 H6 _ I6 q6) λb s7 ⟨H7,I7,q7⟩=>?_;cases b with
  | false=>rw[if_neg bN] at q7 ⊢;obtain⟨m',hm,w7⟩:=q7;obtain⟨t7,f7,d7,n7⟩:=keep I7;exact⟨m',hm,i+1,ys,B,cnt,Z6,H7,q1 I7 d7 n7,t7,f7,q9,w7⟩|true=>
   rw[if_pos rfl] at q7 ⊢;refine thn (he _ s7 Z6 H7 _ I7 q7) λyv s8 ⟨y,H8,I8,r8,q8⟩=>?_;obtain⟨m',hm,w8⟩:=q8;obtain⟨t8,f8,d8,n8⟩:=keep I8;have hl:=q9.length;refine Em Ga ⟨_,d8,rfl⟩ FI (Fx _ _) (Gw s.heap.objs.size B.toArray cnt yv (by rw[Aj];omega)) ⟨d8,?_⟩;have q:=GF d8 (λa=>a.push yv);have e':B.toArray.push yv=(B++[yv]).toArray:=by simp
   rw[e'] at q;have z8:=((I8.unpinned).pins_of (pins':=[]) (λp hp=>absurd hp (by simp))).turned (t':=s8.toks) (h':=s8.heap.update s.heap.objs.size (Dr λa=>a.push yv)) (λb o L e=>(CB s8.heap _ (Dj L)).trans e) n8
    (AB (C6 _)) (.inl Ar) (λx c e=>AB (I.cellLt (dM (λn hn=>I.ok.has n (CS.free n hn)) e))) (λp hp=>absurd (show p∈([]:List (Addr×Obj)) from by simpa[fB] using hp) (by simp))
   refine⟨m',hm,i+1,ys++[y],B++[yv],_,Z6,H8,q1 z8 q n8,?_,f8,q9.append (.cons r8 .nil),w8⟩;refine T.keep _ _ _ t8 λb L o e=>(CB s8.heap _ ?_).trans e;grind
 have W:∀C,C=s.heap.objs.size+1->DK (AA X.prog X.w) X.A (.compLoop (.ListComp elt [⟨tg,q0,q5,0⟩] scope pos) 0 (.ref it) (.ref s.heap.objs.size) (Ja scope (lQ X.env.cells scope.names []) C X.env))
  (RR (.ref s.heap.objs.size) C) { s with heap:=U,toks:=s.toks+([]:List (Str×Ad)).length }:=by rintro C rfl;exact start
 exact codeAny_compStart_list (W _ hsz) (T.self X.A 0 _ _ _ (T.keep _ _ _ st λb _ o e=>hk b o (Ab _ e)) (W _ hsz))
end
section
variable {X:Cx} {scope:Da} {k:Nat} {caps:List Nat} {N':List Str} {tg iter elt:A7} {ifs:List A7} {pos:Dy} {wi:TI} {g:TG} {tt:TT} {te:TE}
theorem aBX(L:eD X scope k caps N')(hc:X.calm=true)(hi:PI X tg iter wi)
 (U:∀C s₀ H₀ ex,PG (fB X scope N' C s₀ H₀ ex) tg g/\PTs (fB X scope N' C s₀ H₀ ex) ifs tt/\PE (fB X scope N' C s₀ H₀ ex) elt te) (hs:∀x,BU iter X.env x=pure x) :
 PE X (.ListComp elt [⟨tg,iter,ifs,0⟩] scope pos) (aEU k caps wi g tt te):=by intro G s Z H Q I h;rw[eval_ListComp];refine E3 rfl hs (jB λn W=>I.ok.has n (L.free n W)) L.kind L.loc (thn (hi G s Z H _ I h) λxv s1 h1=>thn h1 λq2 s2 h2=>?_);obtain⟨it,fp,tn,J'',H2,e,I2,T,q1,f2,hw⟩:=h2;subst e;exact yV L hc I2 T q1 f2 U hw λD C s' H' m J'' W _ B q=>⟨m,W,λh' q0=>⟨.ref D,H',B Z s' h' J'' q0,rfl,q⟩⟩
theorem aAP(B:eD X scope k caps N')(hc:X.calm=true)(hi:PI X tg iter wi)
 (U:∀C s₀ H₀ ex,PG (fB X scope N' C s₀ H₀ ex) tg g/\PTs (fB X scope N' C s₀ H₀ ex) ifs tt/\PE (fB X scope N' C s₀ H₀ ex) elt te) (hs:∀x,BU iter X.env x=pure x)
 (hN:X.N.Nodup) (W:X.N[i]? = some x) (hx:Loc X.env.scope x) (hf:X.fn x=true\/X.env.scope.names.lookup x=some .local) :
 PS X (.Assign [.Name x pos'] (.ListComp elt [⟨tg,iter,ifs,0⟩] scope pos) spos) (aJW (aEU k caps wi g tt te) (yD i)):=by
 have hb:∃b,Iw (.ListComp elt [⟨tg,iter,ifs,0⟩] scope pos) (some (.Name x pos')) spos.line X.env=pure b:=⟨_,rfl⟩
 obtain⟨b,hb⟩:=hb;cases b with
 | false=>exact vO hN W hx (aBX B hc hi U hs) hb hf|true=>intro G s Z H D I h;rw[exec_Assign_Name_used x pos' _ spos hb];refine Aa (FN (Aa ?_));refine Aa (E3 rfl hs (jB λn hn=>I.ok.has n (B.free n hn)) B.kind B.loc (thn (hi G s Z H _ I h) λxv s1 h1=>thn h1 λq4 s2 h2=>?_));obtain⟨it,fp,tn,J'',H2,e,I2,T,q3,f2,hw⟩:=h2;subst e;refine yV (Q:=λv H'=>D.nx (Z.set i (some v)) H') B hc I2 T q3 f2 U hw λD' C s' H' m J'' hn lt L q=>?_;refine Gq (tY (v:=V.ref D') J'' hN W hx rfl (λq2 J' q1=>?_) hf);obtain⟨a,sb,ha⟩:=q1;refine⟨m,hn.sameBut sb ?_,λh' q0=>?_⟩;rcases ha with z|z;rw[z];exact BO (Gz I2.lt lt);exact BO (Gz (I2.cellLt z) lt);exact Ah (Ah ⟨_,H',L _ q2 h' J' q0,q⟩)
end
end L2
namespace Hp
open PySem PySem.Spec PyProof.Rows L2
noncomputable def Rr(K:Fg)(H H':Hp)(Y:Addr->Prop)(r:Rt)(u:V):Prop:=
 if r.2.1=true then ∃a xs ds,u=.ref a/\r.1=.lst ds/\H a=none/\H' a=some (.lst xs)/\Reps K H' (λb=>b=a\/Y b\/(r.2.2=false/\H b≠none)) ds xs
 else Rep K H' (λb=>Y b\/(r.2.2=false/\H b≠none)) r.1 u
noncomputable def spF(K:Fg)(P:Pg)(n:Nat)(f:Nat):Sp:=λvs H Q _=>∃(ds:List D) (Y:Addr->Prop),(∀a,Y a->H a≠none)/\Reps K H Y ds vs/\RE (call P n f ds) λr=>∀u H',Tk K H'->aX H H'->Rr K H H' Y r u->Q u H'
noncomputable def bltNames:List Str:=["len", "list", "tuple", "min", "max", "abs", "int", "str", "sum", "all", "any", "sorted", "bool", "range", "zip", "enumerate", "reversed", "set", "isinstance", "dict", "repr"]
structure Md (X:Cx) (P:Pg) (Γ:Ct) (n:Nat):Prop where
 fn:∀(f:Nat) (x:Str),Γ.fns[f]? = some x->∃fa fd ps,X.mg x=some (.ref fa)/\CQ X.K (.ref fa)=true/\lX X.K fd ps []/\pL X.prog X.w X.K X.mg X.base CX0 n fa fd ps (spF X.K P n f)
 blt:∀x∈bltNames,X.mg x=none
 cns:∀(x:Str) (d:D),Γ.cns.lookup x=some d->∃u v,X.mg x=some u/\cC v u/\∀H ex,Rep X.K H ex d v
 tab:∀(i:Nat) (x:Str),Γ.tbs[i]? = some x->∃a t,X.mg x=some (.ref a)/\P.tabs[i]? = some t/\uI X.prog X.w X.K a t
structure Mc (X:Cx) (P:Pg) (Γ:Ct) (n:Nat):Prop where
 md:Md X P Γ n
 N:X.N=Γ.N
 nd:X.N.Nodup
 sc:X.env.scope.names=Γ.sc
 calm:X.calm=true
 room:mI n X.A
 xe:X.xe=λ_ _=>False
 st:∀x:Str,yS Γ x=true->X.fn x=true\/X.env.scope.names.lookup x=some .local
 fk:X.env.scope.kind=.function
section
variable {X:Cx} {P:Pg} {Γ:Ct} {n:Nat}
theorem Mc.units(M:Mc X P Γ n):X.A.units+200<Ej:=by have:=M.room.un;omega
theorem Mc.vis(M:Mc X P Γ n)(h:aEQ Γ x=true):Vis X.env.scope x:=by
 unfold aEQ at h;unfold Vis;rw[M.sc];cases q:Γ.sc.lookup x with
 | none=>rw[q] at h;cases h|some k=>rw[q] at h;cases k <;> first|exact .inl rfl|exact .inr (.inl rfl)|exact .inr (.inr rfl)|cases h
theorem Mc.loc(M:Mc X P Γ n)(h:yS Γ x=true):L2.Loc X.env.scope x:=by
 unfold yS at h;unfold L2.Loc;rw[M.sc];cases q:Γ.sc.lookup x with
 | none=>rw[q] at h;cases h|some k=>rw[q] at h;cases k <;> first|exact .inl rfl|exact .inr rfl|cases h
theorem Mc.gl(M:Mc X P Γ n)(h:dY Γ x=true):Gl X x:=by
 unfold dY at h;unfold Gl;show X.env.scope.names.lookup x=_;rw[M.sc];cases q:Γ.sc.lookup x with
 | none=>rw[q] at h;cases h|some k=>rw[q] at h;cases k <;> first|rfl|cases h
theorem cE(h:eL x=true):(x==("__debug__" : Str))=false:=by unfold eL at h;grind
theorem kO(h:eL x=true):(x==("__classdict__" : Str))=false:=by unfold eL at h;grind
theorem aKD:∀{d q:D},eqK d q=true->d=q:=by intro d q h;cases d <;> cases q <;> simp[eqK] at h <;> first|rfl|(subst h;rfl)
noncomputable def bE:A7->Bool
 | .Starred _ _=>false|.Slice _ _ _ _=>false|.Set _ _ _=>false|_=>true
theorem aEW{α:Type}{o:Option α}{f:α->Bool}(h:oB o f=true):∃a,o=some a/\f a=true:=by
 cases o with
 | none=>cases h|some a=>exact⟨a,rfl,h⟩
theorem aJ{α:Type}{q:α->Prop}{o:Option { a:α // q a }}{f:α->Bool}(h:oS o f=true):∃a,q a/\f a=true:=by
 cases o with
 | none=>cases h|some a=>exact⟨a.1,a.2,h⟩
theorem aQ{c:E}{e:A7}(h:bC Γ c e=true):bE e=true:=by
 cases c with
 | c d=>rcases(BY _ _).mp (h) with h|h;obtain⟨_,⟨_,_,rfl⟩,_⟩:=aJ h;rfl;obtain⟨_,⟨_,rfl⟩,_⟩:=aJ h;rfl
 | v i=>obtain⟨_,⟨_,rfl⟩,_⟩:=aJ h;rfl|op o a b=>obtain⟨_,⟨_,rfl⟩,_⟩:=aJ h;rfl|neg a=>obtain⟨_,⟨_,rfl⟩,_⟩:=aJ h;rfl|nt a=>obtain⟨_,⟨_,rfl⟩,_⟩:=aJ h;rfl|an a b=>obtain⟨_,rfl,_⟩:=aJ h;rfl|orr a b=>obtain⟨_,rfl,_⟩:=aJ h;rfl|ife t a b=>obtain⟨_,⟨_,rfl⟩,_⟩:=aJ h;rfl|cmp o a b=>obtain⟨_,⟨_,rfl⟩,_⟩:=aJ h;rfl|dget j a=>obtain⟨_,⟨_,rfl⟩,_⟩:=aJ h;rfl|sset a=>obtain⟨_,⟨_,_,rfl⟩,_⟩:=aJ h;rfl|cmp2 q B a b c=>obtain⟨_,⟨_,rfl⟩,_⟩:=aJ h;rfl|idx a b=>obtain⟨_,⟨_,rfl⟩,_⟩:=aJ h;rfl|sli a lo hi=>obtain⟨_,⟨_,rfl⟩,_⟩:=aJ h;rfl|tup es=>obtain⟨_,⟨_,_,rfl⟩,_⟩:=aJ h;rfl|lst es=>obtain⟨_,⟨_,rfl⟩,_⟩:=aJ h;rfl|call f es=>obtain⟨_,⟨_,_,rfl⟩,_⟩:=aJ h;rfl|bi b es=>obtain⟨_,⟨_,_,rfl⟩,_⟩:=aJ h;rfl|isi a cs=>obtain⟨_,⟨_,_,rfl⟩,_⟩:=aJ h;rfl|comp k caps t it cond elt=>obtain⟨_,⟨_,rfl⟩,_⟩:=aJ h;rfl|numset a=>obtain⟨_,⟨_,_,rfl⟩,_⟩:=aJ h;rfl|tget i a=>obtain⟨_,⟨_,_,rfl,_⟩,_⟩:=aJ h;rfl
theorem aC(h:bE e=true):Bj (e::es) env=(false,Dm e env)::Bj es env:=by cases e <;> first|rfl|cases h
theorem jO:∀{cs:Es} {es:List A7},chkEs Γ cs es=true->es.all bE=true
 | .nil,[],_=>rfl|.nil,_::_,h=>by cases h|.cons _ _,[],h=>by cases h|.cons c cs,e::es,h=>by simp only[chkEs,bA] at h;rw[Dg,aQ h.1,jO h.2];rfl
theorem iS:∀{es:List A7},es.all bE=true->(E2 pos (Bj es env)).any (·.1)=false
 | [],_=>rfl|e::es,h=>by rw[Dg,bA] at h;rw[aC h.1];show(false||(E2 pos (Bj es env)).any (·.1))=false;rw[iS h.2];rfl
theorem iT(h:bE e=true):aBI e:=by intro o i;cases e <;> first|rfl|cases h
theorem oJ(h:bE e=true):∀x,BU e env x=pure x:=by intro x;cases e <;> first|rfl|cases h
theorem rD(h:bE e=true):FO op e=false:=by cases e <;> first|rfl|cases h
variable {RT Y J:Addr->Prop} {Z:Sg} {pos:Dy}
abbrev WE(X:Cx)(P:Pg)(n:Nat)(RT Y J:Addr->Prop)(Z:Sg)(c:E):TE:=wE X P (call P n) RT Y J Z c
abbrev WT(X:Cx)(P:Pg)(n:Nat)(RT Y J:Addr->Prop)(Z:Sg)(c:E):TT:=wT X P (call P n) RT Y J Z c
abbrev WA(X:Cx)(P:Pg)(n:Nat)(RT Y J:Addr->Prop)(Z:Sg)(c:Es):TA:=wA X P (call P n) RT Y J Z c
theorem RE.bind'{α q:Type}{x:R α}{f:α->R q}{p:q->Prop}(h:RE (x >>= f) p):RE x λa=>RE (f a) p:=by rwa [RE.bind] at h
theorem wE.one{p:Vl->Prop}{Q:V->Hp->Prop}(S:Sx X.K RT Y J Z ZV H)(h:RE (ev P (call P n) Z a) p)
 (f:∀x u H',p x->Tk X.K H'->Sx X.K RT Y J Z ZV H'->Ro X.K RT Y J Z ZV H H' x u->Q u H'):WE X P n RT Y J Z a ZV H Q:=
 ⟨S,h.mono λx q u H' t r=>f x u H' q t (S.grow r.1 t) r⟩
theorem aQn(ha:PE X ea (WE X P n RT Y J Z a))(hb:PE X eb (WE X P n RT Y J Z b)):PE X (.BinOp ea o eb pos) (WE X P n RT Y J Z (.op o a b)):=by
 intro G s ZV H Q I hw;obtain⟨S,h⟩:=hw;have h:=RE.bind' (h);refine wpAny_BinOp (thn (ha G s ZV H (λux H1=>WE X P n RT Y J Z b ZV H1 λuy q=>∃x y,Sx X.K RT Y J Z ZV q/\aX H q/\Rv X.K RT Y J Z ZV q x ux/\Rv X.K RT Y J Z ZV q y uy/\(x.fr=true->∃a xs,ux=.ref a/\q a=some (.lst xs))/\RE (opD o x y) (Wn X RT Y J Z ZV H Q)) I
  (wE.one S h λx u H1 W t1 S1 r1=>wE.one S1 (RE.bind' W) λy u' q hy t2 L B=>⟨x,y,L,r1.1.trans B.1,(r1.rv S).grow B.1,B.rv S1,λU=>?_,hy⟩)) λv s1 ⟨x',H1,I1,rx,q1⟩=>thn (hb G s1 ZV H1 _ I1 q1) λu s2 ⟨y',q,I2,ry,q2⟩=>?_)
 have:=r1.2;rw[if_pos U] at this;obtain⟨a',xs,ds,e1,_,_,e4,_⟩:=this;exact⟨a',xs,e1,B.1 _ _ e4⟩;obtain⟨x,y,L,sm,W,hy,U,h⟩:=q2;exact aES I2 L rx ry W hy U (h.mono λv hv u H' t r=>hv u H' t (r.from sm))
theorem aEX(L:PE X ea (WE X P n RT Y J Z a)):PE X (.UnaryOp .USub ea pos) (WE X P n RT Y J Z (.neg a)):=by refine(aNa aKe L).imp λZV H Q t ⟨S,h⟩=>?_;refine wE.one S (RE.bind' (h)) λx u H1 q W U B=>?_;split at q;rename_i i I;exact⟨i,(B.rv S).int I,λt'=>q _ _ t' (Ro.cl B.1 rfl)⟩;exact q.elim
theorem aEY{x:Vl}(B:Rv X.K RT Y J Z ZV H x u)(h:aEO x.d=some k):aHp X.K u H k:=by unfold aEO at h;split at h;rename_i d;rw[B.non d];exact(A9 h).symm;rename_i b d;rw[B.bl d];exact(A9 h).symm;rename_i i d;rw[B.int d];exact(A9 h).symm;cases h;rename_i ds d;obtain⟨a,xs,e,q,r⟩:=B.tup d;rw[e];refine .inr (.inl ⟨xs,q,?_⟩);rw[<-A9 h];have:=r.length;grind;rename_i ds d;obtain⟨a,xs,e,q,_,r⟩:=B.lst d;rw[e];refine .inl ⟨xs,q,?_⟩;rw[<-A9 h];have:=r.length;grind
theorem RE.tru{x:Vl}{p:Bool->Prop}(h:RE (jJ x) p):∃k,aEO x.d=some k/\p k:=by
 unfold jJ at h;cases q:aEO x.d with
 | none=>rw[q] at h;exact h.elim|some k=>rw[q] at h;exact⟨k,rfl,h⟩
theorem aNE(ha:PE X ea (WE X P n RT Y J Z a)):PE X (.UnaryOp .Not ea pos) (WE X P n RT Y J Z (.nt a)):=by intro G s ZV H Q I hw;obtain⟨S,h⟩:=hw;refine UnaryOp_ (thn (ha G s ZV H (λu H1=>∃k,aHp X.K u H1 k/\Q (.bl (!k)) H1) I (wE.one S (RE.bind' (h)) λx u H1 hx t1 S1 L=>?_)) λv s1 ⟨u,H1,W,ru,k,B,q⟩=>?_);obtain⟨k,B,hp⟩:=RE.tru (RE.bind' hx);exact⟨k,aEY (L.rv S) B,(hp) _ _ t1 (Ro.cl L.1 rfl)⟩;refine not_of (thn (aEz G s1 ZV H1 u v (λk' H'=>k'=k/\H'=H1) W ru ⟨k,B,rfl,rfl⟩) λb s2 ⟨U,I2,e1,e2⟩=>?_);subst e1 e2;exact⟨.bl (!b),U,I2,rfl,q⟩
theorem uL{e:A7}(I:PE X e (WE X P n RT Y J Z c))(U:∀q,isTrue e X.env q=(do let v<-q;J0 e.pos;FC [v] (truthy v)))
 (L:∀p,RE (tst P (call P n) Z c) p->RE (ev P (call P n) Z c) λx=>RE (jJ x) p):PT X e (WT X P n RT Y J Z c):=by refine(aEA I U).imp λZV H Q t ⟨S,h⟩=>?_;refine wE.one S (L _ h) λx u H1 hx t1 S1 B=>?_;obtain⟨k,W,hp⟩:=RE.tru hx;exact⟨k,aEY (B.rv S) W,λt'=>hp _ t' B.1⟩
theorem aNF(W:PE X ea (WE X P n RT Y J Z a))(hb:PE X (.BoolOp .And (U::r) pos) (WE X P n RT Y J Z b)):PE X (.BoolOp .And (ea::U::r) pos) (WE X P n RT Y J Z (.an a b)):=by refine(aJQ W hb).imp λZV H Q t ⟨S,h⟩=>?_;refine wE.one S (RE.bind' (h)) λx u H1 q t1 L B=>?_;split at q;rename_i I;refine⟨true,(B.rv S).bl I,?_⟩;rw[if_pos rfl];exact⟨L,q.mono λv hv u H' t r=>λ_=>hv u H' t (r.from B.1)⟩;rename_i I;refine⟨false,(B.rv S).bl I,?_⟩;rw[if_neg bN];exact λt'=>q _ _ t' (Ro.cl B.1 rfl);exact q.elim
theorem aJh(W:PE X ea (WE X P n RT Y J Z a))(hb:PE X (.BoolOp .Or (U::r) pos) (WE X P n RT Y J Z b)):PE X (.BoolOp .Or (ea::U::r) pos) (WE X P n RT Y J Z (.orr a b)):=by refine(aMQ W hb).imp λZV H Q t ⟨S,h⟩=>?_;refine wE.one S (RE.bind' (h)) λx u H1 q t1 L B=>?_;split at q;rename_i I;refine⟨true,(B.rv S).bl I,?_⟩;rw[if_pos rfl];exact λt'=>q _ _ t' (Ro.cl B.1 rfl);rename_i I;refine⟨false,(B.rv S).bl I,?_⟩;rw[if_neg bN];exact⟨L,q.mono λv hv u H' t r=>λ_=>hv u H' t (r.from B.1)⟩;exact q.elim
theorem aNG(W:PT X et (WT X P n RT Y J Z t))(L:PE X ea (WE X P n RT Y J Z a))(U:PE X eb (WE X P n RT Y J Z b)):PE X (.IfExp et ea eb pos) (WE X P n RT Y J Z (.ife t a b)):=by
 refine(aEm W L U).imp λZV H Q t0 ⟨S,h⟩=>?_;refine⟨S,(RE.bind' (h)).mono λk q H1 I s1=>?_⟩;cases k with
 | true=>rw[if_pos rfl] at q ⊢;exact⟨S.grow s1 I,q.mono λv B u H' t r=>λ_=>B u H' t (r.from s1)⟩|false=>rw[if_neg bN] at q ⊢;exact⟨S.grow s1 I,q.mono λv B u H' t r=>λ_=>B u H' t (r.from s1)⟩
noncomputable def w2(X:Cx)(P:Pg)(n:Nat)(RT Y J:Addr->Prop)(Z:Sg)(ZV:L2.St)(H:Hp)(p:Vl->Vl->Prop)(ux uy:V)(H2:Hp):Prop:=
 ∃x y,Sx X.K RT Y J Z ZV H2/\aX H H2/\Rv X.K RT Y J Z ZV H2 x ux/\Rv X.K RT Y J Z ZV H2 y uy/\p x y
theorem kP(M:Mc X P Γ n)(o:CmpOp):OpR X (BI o) (λB L H Q=>∃(Z:Sg) (ZV:L2.St) (x y:Vl) (k:Bool),Rv X.K RT Y J Z ZV H x B/\Rv X.K RT Y J Z ZV H y L/\cZ o x.d y.d=some k/\Q (.bl k) H):=by intro G s ZV H B L v u Q I rx ry h;obtain⟨Z',U,x,y,k,hx,hy,W,q⟩:=h;exact aDh I M.units rx ry hx hy W q
theorem aNH(M:Mc X P Γ n)(I:PE X ea (WE X P n RT Y J Z a))(L:PE X eb (WE X P n RT Y J Z b))(q:bE eb=true):PE X (.Compare ea [o] [eb] pos) (WE X P n RT Y J Z (.cmp o a b)):=by refine(aHn (kP (RT:=RT) (Y:=Y) (J:=J) M o) I L (rD q)).imp λZV H Q t ⟨S,h⟩=>?_;refine wE.two S ((RE.bind' (h)).mono λx B=>RE.bind' B) λx y ux uy H2 q t2 s2 S2 B W=>?_;split at q;rename_i k U;exact⟨Z,ZV,x,y,k,B,W,U,λt'=>q _ _ t' (Ro.cl s2 rfl)⟩;exact q.elim
theorem cA(M:Mc X P Γ n)(I:PE X ea (WE X P n RT Y J Z a))(L:PE X eb (WE X P n RT Y J Z b))(q:bE eb=true):PT X (.Compare ea [o] [eb] pos) (WT X P n RT Y J Z (.cmp o a b)):=by refine(aHo (kP (RT:=RT) (Y:=Y) (J:=J) M o) I L (rD q)).imp λZV H Q t ⟨S,h⟩=>?_;refine wE.two S ((RE.bind' (h)).mono λx B=>RE.bind' B) λx y ux uy H2 q t2 s2 S2 B W=>?_;split at q;rename_i k U;exact⟨Z,ZV,x,y,k,B,W,U,k,rfl,λt'=>q _ t' s2⟩;exact q.elim
theorem rE{K:Fg}{H:Hp}{ex:Addr->Prop}:∀{ds:List D} {ns:List Int} {xs:List V},dN ds=some ns->Reps K H ex ds xs->xs=ns.map V.int
 | [],ns,xs,h,r=>by cases h;exact r|d::ds,ns,xs,h,r=>by
  obtain⟨x,B,e,h1,h2⟩:=r;subst e;cases d with
  | int i=>unfold dN at h;split at h;rename_i ms q;cases h;rw[show x=.int i from h1,rE q h2];rfl;cases h|_=>cases h
theorem aEZ{K:Fg}{H:Hp}{ex:Addr->Prop}{d:D}{k:NK}{u:V}(h:aAK d=some k)(r:Rep K H ex d u):∃b,u=.ref b/\eI K H k b:=by
 cases d with
 | tup ds=>obtain⟨b,xs,rfl,q,r⟩:=r;rw[rE (h) r] at q;exact⟨b,rfl,q⟩|_=>cases h
theorem aFa:∀{xs:List NE} {ks:List (NK×D)},xs.map pj=ks.map kV->mB ks k=some d->atN xs k=some (dV d)
 | [],[],_,h=>by cases h|[],_::_,e,_=>by cases e|_::_,[],e,_=>by cases e|x::xs,y::ks,e,h=>by rw[mC,mC] at e;have B:=congrArg Prod.fst ((E4 e).1);unfold mB at h;unfold atN;rw[DS] at h ⊢;by_cases q:y.1=k;rw[show decide (y.1=k)=true from Ak q] at h;rw[show decide (x.1=k)=true from Ak (B.trans q)];grind;rw[show decide (y.1=k)=false from A3 q] at h;rw[show decide (x.1=k)=false from A3 (by rw[B];exact q)];exact aFa (E4 e).2 h
theorem aHL{K:Fg}{H:Hp}{ex:Addr->Prop}{d:D}(h:tU d=true):Rep K H ex d (dV d):=by cases d <;> first|rfl|cases h
theorem aKE(M:Mc X P Γ n){a:E}{j:Nat}{I:A7}{x:Str}{p:Dy}(q:dB Γ j x=true)(ha:PE X I (WE X P n RT Y J Z a))(hp:bE I=true):PE X (.Subscript (.Name x p) I pos) (WE X P n RT Y J Z (.dget j a)):=by
 unfold dB at q;simp only[bA] at q;obtain⟨⟨h1,h2⟩,U⟩:=q;refine(aBJ (aNs (by have:=M.units;omega)) (vL (by rw[M.N];exact eq_of_beq h1) (M.vis h2) (cE U) (kO U)) ha (iT hp)).imp λZV H Q t ⟨S,h⟩=>?_;have h:=RE.bind' (h);obtain⟨kv,ek,h⟩:∃v,ev P (call P n) Z a=.ok v/\RE (match Z[j]?,aAK v.d with|some (.dct ks),some k=>(match mB ks k with|some d=>R.iff (tU d) (.ok (Vl.cl d))|none=>.bad)|_,_=>.bad) _:=by
  cases z:ev P (call P n) Z a with
  | ok v=>rw[z] at h;exact⟨v,rfl,h⟩|bad=>rw[z] at h;exact h.elim
 split at h;rename_i ks k W e2;split at h;rename_i d e3;obtain⟨c,h⟩:=h.iff;obtain⟨L,xs,g1,g2,g3,g4,g5,g6⟩:=S.dx.at' j ks W;refine⟨.ref L,g1,S,?_⟩;rw[ek];intro uk H2 t2 B;obtain⟨b,rfl,hb⟩:=aEZ e2 (B.rv S);exact⟨L,b,xs,k,dV d,rfl,rfl,B.1 _ _ g2,λx q=>eI.imp (λ_ _ r=>aX.seqT B.1 r) (g6 x q),hb,aFa g5 e3,λt'=>h _ _ t' (Ro.cl B.1 (aHL c))⟩;exact h.elim;exact h.elim
theorem aNI(I:PE X ea (WE X P n RT Y J Z a))(L:PE X eb (WE X P n RT Y J Z b))(q:bE eb=true):PE X (.Subscript ea eb pos) (WE X P n RT Y J Z (.idx a b)):=by refine(aBJ aEI I L (iT q)).imp λZV H Q t ⟨S,h⟩=>?_;exact wE.two S ((RE.bind' (h)).mono λx B=>RE.bind' B) λx y ux uy H2 q t2 s2 S2 B W=>(aDi t2 B W (q.mono λv U u H' t r=>U u H' t (r.from s2)))
theorem rF:PA X [] (WA X P n RT Y J Z .nil):=gN.imp λZV H Q t ⟨S,h⟩ t'=>h [] H t' (aX.refl H) rfl
theorem hZ(L:PE X e (WE X P n RT Y J Z c))(W:PA X es (WA X P n RT Y J Z cs))(U:bE e=true):PA X (e::es) (WA X P n RT Y J Z (.cons c cs)):=by refine(fC L W (aC U)).imp λZV H Q t ⟨S,h⟩=>?_;exact wE.one S (RE.bind' (h)) λx u H1 hx t1 I q=>⟨I,(RE.bind' hx).mono λvs hv us B t2 s2 r2 t'=>(hv (u::us) B t' (q.1.trans s2) ⟨u,us,rfl,(q.rv S).grow s2,r2⟩)⟩
theorem wC:∀{cs:Es} {es:List A7} {vs:List Vl},chkEs Γ cs es=true->evs P (call P n) Z cs=.ok vs->vs.length=es.length
 | .nil,[],vs,_,h=>by cases(h);rfl|.nil,_::_,_,h,_=>by cases h|.cons _ _,[],_,h,_=>by cases h|.cons c cs,e::es,vs,I,h=>by
  simp only[chkEs,bA] at I;have h:(ev P (call P n) Z c >>= λx=>evs P (call P n) Z cs >>= λxs=>R.ok (x::xs))=R.ok vs:=h;cases q:ev P (call P n) Z c with
  | ok x=>
   cases B:evs P (call P n) Z cs with
   | ok xs=>rw[q] at h;rw[B] at h;cases(h);rw[lC,lC,wC I.2 B]|bad=>rw[q] at h;have h:(evs P (call P n) Z cs >>= λxs=>R.ok (x::xs))=R.ok vs:=h;rw[B] at h;cases h
  | bad=>rw[q] at h;cases h
theorem RE.eq{α:Type}{x:R α}{p:α->Prop}(h:RE x p):∃a,x=.ok a/\p a:=by
 cases x with
 | ok a=>exact⟨a,rfl,h⟩|bad=>exact h.elim
theorem aNJ{es:List A7}(B:PA X es (WA X P n RT Y J Z cs))(I:chkEs Γ cs es=true)(W:es.length<=1000):PE X (.Tuple es k pos) (WE X P n RT Y J Z (.tup cs)):=by refine(aKg B).imp λZV H Q t ⟨S,h⟩=>?_;obtain⟨vs,e,U⟩:=(RE.bind' (h)).eq;refine⟨S,?_⟩;rw[e];intro us H1 t1 s1 q;exact⟨(by rw[<-q.length,wC I e,Cb];omega),λp L t'=>(U) _ _ t' ((Ro.tup L rfl rfl q.all).from s1)⟩
theorem aJi{es:List A7}(B:PA X es (WA X P n RT Y J Z cs))(I:chkEs Γ cs es=true)(hl:es.length<=1000):PE X (.List es pos) (WE X P n RT Y J Z (.lst cs)):=by refine(aKh B).imp λZV H Q t ⟨S,h⟩=>?_;obtain⟨vs,e,U⟩:=(RE.bind' (h)).eq;refine⟨S,?_⟩;rw[e];intro us H1 W s1 q;exact⟨(by rw[<-q.length,wC I e,Cb];omega),λp L t'=>(U) _ _ t' ((Ro.fresh L t' rfl rfl (S.grow s1 W) q.all).from s1)⟩
theorem aHM(b:Bi):BD (mJ b)=some (aJg b):=by cases b <;> kernel_rfl
theorem rG(b:Bi):mJ b∈bltNames:=by cases b <;> decide +kernel
theorem uM(b:Bi):mJ b ≠ "__name__" := by cases b <;> decide +kernel
theorem aQo(M:Mc X P Γ n)(hx:mJ b=x)(U:dY Γ x=true)(W:eL x=true)(L:PA X (e::es) (WA X P n RT Y J Z cs))(hp:(e::es).all bE=true) :
 PE X (.Call (.Name x p) (e::es) [] pos) (WE X P n RT Y J Z (.bi b cs)):=by
 subst hx;have q:bE e=true/\es.all bE=true:=by grind
 have body:∀(f:PE X (.Call (.Name (mJ b) p) (e::es) [] pos) (tCB (rBi X b) (WA X P n RT Y J Z cs))),PE X (.Call (.Name (mJ b) p) (e::es) [] pos) (WE X P n RT Y J Z (.bi b cs)):=λf=>f.imp λZV H Q t ⟨S,h⟩=>by exact⟨S,(RE.bind' (h)).mono λvs B us H1 t1 s1 r1=>(aET (S.grow s1 t1) r1 (B.mono λv B u H' t r=>B u H' t (r.from s1)))⟩
 refine body ?_;have r:=aHI M.calm M.room.gd M.units b;have I:=aHM b;cases b <;> first
  | exact aED r (M.gl U) (M.md.blt _ (rG _)) I L (uM _) (cE W) (aC q.1) (iS q.2)
  | exact aCY r (M.gl U) (M.md.blt _ (rG _)) I L (uM _) (cE W) (aC q.1) (iS q.2)
theorem aHN(B:Sx X.K RT Y J Z ZV H1)(s1:aX H H1)(s':aX H1 H')(h:Rr X.K H1 H' (λb=>H1 b≠none/\exV RT Y J Z ZV (dX vs) (bZ vs) b) r u) :
 Ro X.K RT Y J Z ZV H H' (lO vs r) u:=by
 obtain⟨d,fr,pa⟩:=r;have key:∀b,exV RT Y J Z ZV (lO vs (d,fr,pa)).pa (lO vs (d,fr,pa)).al b->(H1 b≠none/\exV RT Y J Z ZV (dX vs) (bZ vs) b)\/(pa=false/\H1 b≠none):=by
  intro b z;cases pa with
  | true=>exact .inl ⟨(exV.trk B z),z⟩|false=>exact .inr ⟨rfl,(exV.trk B z)⟩
 have q:(lO vs (d,fr,pa)).fr=fr:=by unfold lO;split <;> rfl
 have I:(lO vs (d,fr,pa)).d=d:=by unfold lO;split <;> rfl
 refine⟨s1.trans s',?_⟩;rw[q];unfold Rr at h;cases fr with
 | true=>rw[if_pos rfl] at h ⊢;obtain⟨a,xs,ds,L,U,W,e4,rr⟩:=h;exact⟨a,xs,ds,L,by rw[I];exact U,s1.free W,e4,rr.weak λb z=>z.elim (λz=>.inl z) λz=>.inr (key b z)⟩|false=>rw[if_neg bN] at h ⊢;unfold Rv;rw[I];exact Rep.weak h key
theorem aFb(S:Sx X.K RT Y J Z ZV H)(h:RE (ev P (call P n) Z (.call f cs)) (Wn X RT Y J Z ZV H Q)) :
 WA X P n RT Y J Z cs ZV H λus H1=>spF X.K P n f (us++[]) H1 (λv H'=>Tk X.K H'->Q v H') E0:=by refine⟨S,(RE.bind' (h)).mono λvs B us H1 L s1 I=>?_⟩;exact⟨vs.map (·.d),λb=>H1 b≠none/\exV RT Y J Z ZV (dX vs) (bZ vs) b,λa z=>z.1,by rw[Bu];exact I.all.weak λa z=>z.2,(RE.bind' B).mono λr q u H' t' s' rr _=>((q) u H' t' (aHN (S.grow s1 L) s1 s' rr))⟩
theorem aKF(M:Mc X P Γ n){es:List A7}(hf:Γ.fns[f]? = some x)(L:dY Γ x=true)(U:eL x=true)(W:PA X es (WA X P n RT Y J Z cs))(hp:es.all bE=true)(hc:chkEs Γ cs es=true) :
 PE X (.Call (.Name x p) es [] pos) (WE X P n RT Y J Z (.call f cs)):=by
 obtain⟨fa,fd,ps,h1,h2,B,I⟩:=M.md.fn f x hf;cases es with
 | cons e es=>
  have q:bE e=true/\es.all bE=true:=by grind
  exact(aHr I M.room (M.gl L) h1 h2 B .nil aJb W (cE U) (aC q.1) (iS q.2)).imp λZV H Q t ⟨S,h⟩=>aFb S h
 | nil=>
  cases cs with
  | cons _ _=>cases hc|nil=>exact(aEC I M.room (M.gl L) h1 h2 B .nil aJb (cE U)).imp λZV H Q t ⟨S,h⟩=>((aFb S h).2 [] H t (aX.refl H) rfl)
theorem aKG(M:Mc X P Γ n){p ap:Dy}(hm:m=("get" : Str))(hx:Γ.tbs[i]? = some x)(U:dY Γ x=true)(ho:eL x=true)(W:(ap.endLine==pos.line)=true)
 (L:PE X ea (WE X P n RT Y J Z a)) (hp:bE ea=true):PE X (.Call (.Attribute (.Name x p) m ap) [ea] [] pos) (WE X P n RT Y J Z (.tget i a)):=by
 subst hm;obtain⟨b,t,h1,h2,I⟩:=M.md.tab i x hx;refine(aHE I (M.gl U) h1 (cE ho) L W (aC hp)).imp λZV H Q tk ⟨S,h⟩=>?_;refine wE.one S (RE.bind' (h)) λy u H1 q t1 S1 B=>?_;rw[h2] at q;cases hd:y.d with
 | str k=>
  rw[hd] at q;have hu:u=.str k:=by have z:=B.rv S;unfold Rv at z;rw[hd] at z;exact z
  exact⟨k,hu,λv hv t'=>(q) v H1 t' (Ro.val B.1 (hv H1))⟩
 | _=>rw[hd] at q;exact q.elim
theorem aDo(c:Cl):BD (clName c)=some (.type (clName c))/\(clName c:Str)∈bltNames/\(clName c:Str) ≠ "__name__" := by cases c <;> exact⟨by kernel_rfl,by decide +kernel,by decide +kernel⟩
theorem aNK(M:Mc X P Γ n)(hf:f=("isinstance" : Str))(hg:dY Γ f=true)(hx:(clName c:Str)=x)(L:dY Γ x=true)(W:eL x=true)
 (ha:PE X ea (WE X P n RT Y J Z a)) (hp:bE ea=true):PE X (.Call (.Name f pf) [ea,.Name x py] [] pos) (WE X P n RT Y J Z (.isi a [c])):=by subst hf;intro G s ZV H Q I hw;obtain⟨S,h⟩:=hw;subst hx;obtain⟨b1,b2,b3⟩:=aDo c;refine Bt (fL I (M.gl hg) (M.md.blt _ (by decide +kernel)) (show BD "isinstance" = some (.builtin "isinstance") by kernel_rfl) ?_ (by decide +kernel) (by decide +kernel));refine BM ?_ (aC hp) rfl;rw[aC hp];refine CA (thn (ha G s ZV H (λu H1=>∃y k,Rv X.K RT Y J Z ZV H1 y u/\isI [c] P y.d=some k/\Q (.bl k) H1) I (wE.one S (RE.bind' (h)) λy u H1 B t1 S1 r1=>?_)) λv s1 ⟨u,H1,I1,ru,y,k,B,U,q⟩=>?_);split at B;rename_i k U;exact⟨y,k,r1.rv S,U,(B) _ _ t1 (Ro.cl r1.1 rfl)⟩;exact B.elim;show Aw _ _ (IC ((false,Dm (.Name (clName c) py) X.env)::E2 pos (Bj [] X.env))) _ _ s1;exact CA (fL I1 (M.gl L) (M.md.blt _ b2) b1 (Dz (aDn P I1 ru B U q)) b3 (cE W))
end
section
variable {X:Cx} {P:Pg} {Γ:Ct} {n:Nat} {RT Y J:Addr->Prop} {Z:Sg} {pos:Dy}
theorem rH(q:bE ec=true):Ix [o,o'] [eb,ec]=false:=rD q
theorem aKH(M:Mc X P Γ n)(ha:PE X ea (WE X P n RT Y J Z a))(hb:PE X eb (WE X P n RT Y J Z b))(hc:PE X ec (WE X P n RT Y J Z c))(hq:bE ec=true) :
 PE X (.Compare ea [o,o'] [eb,ec] pos) (WE X P n RT Y J Z (.cmp2 o o' a b c)):=by
 refine(aEx (kP (RT:=RT) (Y:=Y) (J:=J) M o) (kP (RT:=RT) (Y:=Y) (J:=J) M o') ha hb hc (rH hq)).imp λZV H Q t ⟨S,h⟩=>?_;have h:=RE.bind' (show RE (ev P (call P n) Z a >>= λx=>ev P (call P n) Z b >>= λy=>(match cZ o x.d y.d with
  | some true=>ev P (call P n) Z c >>= λz=>(match cZ o' y.d z.d with|some k=>R.ok (Vl.cl (.bl k))|none=>.bad)
  | some false=>R.ok (Vl.cl (.bl false))|none=>.bad)) _ from h)
 refine wE.two S (h.mono λx B=>RE.bind' B) λx y ux uy H2 q t2 s2 S2 B U=>?_;split at q;rename_i I;refine⟨Z,ZV,x,y,true,B,U,I,true,rfl,?_⟩;rw[if_pos rfl];refine wE.one S2 (RE.bind' q) λz u H3 W t3 S3 r3=>?_;split at W;rename_i k' L;exact⟨Z,ZV,y,z,k',U.grow r3.1,r3.rv S2,L,λt'=>W _ _ t' (Ro.cl (s2.trans r3.1) rfl)⟩;exact W.elim;rename_i I;refine⟨Z,ZV,x,y,false,B,U,I,false,rfl,?_⟩;rw[if_neg bN];exact λt'=>q _ _ t' (Ro.cl s2 rfl);exact q.elim
theorem aKI(M:Mc X P Γ n)(ha:PE X ea (WE X P n RT Y J Z a))(hb:PE X eb (WE X P n RT Y J Z b))(hc:PE X ec (WE X P n RT Y J Z c))(hq:bE ec=true) :
 PT X (.Compare ea [o,o'] [eb,ec] pos) (WT X P n RT Y J Z (.cmp2 o o' a b c)):=by
 refine(aEy (kP (RT:=RT) (Y:=Y) (J:=J) M o) (kP (RT:=RT) (Y:=Y) (J:=J) M o') ha hb hc (rH hq)).imp λZV H Q t ⟨S,h⟩=>?_;have h:=RE.bind' (show RE (ev P (call P n) Z a >>= λx=>ev P (call P n) Z b >>= λy=>(match cZ o x.d y.d with
  | some true=>ev P (call P n) Z c >>= λz=>(match cZ o' y.d z.d with|some k=>R.ok k|none=>.bad)
  | some false=>R.ok false|none=>.bad)) _ from h)
 refine wE.two S (h.mono λx B=>RE.bind' B) λx y ux uy H2 q t2 s2 S2 B U=>?_;split at q;rename_i I;refine⟨Z,ZV,x,y,true,B,U,I,true,rfl,?_⟩;rw[if_pos rfl];refine wE.one S2 (RE.bind' q) λz u H3 W t3 S3 r3=>?_;split at W;rename_i k' L;exact⟨Z,ZV,y,z,k',U.grow r3.1,r3.rv S2,L,k',rfl,λt'=>W _ t' (s2.trans r3.1)⟩;exact W.elim;rename_i I;refine⟨Z,ZV,x,y,false,B,U,I,false,rfl,?_⟩;rw[if_neg bN];exact⟨false,rfl,λt'=>q _ t' s2⟩;exact q.elim
theorem dQ(q:PT X ea (WT X P n RT Y J Z a)):PT X (.UnaryOp .Not ea pos) (WT X P n RT Y J Z (.nt a)):=by refine(aJP q).imp λZV H Q t ⟨S,h⟩=>?_;have h:=RE.bind' (show RE (tst P (call P n) Z a >>= λx=>R.ok (!x)) _ from h);exact⟨S,h.mono λk B H1 I s1 t'=>(show ∀H',Tk X.K H'->aX H H'->Q (!k) H' from B) _ t' s1⟩
theorem aFc(h:PW X e t)(f:∀ZV H Q,Tk X.K H->t' ZV H Q->t ZV H λv H'=>Tk X.K H'->Q v H'):PW X e t':=λU G s ZV H Q I L=>thn (h U G s ZV H _ I (f ZV H Q I.tk L)) λk s' ⟨H',B,q⟩=>⟨H',B,q B.tk⟩
theorem aNL(I:PT X ea (WT X P n RT Y J Z a))(L:PW X (.BoolOp .And (B::r) pos) (WT X P n RT Y J Z b)):PW X (.BoolOp .And (ea::B::r) pos) (WT X P n RT Y J Z (.an a b)):=by
 refine aFc (aJO I L) λZV H Q t ⟨S,h⟩=>?_;have h:=RE.bind' (show RE (tst P (call P n) Z a >>= λx=>if x=true then tst P (call P n) Z b else R.ok false) _ from h);refine⟨S,h.mono λk q H1 W s1=>?_⟩;cases k with
 | true=>rw[if_pos rfl] at q ⊢;exact⟨S.grow s1 W,q.mono λv U H' t s' _=>U H' t (s1.trans s')⟩|false=>rw[if_neg bN] at q ⊢;exact λt'=>(show ∀H',Tk X.K H'->aX H H'->Q false H' from q) _ t' s1
theorem aJj(I:PT X ea (WT X P n RT Y J Z a))(L:PW X (.BoolOp .Or (B::r) pos) (WT X P n RT Y J Z b)):PW X (.BoolOp .Or (ea::B::r) pos) (WT X P n RT Y J Z (.orr a b)):=by
 refine aFc (aMO I L) λZV H Q t ⟨S,h⟩=>?_;have h:=RE.bind' (show RE (tst P (call P n) Z a >>= λx=>if x=true then R.ok true else tst P (call P n) Z b) _ from h);refine⟨S,h.mono λk q H1 W s1=>?_⟩;cases k with
 | true=>rw[if_pos rfl] at q ⊢;exact λt'=>(show ∀H',Tk X.K H'->aX H H'->Q true H' from q) _ t' s1|false=>rw[if_neg bN] at q ⊢;exact⟨S.grow s1 W,q.mono λv U H' t s' _=>U H' t (s1.trans s')⟩
noncomputable def wO(X:Cx)(P:Pg)(n:Nat)(RT Y J:Addr->Prop)(Z:Sg)(cs:Es):TO:=λZV H Q=>Sx X.K RT Y J Z ZV H/\RE (evs P (call P n) Z cs) λvs=>(vs=[]/\∀H',Tk X.K H'->aX H H'->Q none H')\/∃v i,vs=[v]/\v.d=.int i/\∀H',Tk X.K H'->aX H H'->Q (some i) H'
theorem aFd(h:PO X e t)(f:∀ZV H Q,Tk X.K H->t' ZV H Q->t ZV H λv H'=>Tk X.K H'->Q v H'):PO X e t':=λG s ZV H Q I L=>thn (h G s ZV H _ I (f ZV H Q I.tk L)) λu s' ⟨o,H',B,r,q⟩=>⟨o,H',B,r,q B.tk⟩
theorem aNM:PO X none (wO X P n RT Y J Z .nil):=aFd aHt λZV H Q t ⟨S,h⟩ t'=>by
 rcases(show([]:List Vl)=[]/\_\/_ from h) with⟨_,q⟩|⟨v,i,e,_⟩
 exact q H t' (aX.refl H);cases e
theorem aNN(I:PE X e (WE X P n RT Y J Z c)):PO X (some e) (wO X P n RT Y J Z (.cons c .nil)):=by
 refine aFd (aHu I) λZV H Q t ⟨S,h⟩=>?_;have h:=RE.bind' (show RE (ev P (call P n) Z c >>= λx=>evs P (call P n) Z .nil >>= λxs=>R.ok (x::xs)) _ from h);refine wE.one S h λx u H1 L W U B=>?_;rcases(show([x]:List Vl)=[]/\_\/∃v i,([x]:List Vl)=[v]/\_/\_ from L) with⟨e,_⟩|⟨v,i,e,hd,q⟩
 cases e;cases e;exact⟨i,(B.rv S).int hd,λt'=>q _ t' B.1⟩
theorem aNO{a:E}{lo hi:Es}{ea:A7}{el eh:Option A7}{p2:Dy}(ha:PE X ea (WE X P n RT Y J Z a))(B:PO X el (wO X P n RT Y J Z lo))(q:PO X eh (wO X P n RT Y J Z hi)) :
 PE X (.Subscript ea (.Slice el eh none p2) pos) (WE X P n RT Y J Z (.sli a lo hi)):=by
 refine(aEH (aKC (X:=X)) ha B q).imp λZV H Q t ⟨S,h⟩=>?_;have h:=RE.bind' (show RE (ev P (call P n) Z a >>= λx=>evs P (call P n) Z lo >>= λl=>evs P (call P n) Z hi >>= λh=>(match l,h with
  | [],[]=>eC x none none|[l],[]=>(match l.d with|.int l=>R.iff (aO l) (eC x (some l) none)|_=>.bad)
  | [],[h]=>(match h.d with|.int h=>R.iff (aO h) (eC x none (some h))|_=>.bad)
  | [l],[h]=>(match l.d,h.d with|.int l,.int h=>R.iff (aO l&&aO h) (eC x (some l) (some h))|_,_=>.bad)
  | _,_=>.bad)) _ from h)
 refine wE.one S h λx u H1 hx t1 S1 r1=>?_;have hx:=RE.bind' hx;refine⟨S1,hx.mono λl B=>?_⟩;have B:=RE.bind' B;have up:∀(L:Option Int) (I:Hp),Tk X.K I->aX H1 I->(RE (evs P (call P n) Z hi) λh=>(h=[]/\RE (eC x L none) (Wn X RT Y J Z ZV H Q))\/∃v i,h=[v]/\v.d=.int i/\RE (eC x L (some i)) (Wn X RT Y J Z ZV H Q)) ->
  wO X P n RT Y J Z hi ZV I λhv W=>aHH X.K u L hv W λv H'=>Tk X.K H'->Q v H':=by
  intro L I t2 s2 q;refine⟨S1.grow s2 t2,q.mono λhv hq=>?_⟩;have q0:∀(U:Option Int) (W:Hp),Tk X.K W->aX I W->RE (eC x L U) (Wn X RT Y J Z ZV H Q) ->
   aHH X.K u L U W λv H'=>Tk X.K H'->Q v H':=λU W t3 s3 hs=>
   aDk (S1.grow (s2.trans s3) t3) t3 ((r1.rv S).grow (s2.trans s3)) (hs.mono λv hv u H' t r=>hv u H' t (r.from (r1.1.trans (s2.trans s3))))
  grind
 match l,B with
 | [],B=>
  refine .inl ⟨rfl,λI t2 s2=>up none I t2 s2 (B.mono λh q=>?_)⟩
  match h,q with
  | [],q=>exact .inl ⟨rfl,q⟩|[h],q=>have q:RE (match h.d with|.int h=>R.iff (aO h) (eC x none (some h))|_=>.bad) _:=q;split at q;rename_i i hd;exact .inr ⟨h,i,rfl,hd,q.iff.2⟩;exact q.elim|_::_::_,q=>exact q.elim
 | [l],B=>
  have hd:∃i,l.d=.int i:=by
   obtain⟨h,_,q⟩:=B.eq
   match h,q with
   | [],q=>have q:RE (match l.d with|.int l=>R.iff (aO l) (eC x (some l) none)|_=>.bad) _:=q;split at q;grind;exact q.elim|[h],q=>have q:RE (match l.d,h.d with|.int l,.int h=>R.iff (aO l&&aO h) (eC x (some l) (some h))|_,_=>.bad) _:=q;split at q;grind;exact q.elim|_::_::_,q=>exact q.elim
  obtain⟨i,hd⟩:=hd;refine .inr ⟨l,i,rfl,hd,λI t2 s2=>up (some i) I t2 s2 (B.mono λh q=>?_)⟩
  match h,q with
  | [],q=>have q:RE (match l.d with|.int l=>R.iff (aO l) (eC x (some l) none)|_=>.bad) _:=q;rw[hd] at q;exact .inl ⟨rfl,q.iff.2⟩|[h],q=>have q:RE (match l.d,h.d with|.int l,.int h=>R.iff (aO l&&aO h) (eC x (some l) (some h))|_,_=>.bad) _:=q;rw[hd] at q;split at q;rename_i i' j e1 e2;cases e1;exact .inr ⟨h,j,rfl,e2,q.iff.2⟩;exact q.elim|_::_::_,q=>exact q.elim
 | _::_::_,B=>exact(by
     obtain⟨h,_,q⟩:=B.eq
     match h,q with
     | [],q=>exact q.elim|[_],q=>exact q.elim|_::_::_,q=>exact q.elim)
end
end Hp
namespace L2
open PySem PySem.Spec PyProof.Rows
set_option maxRecDepth 100000
instance:LawfulBEq Key where
 eq_of_beq:=λ{a b} h=>by
  cases a with
  | inl x=>cases b with|inl y=>exact congrArg Gp (eq_of_beq (show(x==y)=true from h))|inr y=>cases h
  | inr x=>cases b with|inl y=>cases h|inr y=>exact congrArg BR (eq_of_beq (show(x==y)=true from h))
 rfl:=λ{a}=>by
  cases a with
  | inl x=>exact(beq_self_eq_true x:(x==x)=true)|inr x=>exact(beq_self_eq_true x:(x==x)=true)
noncomputable def nD(Z:List Key)(v:Key):List Key:=if Z.any (·==v) then Z else Z++[v]
noncomputable def eO(ks:List Key):List Key:=ks.foldl nD []
theorem pH(ks:List Key)(k:Key):eO (ks++[k])=nD (eO ks) k:=by unfold eO;rw[CO];rfl
theorem aDp(Z:List Key)(v k:Key):(nD Z v).any (·==k)=(Z.any (·==k)||decide (k=v)):=by unfold nD;grind
theorem uN(Z:List Key)(v:Key):(nD Z v).length=if Z.any (·==v)=true then Z.length else Z.length+1:=by unfold nD;split <;> simp
theorem uO:∀(ks:List Key) (Z:List Key),(ks.foldl nD Z).length<=Z.length+ks.length
 | [],Z=>by simp|k::ks,Z=>by
  have h1:=uO ks (nD Z k);have h2:(nD Z k).length<=Z.length+1:=by rw[uN];split <;> omega
  rw[BX,lC];omega
noncomputable def aFe(prog:A2)(w:AL)(vs:List Ad)(ks:List Key):Prop:=CP (λv k=>(cI prog w).is k v=true) vs ks
theorem aFe.get{prog:A2}{w:AL}:∀{vs:List Ad} {ks:List Key},aFe prog w vs ks->∀{i:Nat} {v:Ad},vs[i]? = some v->∃k,ks[i]? = some k/\(cI prog w).is k v=true
 | _,_,.nil,_,_,h=>by simp at h|_,_,.cons r _,0,_,h=>by grind|_,_,.cons _ t,i+1,v,h=>by obtain⟨k,h1,h2⟩:=aFe.get t (i:=i) (v:=v) (by simpa using h);exact⟨k,by simpa using h1,h2⟩
theorem aHO{prog:A2}{w:AL}{k:Key}{v:Ad}(h:(cI prog w).is k v=true):v.scannable=true:=by rcases keyIs_shape h with⟨i,t,rfl,rfl⟩|⟨x,t,rfl,rfl⟩ <;> rfl
section
variable {prog:A2} {w:AL} {A:Be} {R:FX->Ag->Prop} {I:Addr} {fp wr:List Addr} {G':Array Fu->Array Fu->Prop} {n:Nat} {P:Nat->Ad->Prop} {St:Nat->Ag->Prop}
theorem aDq(W0:WalksS prog w A.in1 I fp wr G' n P St)(S:Addr)(q1:S∉fp)(ks:List Key)(q7:∀i v,P i v->∃k,ks[i]? = some k/\(cI prog w).is k v=true)(hn:ks.length=n)(hb:n+1<CW) :
 ∀(m i:Nat) (s:Ag),n-i=m->i<=n->St i s ->
  s.heap.SetOf (cI prog w) S (λk'=>(eO (ks.take i)).any (·==k')) (eO (ks.take i)).length ->
  (∀s',Moved (S::wr) G' s s'->s'.heap.SetOf (cI prog w) S (λk'=>(eO ks).any (·==k')) (eO ks).length->R (.ok (.ret .none)) s') ->
  DK (AA prog w) A (.builtin "set.update.loop" ⟨[.ref S,.ref I],[]⟩) R s:=by
 have nw:S∉wr:=λh=>q1 (W0.sub _ h);have sb:∀b∈wr,b∈S::wr:=λb hb=>Al _ hb;have stay:∀{s s':Ag} {T:Key->Bool} {c:Nat},Moved wr G' s s'->s.heap.SetOf (cI prog w) S T c->s'.heap.SetOf (cI prog w) S T c:=λB W=>by obtain⟨o,es,ep,t,ho,rest⟩:=W;exact⟨o,es,ep,t,B.heap S _ nw ho,rest⟩
 intro m
 induction m with
 | zero=>
  intro i s hk hi U W hR;obtain rfl:i=n:=by omega
  refine BJ B3 ?_;rw[BC AW _];show Aw _ A.in1 (CK (.ref I) >>= _) _ _ s;refine Aa (W0.done s _ _ U λs' B=>?_);show Aw _ A.in1 (ret Cr) _ _ s';rw[BE (by omega)] at W;exact Ah (hR s' (B.mono sb) (stay B W))
 | succ m ih=>
  intro i s hk hi U W hR;have q2:i<n:=by omega
  refine BJ B3 ?_;rw[BC AW _];show Aw _ A.in1 (CK (.ref I) >>= _) _ _ s;refine Aa (W0.item i s _ _ q2 U λv s' hP q5 B=>?_);obtain⟨k,w4,q⟩:=q7 i v hP;have q8:=stay B W;have q6:ks.take (i+1)=ks.take i++[k]:=by rw[D7,w4];rfl
  show Aw _ A.in1 (FC [v] (Js S v) >>= _) _ _ s';refine Aa (B8 ?_);unfold Js;refine B8 ?_;have L:(eO (ks.take i)).length+1<CW:=by
   have h1:=uO (ks.take i) [];have h2:(ks.take i).length<=i:=by rw[A0];omega
   unfold eO;simp only[lN] at h1;omega
  refine Aa ((cI prog w).pyHash q ?_);refine wpAny_setAddHashed_of (knd:=cI prog w) (s:={ s' with toks:=s'.toks+1 }) q (aHO q) q8 L λh' q4 q9=>?_;have w3:h'.SetOf (cI prog w) S (λk'=>(eO (ks.take (i+1))).any (·==k')) (eO (ks.take (i+1))).length:=
   Jb q9 (λk'=>by rw[q6,pH,aDp]) (by rw[q6,pH,uN])
  refine Ah ⟨DL AW _,ih (i+1) _ (by omega) q2 (W0.frame _ s' _ _ q5 (CT _) λb hb o e=>?_) w3 λw5 q3 q0=>?_⟩;rw[q4.2 b λh:b=S=>q1 (by rw[<-h];exact hb)];exact e;refine hR w5 (Jc W0.gtrans ((B.mono sb).then_heap (CT _) λb o hb e=>?_) q3) q0;rw[q4.2 b λh:b=S=>hb (by rw[h];grind)];exact e
end
section
variable {prog:A2} {w:AL} {A:Be} {E:Ad->Ag->Prop} {s:Ag}
set_option maxHeartbeats 3200000 in
theorem aDr{l:Addr}{items:Array Ad}{ks:List Key}{Q:Ad->Ag->Prop}(hh:A.handled=none)(hl:s.heap.IsList l items)(hi:aFe prog w items.toList ks)(hn:ks.length=items.size)(hb:items.size+1<CW)
 (h:∀(h':Heap) (tk:Nat),h'.SetOf (cI prog w) s.heap.objs.size (λk'=>(eO ks).any (·==k')) (eO ks).length ->
  (∀b o,b<s.heap.objs.size->s.heap.get? b=some o->h'.get? b=some o)->Q (.ref s.heap.objs.size) { s with heap:=h',toks:=tk }) :
 Aw (AA prog w) A (call (.type "set") [.ref l]) Q E s:=by
 obtain⟨c,tl,w8⟩:=AH.mro;have w4:=AH.made;have z1:=AH.sub;refine Hw (Ff ?_);show Aw _ _ (callAny (.type "set") _) _ _ _;refine Ah ⟨Gd _ (by decide +kernel),BJ G1 ?_⟩;rw[Ge (Fk "set" [.ref l] []) rfl];have h1:=AH.notType;have h2:=AH.canCreate;have z4:=EX (.ref l)
 repeat (any_goals (first|assumption|wp_step))
 refine CV (code_set_new_1 (.ref l) (E:=E) (Q₁:=λobj I=>∃led:Bool,obj=.ref s.heap.objs.size/\I={ s with heap:=s.heap.push { cls:=.type "set",dict:=none,data:=.set #[] 0 (.fresh 0 0 led) } }) λled=>⟨led,rfl,rfl⟩) λr I hr=>?_;cases r with
 | error e=>exact hr|ok fl=>
  cases fl with
  | ret obj=>
   obtain⟨led,rfl,rfl⟩:=hr;have hS:(s.heap.push { cls:=.type "set",dict:=none,data:=.set #[] 0 (.fresh 0 0 led) }).get? s.heap.objs.size=some { cls:=.type "set",dict:=none,data:=.set #[] 0 (.fresh 0 0 led) }:=An _ rfl;have hT:Ik { s with heap:=s.heap.push { cls:=.type "set",dict:=none,data:=.set #[] 0 (.fresh 0 0 led) } } (.ref s.heap.objs.size) "set" := ⟨_,hS,rfl⟩
   have z6:=AH.init.lookup;have z3:=AH.init.bind (.ref s.heap.objs.size)
   repeat (any_goals (first|assumption|wp_step))
   refine CV (Fy (R:=wants (λr L=>r=.none/\∃h' tk,L={ s with heap:=h',toks:=tk } /\
    h'.SetOf (cI prog w) s.heap.objs.size (λk'=>(eO ks).any (·==k')) (eO ks).length /\
    (∀b o,b<s.heap.objs.size->s.heap.get? b=some o->h'.get? b=some o)) E) AH.init.plain GG (GH hT ?_)) λq7 L q=>?_
   . obtain⟨ol,q5,q1,nl,q2⟩:=hl;obtain⟨z2,q0,w5,B⟩:=ol;simp only at q1 q2;subst q1;subst q2;have q6:(s.heap.push { cls:=.type "set",dict:=none,data:=.set #[] 0 (.fresh 0 0 led) }).get? l=some { cls:=.type "list",dict:=q0,data:=.seq items nl,slots:=B }:=Ab _ q5;have z0:=Fz;have w9:=Ep;have z7:(Eh "list" == Eh "dict")=false:=by decide
     have q4:(s.heap.push { cls:=.type "set",dict:=none,data:=.set #[] 0 (.fresh 0 0 led) }).IsList l items:=⟨_,q6,rfl,nl,rfl⟩
     unfold C4.«set.__init__» noKeywords DT;generalize q8:FV=PI
     wp_walk
     subst q8;refine BS q4 ?_;refine Aa (F0 ?_);have z5:l<s.heap.objs.size:=Aq q5;have q9:A.in1.in1.in1.handled=none:=by simp[hh]
     have hsz:(s.heap.push { cls:=.type "set",dict:=none,data:=.set #[] 0 (.fresh 0 0 led) }).objs.size=s.heap.objs.size+1:=Bq _ _;refine aDq ((Gc q9 _ l (by rw[hsz];grind) items).toS) s.heap.objs.size
      (by
       rw[hsz];grind) ks
      (λi v hv=>hi.get (by rw[BL];exact hv)) hn hb (items.size-0) 0 _ (by omega) (B6 _)
      ⟨⟨_,An _ rfl,rfl,rfl⟩,(q4.push _)⟩ ?hS0 ?hR
     case hS0=>
      have q3:((s.heap.push { cls:=.type "set",dict:=none,data:=.set #[] 0 (.fresh 0 0 led) }).push { cls:=.type "list_iterator",data:=.fields #[.ref l,.int 0 0] }).get? s.heap.objs.size
       = some { cls:=.type "set",dict:=none,data:=.set #[] 0 (.fresh 0 0 led) }:=Ab _ hS
      exact Jb ((setObjOf_fresh (knd:=cI prog w) led).setOf q3 (by unfold CW;omega)) (λ_=>rfl) rfl
     case hR=>intro s' hm W;obtain⟨h',g',d',w7,w6⟩:=s';have eg:g'=s.gens:=hm.gens;have ed:d'=s.drawn:=hm.drawn;have eo:w6=s.os:=hm.os;subst eg;subst ed;subst eo;show Aw _ _ _ _ _ _;refine Ah ?_;show Aw _ _ (ret Cr) _ _ _;refine Ah ⟨rfl,h',w7,rfl,W,λb o hb e=>?_⟩;refine hm.heap b o ?_ (Ab _ (Ab _ e));rw[hsz];grind
   . cases q7 with
     | error e=>exact q|ok U=>
      cases U with
      | ret r=>
       obtain⟨rfl,h',tk,rfl,W,w3⟩:=q
       repeat (any_goals (first|assumption|wp_step))
       exact h _ _ W w3
      | next=>exact q|brk=>exact q|cont=>exact q
  | next=>exact hr|brk=>exact hr|cont=>exact hr
end
end L2
namespace Hp
open PySem PySem.Spec PyProof.Rows L2
section
variable {X:Cx} {P:Pg} {Γ:Ct} {n:Nat} {RT Y J:Addr->Prop} {Z:Sg} {pos:Dy} {K:Fg} {H:Hp}
theorem oK:∀{ds:List D} {ks:List Key} {ex:Addr->Prop} {vs:List V} {us:List Ad},gO ds=some ks->Reps K H ex ds vs->bJ vs us->aFe prog w us ks/\ks.length=ds.length
 | [],ks,ex,vs,us,h,r,rv=>by cases h;rw[show vs=[] from r] at rv;cases rv;exact⟨.nil,rfl⟩|d::ds,ks,ex,vs,us,h,r,rv=>by
  obtain⟨v,vr,e,h1,h2⟩:=r;subst e;cases rv with
  | cons B U=>
   cases d with
   | str x=>
    unfold gO at h;cases q:gO ds with
    | none=>rw[q] at h;cases h|some W=>rw[q] at h;cases h;rw[show v=.str x from h1] at B;obtain⟨t,rfl⟩:=B;obtain⟨I,L⟩:=oK (prog:=prog) (w:=w) q h2 U;exact⟨.cons (xZ prog w x t) I,by rw[lC,lC,L]⟩
   | int x=>
    unfold gO at h;cases q:gO ds with
    | none=>rw[q] at h;cases h|some W=>rw[q] at h;cases h;rw[show v=.int x from h1] at B;obtain⟨t,rfl⟩:=B;obtain⟨I,L⟩:=oK (prog:=prog) (w:=w) q h2 U;exact⟨.cons (xY prog w x t) I,by rw[lC,lC,L]⟩
   | _=>cases h
theorem aFf(ks:List Key):qW ks=eO ks:=rfl
theorem aFg(M:Mc X P Γ n)(hf:f=("len" : Str))(hg:dY Γ f=true)(q2:g=("set" : Str))(q3:dY Γ g=true)(ha:PE X ea (WE X P n RT Y J Z a))(hp:bE ea=true) :
 PE X (.Call (.Name f pf) [.Call (.Name g pg) [ea] [] p2] [] pos) (WE X P n RT Y J Z (.numset a)):=by
 subst hf q2;intro G s ZV H Q I hw;obtain⟨S,h⟩:=hw;have h:=RE.bind' (show RE (ev P (call P n) Z a >>= λx=>(match x.d with
  | .lst ds=>(match gO ds with|some ks=>R.iff (decide (ds.length<=1000)) (R.ok (Vl.cl (.int (qW ks).length)))|none=>.bad)
  | _=>.bad)) _ from h)
 obtain⟨x,ex,h⟩:=h.eq;cases hd:x.d with
 | lst ds=>
  rw[hd] at h;cases hk:gO ds with
  | none=>simp only[hk] at h;exact h.elim|some ks=>
   simp only[hk] at h;obtain⟨hl,h⟩:=h.iff;have hl:=of_decide_eq_true hl;refine Bt (fL I (M.gl hg) (M.md.blt _ (by decide +kernel)) PySem.boot_len ?_ (by decide +kernel) (by decide +kernel));refine BM ?_ (aC (e:=.Call (.Name "set" pg) [ea] [] p2) (es:=[]) rfl) rfl;rw[aC (e:=.Call (.Name "set" pg) [ea] [] p2) (es:=[]) rfl];show Aw _ _ (IC ((false,Dm (.Call (.Name "set" pg) [ea] [] p2) X.env)::E2 pos (Bj [] X.env))) _ _ s;refine CA (Bt (fL I (M.gl q3) (M.md.blt _ (by decide +kernel)) (show BD "set" = some (.type "set") by kernel_rfl) ?_ (by decide +kernel) (by decide +kernel)));refine AX (thn (fC (es:=[]) ha gN (aC hp) p2 G s ZV H (λus H1=>∃u,us=[u]/\Tk X.K H1/\Ro X.K RT Y J Z ZV H H1 x u) I ⟨S,?_⟩) λus s1 ⟨vs,H1,W,r1,u,e1,t1,U⟩=>?_) (aC hp) rfl;rw[ex];intro u H1 t1 U;exact⟨u,rfl,t1,U⟩;subst e1;obtain⟨u',rfl,ru⟩:=r1.one;obtain⟨b,xs,rfl,hS,_,rr⟩:=(U.rv S).lst hd;cases ru;obtain⟨q5,r2,p,_⟩:=W.list hS;obtain⟨hK,q4⟩:=oK (prog:=X.prog) (w:=X.w) hk rr r2;have l1:=rr.length;have l2:=r2.length;refine aDr (W.ok.hd M.calm) p.isList (by omega) (by rw[Aj];omega) (by rw[Aj];unfold CW;omega) λh' tk L q=>?_;have I2:L2.Inv X G ZV H1 { s1 with heap:=h',toks:=tk }:=W.kept λb o e=>q b o (Aq e) e;refine Dz ?_;obtain⟨o,es,ep,tb,ho,q1,q0,_,_,hb,B,hn⟩:=L;have hsz:((es.size:Nat):Int)<2 ^ 63:=by unfold CW at hb;omega
   refine PySem.call_len_set ho q1 q0 B hsz ?_;refine⟨.int es.size,H1,I2.tok _,⟨_,rfl⟩,?_⟩;rw[hn,<-aFf];exact(show Wn X RT Y J Z ZV H Q (Vl.cl (.int (qW ks).length)) from h) _ _ t1 (Ro.cl U.1 rfl)
 | _=>rw[hd] at h;exact h.elim
end
end Hp
namespace L2
open PySem PySem.Spec PyProof.Rows
section
variable {X:Cx} {G:List (Addr×Obj)} {Z:St} {H:Hp} {s:Ag} {h':Heap}
theorem Inv.turnsNew{B:List Addr}{T:Addr}{o:HO}{t':Nat}(I:Inv X G Z H s)(f:∀b∈B,mW X G H b)(k:∀b o,b∉B->s.heap.get? b=some o->h'.get? b=some o)(there:∀b∈B,∃o,h'.get? b=some o)
 (hT:s.heap.objs.size<=T) (new:fS X.prog X.w (upd H T o) h' T o):Inv X G Z (upd H T o) { s with heap:=h',toks:=t' }:=by
 have q0:∀b u,H b=some u->b∉B:=λb u e z=>by rw[(f b z).1] at e;cases e
 have U:=I.hok.fresh hT;refine I.step (λb W=>?_) (λb o _ _ L e _=>k b o L e) (λb o _ _ L e _=>⟨o.slots,k b o L e⟩) (λb o _ e n=>by rw[aN ((λb o e=>AB (A1 (Aq e) hT)) b o e)];exact n)
  (λb o L e=>⟨o,k b o L e⟩) (λb xs e=>by rw[aN (cB e U)];exact e) (λb o u e=>by rw[aN (cB e U)];exact e) (λb ps e=>⟨#[],by rw[aN (cB e U),e];simp⟩) (λm hm=>?_) (λb u e=>?_) I.bare
 obtain⟨_,f1,f2,f3,f4,f5⟩:=f b W;exact⟨f3,f1,f4,f5⟩;obtain⟨o,es,ep,ho,r⟩:=hm;exact⟨o,es,ep,k _ o (λz=>(f _ z).2.1 rfl) ho,r⟩;by_cases W:b=T;subst W;rw[bY] at e;grind;rw[aN W] at e;refine(I.hok b u e).stay (λc v L q=>k c v ?_ q) (λc q=>by rw[aN (cB q U)];exact q) λc xs q=>by rw[aN (cB q U)];exact q
 grind
theorem Inv.turns{B:List Addr}{t':Nat}(I:Inv X G Z H s)(f:∀b∈B,mW X G H b)(k:∀b o,b∉B->s.heap.get? b=some o->h'.get? b=some o):Inv X G Z H { s with heap:=h',toks:=t' }:=by
 have q0:∀b u,H b=some u->b∉B:=λb u e z=>by rw[(f b z).1] at e;cases e
 refine I.step (λb U=>?_) (λb o _ _ L e _=>k b o L e) (λb o _ _ L e _=>⟨o.slots,k b o L e⟩) (λb o _ e n=>n)
  (λb o L e=>⟨o,k b o L e⟩) (λb xs e=>e) (λb o u e=>e) (λb ps e=>⟨#[],by rw[e];simp⟩) (λm W=>?_) (λb u e=>?_) I.bare
 obtain⟨_,f1,f2,f3,f4,f5⟩:=f b U;exact⟨f3,f1,f4,f5⟩;obtain⟨o,es,ep,ho,r⟩:=W;exact⟨o,es,ep,k _ o (λz=>(f _ z).2.1 rfl) ho,r⟩;refine(I.hok b u e).stay (λc v L q=>k c v ?_ q) (λc q=>q) λc xs q=>q;grind
theorem Inv.newK(I:Inv X G Z H s):X.K.lookup s.heap.objs.size=none:=by
 cases q:X.K.lookup s.heap.objs.size with
 | none=>rfl|some o=>exact absurd (Aq (I.bk _ o (I.ok.mod.kin _ o q))) (Br _)
noncomputable def Sq(k:Bool)(K:Ap)(H:Hp)(a:Addr)(xs:List V):Prop:=match k with|true=>SqL K H a xs|false=>SqT K H a xs
noncomputable def fU(k:Bool)(h:Heap)(a:Addr)(its:Array Ad):Prop:=match k with|true=>h.IsList a its|false=>h.IsTuple a its
noncomputable def eE(k:Bool)(h:Heap)(it a:Addr)(i:Nat):Prop:=match k with|true=>h.IsListIter it a i|false=>h.IsTupleIter it a i
theorem fU.at{h:Heap}(q:fU k h a its)(e:∀o,h.get? a=some o->h'.get? a=some o):fU k h' a its:=by
 cases k with
 | true=>exact Heap.IsList.at q e|false=>exact Heap.IsTuple.at q e
theorem eE.at{h:Heap}(q:eE k h it a i)(e:∀o,h.get? it=some o->h'.get? it=some o):eE k h' it a i:=by
 cases k with
 | true=>exact Heap.IsListIter.at q e|false=>exact Heap.IsTupleIter.at q e
theorem eE.obj{h:Heap}(q:eE k h it a i):∃o,h.get? it=some o/\∀v,o.data≠.cell v:=by
 cases k with
 | true=>obtain⟨o,e,c,d⟩:=q;grind|false=>obtain⟨o,e,c,d⟩:=q;grind
theorem Inv.sq{xs:List V}(I:Inv X G Z H s)(h:Sq k X.K H a xs):∃q:List Ad,bJ xs q/\fU k s.heap a q.toArray/\xs.length<=sizeLine:=by
 cases k with
 | true=>obtain⟨q,r,p,z⟩:=I.list h;exact⟨q,r,p.isList,z⟩|false=>obtain⟨q,r,p,z⟩:=I.tuple h;exact⟨q,r,p,z⟩
theorem Inv.sq_inj(I:Inv X G Z H s)(h:Sq k X.K H a xs)(h':Sq k X.K H a ys):xs=ys:=by
 cases k with
 | true=>exact I.list_inj h h'|false=>exact I.tuple_inj h h'
theorem Sq.there{K:Ap}(h:Sq k K H a xs):H a≠none\/∃o,K.lookup a=some o:=by
 cases k with
 | true=>
  rcases h with(h|⟨o,h⟩)|⟨o,B,n,q,_⟩
  grind;grind;grind
 | false=>
  rcases h with(h|⟨o,h⟩)|⟨o,B,n,q,_⟩
  grind;grind;grind
theorem Inv.sqNe(I:Inv X G Z H s)(h:Sq k X.K H a xs)(f:mW X G H b):a≠b:=by
 intro e;subst e;rcases h.there with z|⟨o,z⟩
 exact z f.1;have B:=I.ok.mod.kin a o z;rcases f.2.2.2.1 with q|q;exact I.ok.noex a o B q;exact absurd (A1 (Aq B) (AM I.ok.bsz q)) (Br _)
end
section
variable {prog:A2} {w:AL} {A:Be} {E:Ad->Ag->Prop} {s:Ag}
theorem nE{items}{Q:Ad->Ag->Prop}(q:s.heap.IsTupleIter it l i)
 (hl:s.heap.IsTuple l items) (hx:items[i]? = some x)
 (U:∀h',h'.IsTupleIter it l (i+1)->B9 it s.heap h'->Q x { s with heap:=h' }) :
 Aw (AA prog w) A (AN (.ref it)) Q E s:=by
 obtain⟨o,B,W,hd⟩:=id q;obtain⟨ol,L,_,nl,I⟩:=hl;unfold AN;refine Aa (AS q.typeIs Cd
  (Bh Cd q.typeIs Ed ?_ (DU _)))
 show Aw _ _ (F2 (.ref it) 0 >>= _) _ _ s;refine Aa (Bc B hd rfl ?_);show Aw _ _ (if (Dt l==Cr)=true then _ else _) _ _ s;rw[if_neg (show ¬ ((Dt l==Cr)=true) from bN)];show Aw _ _ (F2 (.ref it) 1 >>= _) _ _ s;refine Aa (Bc B hd rfl ?_);show Aw _ _ (I9 (.ref l) >>= _) _ _ s;refine Aa (Ce L I ?_);simp only[B7,hx];refine Aa (HH B hd (by simp) (Ah ⟨x,rfl,Ah (U _ ?_ (DY ..))⟩));exact⟨_,DC _ B (Obj.isFreed_of_fields (Gf hd _)),(Obj.cls_mapFields ..).trans W,by
  rw[Gf hd];simp[BW]⟩
theorem oM{items}{Q:Ad->Ag->Prop}(U:A.handled=none)
 (q:s.heap.IsTupleIter it l i) (hl:s.heap.IsTuple l items) (hx:items[i]? = none)
 (W:∀h' e,F5 it s.heap h'->(∃o,h'.get? e=some o/\o.cls=.type "StopIteration")->E (.ref e) { s with heap:=h' }) :
 Aw (AA prog w) A (AN (.ref it)) Q E s:=by
 obtain⟨o,I,hc,hd⟩:=id q;obtain⟨ol,L,_,nl,B⟩:=hl;unfold AN;refine Aa (AS q.typeIs Cd
  (Bh Cd q.typeIs Ed ?_ (DU _)))
 show Aw _ _ (F2 (.ref it) 0 >>= _) _ _ s;refine Aa (Bc I hd rfl ?_);show Aw _ _ (if (Dt l==Cr)=true then _ else _) _ _ s;rw[if_neg (show ¬ ((Dt l==Cr)=true) from bN)];show Aw _ _ (F2 (.ref it) 1 >>= _) _ _ s;refine Aa (Bc I hd rfl ?_);show Aw _ _ (I9 (.ref l) >>= _) _ _ s;refine Aa (Ce L B ?_);simp only[B7,hx];refine Aa (DG (Aa (HH I hd (by simp) ?_)));show Aw _ _ (Jt (.type "StopIteration") [] >>= _) _ _ _;refine Aa ?_;simp only[Jt,Jd];refine Aa (Bm ?_ (by size_fits));refine Aa (GW (by first|rfl|(simp only[HI];rfl)) ?_);refine Bm ?_ (by size_fits);simp only[raiseNew];refine Aa (Il ?_)
 first|rw[show A.in1.handled=none from U]|rw[U]
 refine Aa (Ah (Je ?_));exact W _ _ (((DY ..).extBut.push _).push _) ⟨_,An _ rfl,rfl⟩
theorem gX{items:Array Ad}{Q:Ad->Ag->Prop}(q:eE k s.heap it l i)(I:fU k s.heap l items)(L:items[i]? = some x)
 (B:∀h',eE k h' it l (i+1)->B9 it s.heap h'->Q x { s with heap:=h' }):Aw (AA prog w) A (AN (.ref it)) Q E s:=by
 cases k with
 | true=>exact wpAny_nextOf_list_item q I L B|false=>exact nE q I L B
theorem mM{items:Array Ad}{Q:Ad->Ag->Prop}(I:A.handled=none)(q:eE k s.heap it l i)(L:fU k s.heap l items)(U:items[i]? = none)
 (B:∀h' e,F5 it s.heap h'->(∃o,h'.get? e=some o/\o.cls=.type "StopIteration")->E (.ref e) { s with heap:=h' }):Aw (AA prog w) A (AN (.ref it)) Q E s:=by
 cases k with
 | true=>exact wpAny_nextOf_list_end I q L U B|false=>exact oM I q L U B
theorem aDs{ka kb:Bool}{z TI TO i1 i2 l1 l2:Addr}{k1 k2:Nat}{xs ys:Array Ad}{x y a b:Ad}{Q:Ad->Ag->Prop}(D:G2 z TI TO i1 i2 l1 l2)
 (hz:F6 s.heap z TI TO .none) (z2:CU s.heap TI (.ref i1) (.ref i2)) (z3:CU s.heap TO a b)
 (h1:eE ka s.heap i1 l1 k1) (h2:eE kb s.heap i2 l2 k2) (z5:fU ka s.heap l1 xs) (z6:fU kb s.heap l2 ys) (hx:xs[k1]? = some x) (hy:ys[k2]? = some y)
 (hQ:∀h',F6 h' z TI TO (BW s.heap.objs.size)->CU h' TO x y->eE ka h' i1 l1 (k1+1)->eE kb h' i2 l2 (k2+1)->CU h' s.heap.objs.size x y->h'.objs.size=s.heap.objs.size+1 ->
  (∀c o,c≠z->c≠TO->c≠i1->c≠i2->s.heap.get? c=some o->h'.get? c=some o)->Q (.ref s.heap.objs.size) { s with heap:=h' }) :
 Aw (AA prog w) A (C4.«zip.__next__» ⟨[.ref z],[]⟩) (λz1 s'=>∃v,z1=.done (.ret v)/\Q v s') E s:=by
 show Aw _ _ (F2 (.ref z) 2 >>= _) _ _ _;refine Aa (Bc hz rfl rfl ?_);show Aw _ _ (F2 (.ref z) 3 >>= _) _ _ _;refine Aa (Bc hz rfl rfl ?_);refine Aa (Ce z2 rfl ?_);show Aw _ _ (AZ (.ref z) >>= _) _ _ _;refine Aa ?_;unfold AZ;refine Aa (Bc hz rfl rfl (Ah ?_));simp only[if_true];refine Aa (DG ?_);refine Aa (Bc hz rfl rfl ?_);refine Aa (AQ hz (by simp) λw8 q5 q=>?_);replace q5:F6 w8 z TI TO .ellipsis:=q5;refine Aa ?_;simp only[GI,Hb,Fe,F7];refine Aa (Aa (E5 ?_));show Aw _ _ (AN (.ref i1) >>= _) _ _ _;refine Aa (gX (h1.at λo e=>q.extBut _ _ D.i1z e) (z5.at λo e=>q.extBut _ _ D.l1z e) hx λz7 w4 L=>Ah ?_);have q8:=L.extBut _ _ D.TOi1 (q.extBut _ _ D.TOz z3);refine Aa (Ce q8 rfl ?_);refine Aa (DM q8 λw9 q0 U=>?_);replace q0:CU w9 TO x b:=q0;refine Aa (F8 (Ah ?_));refine Aa (Aa (E5 ?_));show Aw _ _ (AN (.ref i2) >>= _) _ _ _;refine Aa (gX (h2.at λo e=>U.extBut _ _ D.TOi2.symm (L.extBut _ _ D.i12.symm (q.extBut _ _ D.i2z e)))
  (z6.at λo e=>U.extBut _ _ D.l2TO (L.extBut _ _ D.l2i1 (q.extBut _ _ D.l2z e))) hy λz8 w5 W=>Ah ?_)
 refine Aa (Ce (W.extBut _ _ D.TOi2 q0) rfl ?_);refine Aa (DM (W.extBut _ _ D.TOi2 q0) λI B q1=>?_);replace B:CU I TO x y:=B;refine Aa (F8 (Ah (Ah ?_)));refine Aa (Ce B rfl ?_);refine Aa (HJ ?_);have hsz:I.objs.size=s.heap.objs.size:=by rw[q1.1,W.1,U.1,L.1,q.1]
 have q6:=q1.extBut _ _ D.TOz.symm (W.extBut _ _ D.i2z.symm (U.extBut _ _ D.TOz.symm (L.extBut _ _ D.i1z.symm q5)));have w6:∀c o,c≠z->c≠TO->c≠i1->c≠i2->s.heap.get? c=some o->I.get? c=some o:=λc o c1 c2 c3 c4 e=>q1.extBut _ _ c2 (W.extBut _ _ c4 (U.extBut _ _ c2 (L.extBut _ _ c3 (q.extBut _ _ c1 e))));have z4:=Aq B;show Aw _ _ (B4 (.ref z) (.ref I.objs.size) >>= _) _ _ _;refine Aa ?_;unfold B4;refine Aa (AQ (Ab _ q6) (by simp) λz0 q7 q3=>?_);replace q7:F6 z0 z TI TO (BW I.objs.size):=q7;refine AQ q7 (by simp) λq9 q2 q4=>?_;replace q2:F6 q9 z TI TO (BW I.objs.size):=q2;have up:∀c o,c≠z->I.get? c=some o->q9.get? c=some o:=λc o c1 e=>q4.extBut _ _ c1 (q3.extBut _ _ c1 (Ab _ e));have w3:=q4.extBut _ _ (BO (Aq q6)) (q3.extBut _ _ (BO (Aq q6)) (An _ rfl));have w7:q9.objs.size=I.objs.size+1:=by rw[q4.1,q3.1,Bq]
 rw[hsz] at q2 w3 w7;refine Ah ⟨_,rfl,?_⟩;show Q (.ref I.objs.size) _;rw[hsz];exact hQ q9 q2 (up _ _ D.TOz B) ((w4.at λo e=>q1.extBut _ _ D.TOi1.symm (W.extBut _ _ D.i12 (U.extBut _ _ D.TOi1.symm e))).at λo e=>up _ o D.i1z e) ((w5.at λo e=>q1.extBut _ _ D.TOi2.symm e).at λo e=>up _ o D.i2z e) w3 w7 λc o c1 c2 c3 c4 e=>up c o c1 (w6 c o c1 c2 c3 c4 e)
theorem aFh{ka kb:Bool}{z TI TO i1 i2 l1 l2:Addr}{k1 k2:Nat}{xs ys:Array Ad}{a b:Ad}{Q:Fin->Ag->Prop}(hh:A.handled=none)(D:G2 z TI TO i1 i2 l1 l2)
 (hz:F6 s.heap z TI TO .none) (w5:CU s.heap TI (.ref i1) (.ref i2)) (w6:CU s.heap TO a b)
 (h1:eE ka s.heap i1 l1 k1) (h2:eE kb s.heap i2 l2 k2) (q6:fU ka s.heap l1 xs) (w7:fU kb s.heap l2 ys) (w8:xs[k1]? = none\/ys[k2]? = none)
 (hE:∀h' e,(∀c o,c≠z->c≠TO->c≠i1->c≠i2->s.heap.get? c=some o->h'.get? c=some o)->(∃o,h'.get? e=some o/\o.cls=.type "StopIteration")->E (.ref e) { s with heap:=h' }) :
 Aw (AA prog w) A (C4.«zip.__next__» ⟨[.ref z],[]⟩) Q E s:=by
 show Aw _ _ (F2 (.ref z) 2 >>= _) _ _ _;refine Aa (Bc hz rfl rfl ?_);show Aw _ _ (F2 (.ref z) 3 >>= _) _ _ _;refine Aa (Bc hz rfl rfl ?_);refine Aa (Ce w5 rfl ?_);show Aw _ _ (AZ (.ref z) >>= _) _ _ _;refine Aa ?_;unfold AZ;refine Aa (Bc hz rfl rfl (Ah ?_));simp only[if_true];refine Aa (DG ?_);refine Aa (Bc hz rfl rfl ?_);refine Aa (AQ hz (by simp) λq7 L q=>?_);replace L:F6 q7 z TI TO .ellipsis:=L;refine Aa ?_;simp only[GI,Hb,Fe,F7];refine Aa (Aa (E5 ?_));show Aw _ _ (AN (.ref i1) >>= _) _ _ _;cases hx:xs[k1]? with
 | none=>refine Aa (mM hh (h1.at λo e=>q.extBut _ _ D.i1z e) (q6.at λo e=>q.extBut _ _ D.l1z e) hx λq8 e B he=>?_);obtain⟨oe,q3,q2⟩:=he;have q4:=B _ _ D.i1z.symm L;refine AQ q4 (by simp) λq1 _ I=>hE q1 e (λc o c1 _ c3 _ x=>I.extBut _ _ c1 (B _ _ c3 (q.extBut _ _ c1 x))) ⟨oe,I.extBut _ _ (λx=>by grind) q3,q2⟩|some x=>
  refine Aa (gX (h1.at λo e=>q.extBut _ _ D.i1z e) (q6.at λo e=>q.extBut _ _ D.l1z e) hx λq8 w4 B=>Ah ?_);have U:=B.extBut _ _ D.TOi1 (q.extBut _ _ D.TOz w6);refine Aa (Ce U rfl ?_);refine Aa (DM U λq1 w3 I=>?_);refine Aa (F8 (Ah ?_));refine Aa (Aa (E5 ?_));show Aw _ _ (AN (.ref i2) >>= _) _ _ _;refine Aa (mM hh (h2.at λo e=>I.extBut _ _ D.TOi2.symm (B.extBut _ _ D.i12.symm (q.extBut _ _ D.i2z e)))
   (w7.at λo e=>I.extBut _ _ D.l2TO (B.extBut _ _ D.l2i1 (q.extBut _ _ D.l2z e))) (by grind) λw9 e W he=>?_)
  obtain⟨oe,q3,q2⟩:=he;have q5:=W _ _ D.i2z.symm (I.extBut _ _ D.TOz.symm (B.extBut _ _ D.i1z.symm L));refine AQ q5 (by simp) λq9 _ q0=>hE q9 e (λc o c1 c2 c3 c4 x=>q0.extBut _ _ c1 (W _ _ c4 (I.extBut _ _ c2 (B.extBut _ _ c3 (q.extBut _ _ c1 x))))) ⟨oe,q0.extBut _ _ (λx=>by grind) q3,q2⟩
theorem pO{ka kb:Bool}{z TI TO i1 i2 q B:Addr}{k1 k2:Nat}{xs ys:Array Ad}{x y a b:Ad}{Q:Option Ad->Ag->Prop}(D:G2 z TI TO i1 i2 q B)
 (hz:F6 s.heap z TI TO .none) (I:CU s.heap TI (.ref i1) (.ref i2)) (L:CU s.heap TO a b)
 (h1:eE ka s.heap i1 q k1) (h2:eE kb s.heap i2 B k2) (U:fU ka s.heap q xs) (W:fU kb s.heap B ys) (hx:xs[k1]? = some x) (hy:ys[k2]? = some y)
 (hQ:∀h',F6 h' z TI TO (BW s.heap.objs.size)->CU h' TO x y->eE ka h' i1 q (k1+1)->eE kb h' i2 B (k2+1)->CU h' s.heap.objs.size x y->h'.objs.size=s.heap.objs.size+1 ->
  (∀c o,c≠z->c≠TO->c≠i1->c≠i2->s.heap.get? c=some o->h'.get? c=some o)->Q (some (.ref s.heap.objs.size)) { s with heap:=h' }) :
 Aw (AA prog w) A (CK (.ref z)) Q E s:=by
 unfold CK;exact Aa (Di (AS (⟨_,hz,rfl⟩) DV
  (Bh DV (⟨_,hz,rfl⟩) GJ
   (aDs D hz I L h1 h2 U W hx hy λh' a1 a2 a3 a4 a5 a6 a7=>Ah (hQ h' a1 a2 a3 a4 a5 a6 a7)) (G3 _))))
theorem rJ{ka kb:Bool}{z TI TO i1 i2 l1 l2:Addr}{k1 k2:Nat}{xs ys:Array Ad}{a b:Ad}{Q:Option Ad->Ag->Prop}(hh:A.handled=none)(D:G2 z TI TO i1 i2 l1 l2)
 (W:F6 s.heap z TI TO .none) (B:CU s.heap TI (.ref i1) (.ref i2)) (I:CU s.heap TO a b)
 (h1:eE ka s.heap i1 l1 k1) (h2:eE kb s.heap i2 l2 k2) (L:fU ka s.heap l1 xs) (U:fU kb s.heap l2 ys) (q:xs[k1]? = none\/ys[k2]? = none)
 (hQ:∀h',(∀c o,c≠z->c≠TO->c≠i1->c≠i2->s.heap.get? c=some o->h'.get? c=some o)->Q none { s with heap:=h' }):Aw (AA prog w) A (CK (.ref z)) Q E s:=by
 unfold CK;refine Aa (Di (AS (⟨_,W,rfl⟩) DV
  (Bh DV (⟨_,W,rfl⟩) GJ (aFh hh D W B I h1 h2 L U q λh' e hk he=>?_) (G3 _))))
 obtain⟨o,ho,hc⟩:=he;refine Aa (DH ⟨o,ho,hc⟩ F9 ?_);exact Ah (hQ _ hk)
end
noncomputable def jC(k:Bool)(l:Addr):Obj:=match k with
 | true=>{ cls:=.type "list_iterator",data:=.fields #[.ref l,.int 0 0] }
 | false=>{ cls:=.type "tuple_iterator",data:=.fields #[.ref l,.int 0 0] }
abbrev zH1(k:Bool)(h:Heap)(l1:Addr):Heap:=h.push (jC k l1)
abbrev zH2(ka kb:Bool)(h:Heap)(l1 l2:Addr):Heap:=(zH1 ka h l1).push (jC kb l2)
abbrev zH3(ka kb:Bool)(h:Heap)(l1 l2:Addr):Heap:=(zH2 ka kb h l1 l2).push { cls:=.type "tuple",data:=.seq #[.ref h.objs.size,.ref (zH1 ka h l1).objs.size] }
abbrev zH4(ka kb:Bool)(h:Heap)(l1 l2:Addr):Heap:=(zH3 ka kb h l1 l2).push { cls:=.type "tuple",data:=.seq #[.none,.none] }
abbrev zH5(ka kb:Bool)(h:Heap)(l1 l2:Addr):Heap:=(zH4 ka kb h l1 l2).push { cls:=.type "zip",data:=.fields #[.none,.bool false,.bool false,.ref (zH2 ka kb h l1 l2).objs.size,.ref (zH3 ka kb h l1 l2).objs.size] }
theorem kQ{E:Ad->Ag->Prop}{s:Ag}{Q:Ad->Ag->Prop}(B:fU k s.heap l items)
 (q:Q (.ref s.heap.objs.size) { s with heap:=s.heap.push (jC k l) }):Aw (AA prog w) A (FV (.ref l)) Q E s:=by
 cases k with
 | true=>exact BS B q|false=>exact Gg B q
theorem aAQ(I L:Bool)(q B:Addr)(xs ys:Array Ad) :
 Meets (C4.«zip.__new__» ⟨[.type "zip",.ref q,.ref B],[]⟩) (λ_ R s=>fU I s.heap q xs/\fU L s.heap B ys /\
  R (.ok (.ret (.ref (zH4 I L s.heap q B).objs.size))) { s with heap:=zH5 I L s.heap q B }):=
 .of_wp λprog w A R s h=>by
  obtain⟨hp,g,d,tk,os⟩:=s;obtain⟨W,q0,h⟩:=h;have q1:=sub_zip;have U:fU L (Shared.heap ⟨hp.push (jC I q),g,d,tk,os⟩) B ys:=q0.at λo e=>Ab _ e
  wp_walk using kQ W,kQ U
  exact⟨_,rfl,h⟩
theorem rK{h:Heap}(e:h.get? it=some (jC k a)):eE k h it a 0:=by
 cases k with
 | true=>exact⟨_,e,rfl,rfl⟩|false=>exact⟨_,e,rfl,rfl⟩
theorem aDt{E:Ad->Ag->Prop}{s:Ag}{Q:Ad->Ag->Prop}(B:fU ka s.heap l1 xs)(I:fU kb s.heap l2 ys)
 (h:∀h',F6 h' (s.heap.objs.size+4) (s.heap.objs.size+2) (s.heap.objs.size+3) .none->CU h' (s.heap.objs.size+2) (.ref s.heap.objs.size) (.ref (s.heap.objs.size+1)) ->
  CU h' (s.heap.objs.size+3) .none .none->eE ka h' s.heap.objs.size l1 0->eE kb h' (s.heap.objs.size+1) l2 0->h'.objs.size=s.heap.objs.size+5 ->
  (∀c o,s.heap.get? c=some o->h'.get? c=some o)->Q (.ref (s.heap.objs.size+4)) { s with heap:=h' }) :
 Aw (AA prog w) A (call (.type "zip") [.ref l1,.ref l2]) Q E s:=by
 refine IH F.called_zip (by decide) (F.typeCall_zip_2 _ _) (F.newCall_zip_2 _ _) (λobj=>F.args_object_init_3 obj _ _) F.entry_zip_new
  (aAQ ka kb l1 l2 xs ys) ⟨B,I,?_⟩
 have L:(zH1 ka s.heap l1).objs.size=s.heap.objs.size+1:=Bq ..;have U:(zH2 ka kb s.heap l1 l2).objs.size=s.heap.objs.size+2:=by rw[Bq,L]
 have W:(zH3 ka kb s.heap l1 l2).objs.size=s.heap.objs.size+3:=by rw[Bq,U]
 have z4:(zH4 ka kb s.heap l1 l2).objs.size=s.heap.objs.size+4:=by rw[Bq,W]
 have z5:(zH5 ka kb s.heap l1 l2).objs.size=s.heap.objs.size+5:=by rw[Bq,z4]
 have nf:∀k l,(jC k l).isFreed=false:=by intro k l;cases k <;> rfl
 have q:(zH5 ka kb s.heap l1 l2).get? (zH4 ka kb s.heap l1 l2).objs.size=some _:=An _ rfl;have g4:(zH5 ka kb s.heap l1 l2).get? (zH3 ka kb s.heap l1 l2).objs.size=some _:=Ab _ (An _ rfl);have g3:(zH5 ka kb s.heap l1 l2).get? (zH2 ka kb s.heap l1 l2).objs.size=some _:=Ab _ (Ab _ (An _ rfl));have g2:(zH5 ka kb s.heap l1 l2).get? (zH1 ka s.heap l1).objs.size=some _:=Ab _ (Ab _ (Ab _ (An _ (nf _ _))));show _/\_;rw[U,W,z4] at q;rw[L,U] at g3;rw[W] at g4;rw[L] at g2;rw[z4];exact⟨⟨_,q,rfl⟩,h _ q g3 g4 (rK (Ab _ (Ab _ (Ab _ (Ab _ (An _ (nf _ _))))))) (rK g2) z5 λc o x=>
  Ab _ (Ab _ (Ab _ (Ab _ (Ab _ x))))⟩
noncomputable def Itz(K:Ap)(ka kb:Bool)(a b:Addr):It:=
 ⟨λi H=>∃xs ys x y,Sq ka K H a xs/\Sq kb K H b ys/\xs[i]? = some x/\ys[i]? = some y,
  λi H v H'=>∃p x y,v=.ref p/\H p=none/\K.lookup p=none/\H'=upd H p (.tup [x,y])/\∀xs ys,Sq ka K H a xs->Sq kb K H b ys->xs[i]? = some x/\ys[i]? = some y,
  λi H=>∃xs ys,Sq ka K H a xs/\Sq kb K H b ys/\(xs.length<=i\/ys.length<=i)⟩
structure aHP (z TI TO i1 i2:Addr):Prop where
 TIz:TI≠z
 TOz:TO≠z
 i1z:i1≠z
 i2z:i2≠z
 TITO:TI≠TO
 TIi1:TI≠i1
 TIi2:TI≠i2
 TOi1:TO≠i1
 TOi2:TO≠i2
 i12:i1≠i2
theorem aHP.apart{X:Cx}{G:List (Addr×Obj)}{Z:St}{H:Hp}{s:Ag}{L U:Bool}{a b z TI TO i1 i2:Addr}{xs W:List V}(F:aHP z TI TO i1 i2)(I:Inv X G Z H s)(f:∀c∈[z,TI,TO,i1,i2],mW X G H c)
 (q:Sq L X.K H a xs) (B:Sq U X.K H b W):G2 z TI TO i1 i2 a b:=
 ⟨F.TIz,F.TOz,F.i1z,F.i2z,F.TITO,F.TIi1,F.TIi2,F.TOi1,F.TOi2,F.i12,I.sqNe q (f z (by simp)),I.sqNe q (f TO (by simp)),I.sqNe q (f i1 (by simp)),I.sqNe q (f i2 (by simp)),
  I.sqNe B (f z (by simp)),I.sqNe B (f TO (by simp)),I.sqNe B (f i1 (by simp)),I.sqNe B (f i2 (by simp))⟩
theorem aFi{P:A2}{w:AL}{K:Ap}{ka kb:Bool}{q1:List A7}{tk:Nat}{tp:Dy}{z TI TO i1 i2 a b:Addr}(F:aHP z TI TO i1 i2) :
 vP P w K (.Tuple q1 tk tp) (Itz K ka kb a b) [z,TI,TO,i1,i2] z (λi h=>F6 h z TI TO .none/\CU h TI (.ref i1) (.ref i2)/\(∃u v,CU h TO u v)/\eE ka h i1 a i/\eE kb h i2 b i) where
 mem:=by simp
 obj:=λi h st c W=>by obtain⟨hz,L,⟨u,v,U⟩,h1,h2⟩:=st;rcases(by simpa using W) with rfl|rfl|rfl|rfl|rfl;grind;grind;grind;exact h1.obj;exact h2.obj
 keep:=λi h h' st k=>by obtain⟨hz,L,⟨u,v,U⟩,h1,h2⟩:=st;exact⟨k z (by simp) _ hz,k TI (by simp) _ L,⟨u,v,k TO (by simp) _ U⟩,h1.at λo e=>k i1 (by simp) o e,h2.at λo e=>k i2 (by simp) o e⟩
 item:=by
  intro X hP hw hK W i G s Z H E I hf st hg;subst hP hw hK;obtain⟨hz,L,⟨u,v,U⟩,h1,h2⟩:=st;obtain⟨xs,ys,x,y,ha,hb,hx,hy⟩:=hg;obtain⟨as,ra,pa,_⟩:=I.sq ha;obtain⟨bs,rb,pb,_⟩:=I.sq hb;obtain⟨ux,q7,rx⟩:=ra.get hx;obtain⟨uy,q8,ry⟩:=rb.get hy;refine pO (F.apart I hf ha hb) hz L U h1 h2 pa pb (by simpa using q7) (by simpa using q8) λh' a1 a2 a3 a4 a5 a6 hk=>?_;refine⟨_,rfl,wpAny_letOwnedTupleGo_zip a1 λq2 q9 B=>?_⟩;have q6:∀c o,c∉[z,TI,TO,i1,i2]->s.heap.get? c=some o->q2.get? c=some o:=λc o W e=>by
   have q0:c≠z/\c≠TI/\c≠TO/\c≠i1/\c≠i2:=by simpa using W
   exact B.extBut _ _ q0.1 (hk c o q0.1 q0.2.2.1 q0.2.2.2.1 q0.2.2.2.2 e)
  have tI:=B.extBut _ _ F.TIz (hk _ _ F.TIz F.TITO F.TIi1 F.TIi2 L);have tO:=B.extBut _ _ F.TOz a2;have I1:Inv X G Z (upd H s.heap.objs.size (.tup [x,y])) { s with heap:=q2 }:=by refine I.turnsNew hf q6 (λc W=>?_) (Ao _) ⟨by show 2<=sizeLine;rw[Cb];decide,[ux,uy],.cons rx (.cons ry .nil),_,(B.extBut _ _ (BO (Aq hz)) a5),rfl,_,rfl⟩;rcases(by simpa using W) with rfl|rfl|rfl|rfl|rfl;grind;grind;grind;obtain⟨o,e,_⟩:=(a3.at λo e=>B.extBut _ _ F.i1z e).obj;grind;obtain⟨o,e,_⟩:=(a4.at λo e=>B.extBut _ _ F.i2z e).obj;grind
  refine⟨.ref s.heap.objs.size,_,I1,rfl,⟨_,x,y,rfl,I.fresh,I.newK,rfl,λw3 w4 q4 q5=>?_⟩,⟨q9,tI,⟨_,_,tO⟩,(a3.at λo e=>B.extBut _ _ F.i1z e),(a4.at λo e=>B.extBut _ _ F.i2z e)⟩,λc W=>?_⟩;rw[I.sq_inj q4 ha,I.sq_inj q5 hb];exact⟨hx,hy⟩;rw[aN (AB ?_)];exact(hf c W).1;obtain⟨o,e,_⟩:∃o,s.heap.get? c=some o/\True:=by rcases(by simpa using W) with rfl|rfl|rfl|rfl|rfl;grind;grind;grind;obtain⟨o,e,_⟩:=h1.obj;grind;obtain⟨o,e,_⟩:=h2.obj;grind
  exact Aq e
 done:=by
  intro X hP hw hK W i G s Z H E I hf st hg;subst hP hw hK;obtain⟨hz,L,⟨u,v,U⟩,h1,h2⟩:=st;obtain⟨xs,ys,ha,hb,q3⟩:=hg;obtain⟨as,ra,pa,_⟩:=I.sq ha;obtain⟨bs,rb,pb,_⟩:=I.sq hb;have la:=ra.length;have lb:=rb.length;refine rJ (I.ok.hd W) (F.apart I hf ha hb) hz L U h1 h2 pa pb ?_ λh' hk=>⟨rfl,I.turns hf λc o W e=>?_⟩
  rcases q3 with q|q;exact .inl (by simp;omega);exact .inr (by simp;omega);grind
 self:=λ_ _ _ _ _ st h=>GK st.1 h
noncomputable def aQp(K:Ap)(ta:TA):TI:=λZ H R=>ta Z H λvs H1=>∃(ka kb:Bool) (a b:Addr) (xs ys:List V),vs=[.ref a,.ref b]/\Sq ka K H1 a xs/\Sq kb K H1 b ys/\R (Itz K ka kb a b) H1
theorem aFj:BD "zip" = some (.type "zip"):=by kernel_rfl
theorem aFk(n:Nat):aHP (n+4) (n+2) (n+3) n (n+1) where
 TIz:=by simp
 TOz:=by simp
 i1z:=by simp
 i2z:=by simp
 TITO:=by simp
 TIi1:=by simp
 TIi2:=by simp
 TOi1:=by simp
 TOi2:=by simp
 i12:=by simp
theorem aKJ{X:Cx}{a b:A7}{ta:TA}{p pos:Dy}{L:List A7}{tk:Nat}{tp:Dy}(hg:Gl X "zip")(hm:X.mg "zip" = none)(ha:PA X [a,b] ta)(hs:Bj [a,b] X.env=[(false,Dm a X.env),(false,Dm b X.env)])(U:Bj [b] X.env=[(false,Dm b X.env)]) :
 PI X (.Tuple L tk tp) (.Call (.Name "zip" p) [a,b] [] pos) (aQp X.K ta):=by
 intro G s Z H R I h;refine J1 (fL I hg hm aFj (AX (thn (ha pos G s Z H _ I h) λus s1 ⟨vs,H1,B,r1,q1⟩=>?_) (by rw[hs,U]) (by rw[U];rfl)));obtain⟨ka,kb,a1,b1,xs,ys,e,q1,q2,q⟩:=q1;subst e;cases r1 with
 | cons r rr=>
  cases rr with
  | cons r' rr=>
   cases rr;cases r;cases r';obtain⟨as,ra,pa,_⟩:=B.sq q1;obtain⟨bs,rb,pb,_⟩:=B.sq q2;refine aDt pa pb λh' hz W q0 h1 h2 hsz hk=>GK hz ?_;refine⟨s1.heap.objs.size+4,_,_,_,H1,rfl,B.kept hk,aFi (aFk _),⟨hz,W,⟨_,_,q0⟩,h1,h2⟩,λc hc=>?_,q⟩;have q3:c=s1.heap.objs.size+4\/c=s1.heap.objs.size+2\/c=s1.heap.objs.size+3\/c=s1.heap.objs.size\/c=s1.heap.objs.size+1:=by simpa using hc
   exact B.fpOk (by grind) (B.hok.fresh (by grind))
noncomputable def Its(x:Str):It:=⟨λi _=>i<x.cps.size,λi H v H'=>H'=H/\∃c,x.cps[i]? = some c/\v=.str ⟨#[c]⟩,λi _=>x.cps.size<=i⟩
theorem yW{P:A2}{w:AL}{K:Ap}{tg:A7}{it:Addr}{x:Str}{t:Ho}{ty:String}(hn:["enumerate", "zip", "dict_itemiterator", "dict_reverseitemiterator", "odict_iterator", "itertools.zip_longest", "itertools.pairwise"].contains ty=false)
 (W0:∀A':Be,A'.handled=none->Walks P w A' it [it] [it] x.cps.size (SignAt x) (λi h=>h.IsStrIter it ty x t i))
 (S:∀(A:Be) (i:Nat) (s:Ag) (Q:Ad->Ag->Prop) (E:Ad->Ag->Prop),s.heap.IsStrIter it ty x t i->Q (.ref it) s->Aw (AA P w) A (FV (.ref it)) Q E s):vP P w K tg (Its x) [it] it (λi h=>i<=x.cps.size/\h.IsStrIter it ty x t i) where
 mem:=by simp
 obj:=λi h st b B=>by
  have e:b=it:=by grind
  subst e;obtain⟨_,o,e,c,d⟩:=st;grind
 keep:=λi h h' st k=>by obtain⟨hi,o,e,c,d⟩:=st;exact⟨hi,o,k it (by simp) o e,c,d⟩
 item:=by intro X hP hw W hc i G s Z H E I L st U;subst hP hw W;obtain⟨f0,f1,f2,f3,f4,f5⟩:=L it (by simp);refine(W0 X.A (I.ok.hd hc)).item i s _ _ U st.2 λv h' tk hv q kk=>?_;obtain⟨c,u,q0,rfl⟩:=hv;obtain⟨o,e,oc,od⟩:=id q;exact⟨_,rfl,pD e oc od hn ⟨.str ⟨#[c]⟩,H,(I.turned (λb o B e=>kk b o (by grind) e) f0 f1 f3 f4 f5),⟨u,rfl⟩,⟨rfl,c,q0,rfl⟩,⟨U,q⟩,λb B=>(L b B).1⟩⟩
 done:=by intro X hP hw W hc i G s Z H E I L st U;subst hP hw W;obtain⟨f0,f1,f2,f3,f4,f5⟩:=L it (by simp);have e:=Nat.le_antisymm st.1 U;subst e;exact(W0 X.A (I.ok.hd hc)).done s _ _ st.2 λh' tk eb=>⟨rfl,I.turned (λb o B e=>eb b o (by grind) e) f0 f1 f3 f4 f5⟩
 self:=λA i s Q E st h=>S A i s Q E st.2 h
theorem aKK{X:Cx}{tg l:A7}{tl:TE}(hl:PE X l tl):PI X tg l (λZ H R=>tl Z H λx H1=>(∃a,x=.ref a/\(((∃xs,SqL X.K H1 a xs)/\R (Itl X.K a) H1)\/((∃xs,SqT X.K H1 a xs)/\R (Itt X.K a) H1)))\/∃z,x=.str z/\R (Its z) H1):=by
 intro G s Z H R I h;refine thn (hl G s Z H _ I h) λv s1 ⟨x,H1,B,r1,q1⟩=>?_;rcases q1 with⟨a,e,q⟩|⟨z,e,q⟩
 subst e;cases r1;rcases q with⟨⟨xs,W⟩,q⟩|⟨⟨xs,W⟩,q⟩
 obtain⟨q0,rv,p,hz⟩:=B.list W;refine BS p.isList ?_;refine⟨s1.heap.objs.size,[s1.heap.objs.size],_,_,H1,rfl,B.kept λb o e=>Ab _ e,tZ a _,⟨_,An _ rfl,rfl,rfl⟩,λb L=>?_,q⟩;have e:b=s1.heap.objs.size:=by grind
 subst e;exact B.fpOk (Ao _) (B.hok.fresh (Ao _));obtain⟨q0,rv,p,hz⟩:=B.tuple W;refine Gg (p) ?_;refine⟨s1.heap.objs.size,[s1.heap.objs.size],_,_,H1,rfl,B.kept λb o e=>Ab _ e,aAC a _,⟨_,An _ rfl,rfl,rfl⟩,λb L=>?_,q⟩;have e:b=s1.heap.objs.size:=by grind
 subst e;exact B.fpOk (Ao _) (B.hok.fresh (Ao _));subst e;obtain⟨t,rfl⟩:=r1;cases ha:z.cps.all (·<128) with
 | false=>
  refine wpAny_pyIter_wide ha ⟨s1.heap.objs.size,[s1.heap.objs.size],_,_,H1,rfl,B.kept λb o e=>Ab _ e,yW (by decide) (λA' U=>Walks.strWide U _ z t) (λA i s Q E st h=>wpAny_pyIter_striter_wide st h),⟨B6 _,_,An _ rfl,rfl,rfl⟩,λb L=>?_,q⟩;have e:b=s1.heap.objs.size:=by simpa using L
  subst e;exact B.fpOk (Ao _) (B.hok.fresh (Ao _))
 | true=>
  refine wpAny_pyIter_ascii ha ⟨s1.heap.objs.size,[s1.heap.objs.size],_,_,H1,rfl,B.kept λb o e=>Ab _ e,yW (by decide) (λA' U=>Walks.strAscii U _ z t) (λA i s Q E st h=>wpAny_pyIter_striter_ascii st h),⟨B6 _,_,An _ rfl,rfl,rfl⟩,λb L=>?_,q⟩;have e:b=s1.heap.objs.size:=by grind
  subst e;exact B.fpOk (Ao _) (B.hok.fresh (Ao _))
section
variable {prog:A2} {w:AL} {A:Be} {E:Ad->Ag->Prop} {s:Ag}
theorem aFl{k:Bool}{e it l:Addr}{i:Nat}{xs:Array Ad}{x J:Ad}{Q:Ad->Ag->Prop}(he:EY s.heap e it i J)(q1:eE k s.heap it l i)(hl:fU k s.heap l xs)(hx:xs[i]? = some x)(q:e≠it)
 (hQ:∀h',GL h' e it ((i:Int)+1) x s.heap.objs.size->eE k h' it l (i+1)->h'.get? s.heap.objs.size=some { cls:=.type "tuple",data:=.seq #[.int i s.toks,x] }->h'.objs.size=s.heap.objs.size+1 ->
  (∀b o,b≠e->b≠it->s.heap.get? b=some o->h'.get? b=some o)->Q (.ref s.heap.objs.size) { s with heap:=h',toks:=s.toks+1 }) :
 Aw (AA prog w) A (C4.«enumerate.__next__» ⟨[.ref e],[]⟩) (λq0 s'=>∃v,q0=.done (.ret v)/\Q v s') E s:=by
 obtain⟨B,g,d,tk,os⟩:=s;refine Aa (m:=F2 (.ref e) 2) (Bc he rfl (x:=.ref it) rfl (Aa (gX q1 hl hx λh1 i1 s1=>?_)));have s1:B9 it B h1:=s1;have e1:EY h1 e it i J:=(s1.2 e q).trans he;refine Aa (m:=F2 (.ref e) 3) (Bc e1 rfl (x:=BW i) rfl (Aa (m:=F2 (.ref e) 4) (Bc e1 rfl (x:=.none) rfl (Aa (m:=mkInt i) (wpAny_mkInt ?_)))));refine Aa (m:=setField (.ref e) 3 (BW ((i:Int)+1))) (s:=⟨h1,g,d,tk+1,os⟩) (AQ e1 (by simp) λh2 e2 s2=>?_);have s2:B9 e h1 h2:=s2;have e2:EY h2 e it ((i:Int)+1) J:=e2;refine Aa (m:=setField (.ref e) 4 .none) (s:=⟨h2,g,d,tk+1,os⟩) (AQ e2 (by simp) λI e3 W=>?_);have W:B9 e h2 I:=W;have e3:EY I e it ((i:Int)+1) J:=e3;refine Aa (m:=Jd [.int i tk,x]) (s:=⟨I,g,d,tk+1,os⟩) (HJ ?_);have e4:EY (I.push { cls:=.type "tuple",data:=.seq #[.int i tk,x] }) e it ((i:Int)+1) J:=Ab _ e3;generalize q4:I.push { cls:=.type "tuple",data:=.seq #[.int i tk,x] }=h4 at e4;have z3:I.objs.size=B.objs.size:=by rw[W.1,s2.1,s1.1]
 have lt:e<B.objs.size:=Aq he;have t4:h4.get? B.objs.size=some { cls:=.type "tuple",data:=.seq #[.int i tk,x] }:=by rw[<-q4,<-z3];exact An _ rfl
 have z4:h4.objs.size=B.objs.size+1:=by rw[<-q4,Bq,z3]
 have k4:∀b o,b≠e->b≠it->B.get? b=some o->h4.get? b=some o:=λb o U n2 L=>by rw[<-q4];exact Ab _ (W.extBut b o U (s2.extBut b o U (s1.extBut b o n2 L)))
 have i4:eE k h4 it l (i+1):=i1.at λo ho=>by rw[<-q4];exact Ab _ (W.extBut _ _ q.symm (s2.extBut _ _ q.symm ho))
 rw[z3];refine Aa (m:=AZ (.ref e)) (s:=⟨h4,g,d,tk+1,os⟩) ?_;unfold AZ;refine Aa (Bc e4 rfl (x:=.none) rfl (Ah ?_));simp only[if_true];refine Aa (DG (Aa (Bc e4 rfl (x:=J) rfl (Aa (AQ e4 (by simp) λh5 e5 s5=>?_)))));have s5:B9 e h4 h5:=s5;have e5:EY h5 e it ((i:Int)+1) x:=e5;refine Aa (m:=B4 (.ref e) (.ref B.objs.size)) (s:=⟨h5,g,d,tk+1,os⟩) ?_;unfold B4;refine Aa (AQ e5 (by simp) λh6 e6 s6=>?_);have s6:B9 e h5 h6:=s6;have e6:GL h6 e it ((i:Int)+1) x B.objs.size:=e6;refine AQ e6 (by simp) λh7 e7 s7=>?_;have s7:B9 e h6 h7:=s7;have e7:GL h7 e it ((i:Int)+1) x B.objs.size:=e7;have up:∀b o,b≠e->h4.get? b=some o->h7.get? b=some o:=λb o n L=>s7.extBut _ _ n (s6.extBut _ _ n (s5.extBut _ _ n L));exact Aa (F8 (Ah ⟨_,rfl,hQ h7 e7 (i4.at λo ho=>up _ _ q.symm ho) (up _ _ (BO lt) t4) (by rw[s7.1,s6.1,s5.1,z4]) λb o U n2 L=>up b o U (k4 b o U n2 L)⟩))
theorem yX{k:Bool}{e it l:Addr}{i:Nat}{xs:Array Ad}{x J:Ad}{Q:Option Ad->Ag->Prop}(I:EY s.heap e it i J)(q:eE k s.heap it l i)(U:fU k s.heap l xs)(W:xs[i]? = some x)(B:e≠it)
 (L:∀h',GL h' e it ((i:Int)+1) x s.heap.objs.size->eE k h' it l (i+1)->h'.get? s.heap.objs.size=some { cls:=.type "tuple",data:=.seq #[.int i s.toks,x] }->h'.objs.size=s.heap.objs.size+1 ->
  (∀b o,b≠e->b≠it->s.heap.get? b=some o->h'.get? b=some o)->Q (some (.ref s.heap.objs.size)) { s with heap:=h',toks:=s.toks+1 }):Aw (AA prog w) A (CK (.ref e)) Q E s:=by
 have T:s.TypeIs (.ref e) "enumerate" := ⟨_,I,rfl⟩
 unfold CK;exact Aa (Di (AS (name:=Gs "__next__") T CL (Bh CL T EZ (aFl I q U W B λh' a b c d k=>Ah (L h' a b c d k)) (EF _))))
theorem aAR{k:Bool}{e it l:Addr}{i:Nat}{xs:Array Ad}{J:Ad}{Q:Option Ad->Ag->Prop}(U:A.handled=none)(B:EY s.heap e it i J)(q:eE k s.heap it l i)(W:fU k s.heap l xs)(hx:xs[i]? = none)
 (I:∀h',F5 it s.heap h'->Q none { s with heap:=h' }):Aw (AA prog w) A (CK (.ref e)) Q E s:=by
 have T:s.TypeIs (.ref e) "enumerate" := ⟨_,B,rfl⟩
 unfold CK;refine Aa (Di (AS (name:=Gs "__next__") T CL (Bh CL T EZ ?_ (EF _))));refine Aa (m:=F2 (.ref e) 2) (Bc B rfl (x:=.ref it) rfl (Aa (mM U q W hx λh' x g ⟨o,ho,L⟩=>?_)));exact Aa (DH (T:= "StopIteration") (b:=true) ⟨o,ho,L⟩ F9 (Ah (I _ g)))
end
noncomputable def aFm(it:Addr):Obj:={ cls:=.type "enumerate",data:=.fields #[.none,.bool false,.ref it,BW 0,.none,.none] }
theorem aDu(k:Bool)(l:Addr)(xs:Array Ad)(W:Obj):Meets (C4.«enumerate.__new__» ⟨[.type "enumerate",.ref l],[]⟩) (λ_ R s=>s.heap.get? l=some W/\fU k s.heap l xs /\
 R (.ok (.ret (.ref (s.heap.push (jC k l)).objs.size))) { s with heap:=(s.heap.push (jC k l)).push (aFm s.heap.objs.size) }):=
 .of_wp λprog w A R s h=>by
  obtain⟨U,g,d,tk,os⟩:=s;obtain⟨q,L,h⟩:=h;have I:=sub_enumerate;have B:fU k (Shared.heap ⟨U,g,d,tk,os⟩) l xs:=L
  wp_walk using C7 q
  refine wpAny_stack_any λst=>Ah ?_;split;rename_i c _ _ _ _ _;cases(c==Eh "enumerate") <;> (wp_walk using C7 q,kQ B;exact⟨_,rfl,h⟩)
  . wp_walk using C7 q,kQ B
    exact⟨_,rfl,h⟩
theorem aFn{E:Ad->Ag->Prop}{s:Ag}{Q:Ad->Ag->Prop}(B:fU k s.heap l xs)
 (h:∀h',EY h' (s.heap.objs.size+1) s.heap.objs.size 0 .none->eE k h' s.heap.objs.size l 0->(∀b o,s.heap.get? b=some o->h'.get? b=some o)->Q (.ref (s.heap.objs.size+1)) { s with heap:=h' }) :
 Aw (AA prog w) A (call (.type "enumerate") [.ref l]) Q E s:=by
 obtain⟨I,L⟩:∃I,s.heap.get? l=some I:=by
  cases k with
  | true=>obtain⟨o,e,_⟩:=B;grind|false=>obtain⟨o,e,_⟩:=B;grind
 refine IH F.called_enumerate (by decide) (F.typeCall_enumerate_1 _) (F.newCall_enumerate_1 _) (λobj=>F.args_object_init_2 obj _) F.entry_enumerate_new (aDu k l xs I) ⟨L,B,?_⟩;have z:(s.heap.push (jC k l)).objs.size=s.heap.objs.size+1:=Bq ..;have nf:(jC k l).isFreed=false:=by cases k <;> rfl
 have q:((s.heap.push (jC k l)).push (aFm s.heap.objs.size)).get? (s.heap.push (jC k l)).objs.size=some (aFm s.heap.objs.size):=An _ rfl;show _/\_;rw[z] at q ⊢;exact⟨⟨_,q,rfl⟩,h _ q (rK (Ab _ (An _ nf))) λb o x=>Ab _ (Ab _ x)⟩
noncomputable def Ite(K:Ap)(k:Bool)(a:Addr):It:=
 ⟨λi H=>∃xs x,Sq k K H a xs/\xs[i]? = some x,
  λi H v H'=>∃p x,v=.ref p/\H p=none/\K.lookup p=none/\H'=upd H p (.tup [.int i,x])/\∀xs,Sq k K H a xs->xs[i]? = some x,
  λi H=>∃xs,Sq k K H a xs/\xs.length<=i⟩
theorem aHQ{P:A2}{w:AL}{K:Ap}{k:Bool}{q1:List A7}{tk:Nat}{tp:Dy}{e it a:Addr}(ne:e≠it) :
 vP P w K (.Tuple q1 tk tp) (Ite K k a) [e,it] e (λi h=>(∃J,EY h e it i J)/\eE k h it a i) where
 mem:=by simp
 obj:=λi h st c U=>by
  obtain⟨⟨J,W⟩,h1⟩:=st;have B:c=e\/c=it:=by grind
  rcases B with rfl|rfl;grind;exact h1.obj
 keep:=λi h h' st kp=>by obtain⟨⟨J,W⟩,h1⟩:=st;exact⟨⟨J,kp e (by simp) _ W⟩,h1.at λo q=>kp it (by simp) o q⟩
 item:=by
  intro X hP hw hK U i G s Z H E I hf st hg;subst hP hw hK;obtain⟨⟨J,W⟩,h1⟩:=st;obtain⟨xs,x,ha,hx⟩:=hg;obtain⟨as,ra,pa,_⟩:=I.sq ha;obtain⟨ux,q4,rx⟩:=ra.get hx;refine yX W h1 pa (x:=ux) (by simpa using q4) ne λh' a1 a2 a3 a4 hk=>?_;refine⟨_,rfl,wpAny_letOwnedTupleGo_enum (s:={ s with heap:=h',toks:=s.toks+1 }) a1 λL e' q0=>?_⟩;have lt:s.heap.objs.size≠e:=BO (Aq W);have q3:∀c o,c∉[e,it]->s.heap.get? c=some o->L.get? c=some o:=λc o U q=>by
   have B:c≠e/\c≠it:=by grind
   exact q0.extBut _ _ B.1 (hk c o B.1 B.2 q)
  have t1:eE k L it a (i+1):=a2.at λo q=>q0.extBut _ _ ne.symm q;have tT:L.get? s.heap.objs.size=some { cls:=.type "tuple",data:=.seq #[.int i s.toks,ux] }:=q0.extBut _ _ lt a3;have hn:H s.heap.objs.size=none:=I.fresh;have I1:Inv X G Z (upd H s.heap.objs.size (.tup [.int i,x])) { s with heap:=L,toks:=s.toks+1 }:=by
   refine I.turnsNew (t':=s.toks+1) hf q3 (λc U=>?_) (Ao _) ⟨by show 2<=sizeLine;rw[Cb];decide,[.int i s.toks,ux],.cons ⟨_,rfl⟩ (.cons rx .nil),_,tT,rfl,_,rfl⟩;have B:c=e\/c=it:=by grind
   rcases B with rfl|rfl;grind;obtain⟨o,q,_⟩:=t1.obj;grind
  refine⟨.ref s.heap.objs.size,_,I1,rfl,⟨_,x,rfl,hn,I.newK,rfl,λq6 q2=>?_⟩,⟨⟨_,e'⟩,t1⟩,λc U=>?_⟩;rw[I.sq_inj q2 ha];exact hx;rw[aN (AB ?_)];exact(hf c U).1;have B:c=e\/c=it:=by simpa using U
  rcases B with rfl|rfl;exact Aq W;obtain⟨o,q,_⟩:=h1.obj;exact Aq q
 done:=by
  intro X hP hw hK U i G s Z H E I hf st hg;subst hP hw hK;obtain⟨⟨J,W⟩,h1⟩:=st;obtain⟨xs,ha,q5⟩:=hg;obtain⟨as,ra,pa,_⟩:=I.sq ha;have la:=ra.length;refine aAR (I.ok.hd U) W h1 pa (by simp;omega) λh' hk=>⟨rfl,I.turns (t':=s.toks) hf λc o U q=>hk c o ?_ q⟩
  grind
 self:=λ_ _ _ _ _ st h=>let ⟨_,q⟩:=st.1;G4 q h
noncomputable def iEn(K:Ap)(ta:TA):TI:=λZ H R=>ta Z H λvs H1=>∃(k:Bool) (a:Addr) (xs:List V),vs=[.ref a]/\Sq k K H1 a xs/\R (Ite K k a) H1
theorem aDv:BD "enumerate" = some (.type "enumerate"):=by kernel_rfl
theorem aHR{X:Cx}{a:A7}{ta:TA}{p pos:Dy}{B:List A7}{tk:Nat}{tp:Dy}(hg:Gl X "enumerate")(hm:X.mg "enumerate" = none)(ha:PA X [a] ta)(hs:Bj [a] X.env=[(false,Dm a X.env)]) :
 PI X (.Tuple B tk tp) (.Call (.Name "enumerate" p) [a] [] pos) (iEn X.K ta):=by
 intro G s Z H R I h;refine J1 (fL I hg hm aDv (AX (thn (ha pos G s Z H _ I h) λus s1 ⟨vs,H1,U,r1,W⟩=>?_) (by rw[hs];rfl) rfl));obtain⟨k,a1,xs,e,W,q⟩:=W;subst e;cases r1 with
 | cons r rr=>
  cases rr;cases r;obtain⟨as,ra,pa,_⟩:=U.sq W;refine aFn pa λh' he h1 hk=>G4 (s:={ s1 with heap:=h' }) he ?_;refine⟨s1.heap.objs.size+1,_,_,_,H1,rfl,U.kept (t':=s1.toks) hk,aHQ (Nat.succ_ne_self _),⟨⟨_,he⟩,h1⟩,λc hc=>?_,q⟩;have q0:c=s1.heap.objs.size+1\/c=s1.heap.objs.size:=by simpa using hc
  have L:s1.heap.objs.size<=c:=by grind
  exact U.fpOk L (U.hok.fresh L)
end L2
namespace Hp
open PySem PySem.Spec PyProof.Rows L2
theorem Kp.refl(R:Addr->Prop)(H:Hp):Kp R H H:=λ_ _ h _=>h
theorem Kp.same{R:Addr->Prop}(s:aX H H'):Kp R H H':=λa o h _=>s a o h
theorem Kp.trans{R:Addr->Prop}(a:Kp R H H1)(b:Kp R H1 H2):Kp R H H2:=λc o h n=>b c o (a c o h n) n
section
variable {K:Fg} {RT Y J R:Addr->Prop} {Z:Sg} {ZV:L2.St} {H H':Hp}
theorem Kp.seqL(k:Kp R H H')(n:¬ R a)(h:SqL K H a xs):SqL K H' a xs:=by rcases h with(h|⟨o,h⟩)|h;exact .inl (.inl (k _ _ h n));exact .inl (.inr ⟨o,k _ _ h n⟩);exact .inr h
theorem Kp.seqT(k:Kp R H H')(L:∀a,R a->RtO H a)(h:SqT K H a xs):SqT K H' a xs:=by
 have I:∀{o:HO},H a=some o->(∀q,o≠.lst q)->(∀φ,o≠.ext φ)->¬ R a:=λ{o} e U W z=>by
  rcases L a z with⟨q,B⟩|⟨q,B⟩
  rw[e] at B;grind;grind
 rcases h with(h|⟨o,h⟩)|h;exact .inl (.inl (k _ _ h (I h (λ_ z=>by cases z) λ_ z=>by cases z)));exact .inl (.inr ⟨o,k _ _ h (I h (λ_ z=>by cases z) λ_ z=>by cases z)⟩);exact .inr h
theorem Reps.kp{ex:Addr->Prop}(r:Reps K H ex ds xs)(k:Kp R H H')(B:∀a,R a->RtO H a)(W:∀a,R a->ex a):Reps K H' ex ds xs:=
 r.keep λa o e L U=>k a o e λz=>by
  rcases B a z with⟨I,q⟩|⟨I,q⟩
  rw[e] at q;grind;grind
theorem Rep.kp{ex:Addr->Prop}(r:Rep K H ex d x)(k:Kp R H H')(B:∀a,R a->RtO H a)(W:∀a,R a->ex a):Rep K H' ex d x:=
 r.keep λa o e L U=>k a o e λz=>by
  rcases B a z with⟨I,q⟩|⟨I,q⟩
  rw[e] at q;grind;grind
noncomputable def rtF(RT:Addr->Prop)(Z:Sg)(ZV:L2.St)(al:List Nat)(a:Addr):Prop:=RT a/\¬ alR Z ZV al a
theorem fM:∀(al:List Nat) (Z:Sg) (i:Nat),(freeze Z al)[i]? = (Z[i]?).map λs=>if i∈al then s.freeze else s
 | [],Z,i=>by cases q:Z[i]? <;> simp[freeze,q]|j::al,Z,i=>by
  rw[freeze,fM al];cases I:Z[j]? with
  | none=>grind|some L=>simp only;by_cases B:i=j;subst B;rw[Az ((Au.mp I).1),I];simp only[ A4,true_or];split;cases L <;> rfl;rfl;grind
theorem rL:∀(al:List Nat) (Z:Sg),(freeze Z al).length=Z.length
 | [],Z=>rfl|j::al,Z=>by rw[freeze,rL al];split;rw[Av];rfl
theorem freeze_sh(h:(freeze Z al)[i]? = some (.sh pa d)):Z[i]? = some (.sh pa d)\/∃ds,i∈al/\Z[i]? = some (.own pa ds)/\d=.lst ds:=by
 rw[fM] at h;cases q:Z[i]? with
 | none=>rw[q] at h;cases h|some s=>
  rw[q] at h;have h:(if i∈al then s.freeze else s)=.sh pa d:=A9 h;split at h;rename_i hi;cases s with
  | dead=>cases h|sh pa' B=>cases h;exact .inl rfl|own pa' ds'=>cases h;grind|dct _=>cases h|own2 _=>cases h
  exact .inl (by rw[h])
theorem fN(h:(freeze Z al)[i]? = some (.own pa ds)):Z[i]? = some (.own pa ds)/\i∉al:=by
 rw[fM] at h;cases q:Z[i]? with
 | none=>rw[q] at h;cases h|some s=>rw[q] at h;have h:=A9 h;split at h;cases s <;> cases h;grind
theorem aDw{al:List Nat}{i:Nat}{dss:List (List D)}(h:(freeze Z al)[i]? = some (.own2 dss)):Z[i]? = some (.own2 dss):=by
 rw[fM] at h;cases q:Z[i]? with
 | none=>rw[q] at h;cases h|some s=>
  rw[q] at h;have h:(if i∈al then s.freeze else s)=.own2 dss:=A9 h;split at h;cases s with
  | own2 d=>exact congrArg some h|_=>cases h
  rw[h]
theorem aAS{al:List Nat}{i:Nat}{ds:List (NK×D)}(h:(freeze Z al)[i]? = some (.dct ds)):Z[i]? = some (.dct ds):=by
 rw[fM] at h;cases q:Z[i]? with
 | none=>rw[q] at h;cases h|some s=>
  rw[q] at h;have h:(if i∈al then s.freeze else s)=.dct ds:=A9 h;split at h;cases s with
  | dct d=>exact congrArg some h|_=>cases h
  rw[h]
theorem Sx.frz(S:Sx K RT Y J Z ZV H)(al:List Nat):Sx K (rtF RT Z ZV al) Y J (freeze Z al) ZV H where
 sh:=λi pa d h=>by
  rcases freeze_sh h with h|⟨ds,hi,W,e⟩
  obtain⟨v,h1,h2⟩:=S.sh i pa d h;exact⟨v,h1,h2.weak λa z=>z.elim (λz=>.inl z.1) .inr⟩;subst e;obtain⟨a,xs,h1,h2,I,B,U⟩:=S.own i pa ds W;refine⟨.ref a,h1,a,xs,rfl,SqL.of h2,?_,U.weak λa z=>z.elim (λz=>.inl z.1) .inr⟩;rintro (z|z|⟨_,z⟩);exact z.2 ⟨i,hi,⟨pa,ds,W⟩,h1⟩;exact B (S.yo a z);exact B z
 own:=λi pa ds h=>by obtain⟨h,hi⟩:=fN h;obtain⟨a,xs,h1,h2,I,B,U⟩:=S.own i pa ds h;refine⟨a,xs,h1,h2,⟨I,?_⟩,B,U.weak λa z=>z.elim (λz=>.inl z.1) .inr⟩;rintro ⟨j,hj,⟨pa',ds',q⟩,L⟩;have:=S.inj i j pa pa' ds ds' a h q h1 L;grind
 trk:=λa z=>S.trk a (z.elim (λz=>.inl z.1) .inr)
 yo:=S.yo
 tk:=S.tk
 rt:=λa z=>S.rt a z.1
 inj:=λi j pa pa' ds ds' a h1 h2 I B=>S.inj i j pa pa' ds ds' a (fN h1).1 (fN h2).1 I B
 len:=by rw[rL];exact S.len
 dx:=S.dx.imp id (λ_ _ e=>⟨aAS e,rfl⟩) (λ_ _ _ _ _ _ e=>e) (λa xs e z o=>⟨e,z,λ⟨j,_,⟨pa,ds,q⟩,L⟩=>by
  obtain⟨b,ys,h1,h2,I,B,U⟩:=S.own j pa ds q;rw[L] at h1;grind⟩) (λ_ _ r=>r) (λ_ _ e=>⟨aDw e,rfl⟩) (λ_ _ _ _ _ _ e=>e) λp xs e z=>⟨e,⟨z.1,λ⟨j,_,⟨pa,ds,q⟩,L⟩=>z.2.2 j pa ds q L⟩,z.2.1,λk pa ds q=>z.2.2 k pa ds (fN q).1⟩
theorem Tk.new(t:Tk K H)(h:K.lookup p=none):Tk K (upd H p o):=λb q=>by by_cases e:b=p;rw[e];exact h;rw[aN e] at q;exact t b q
noncomputable def Nw(K:Fg)(H:Hp)(a:Addr):Prop:=H a=none/\K.lookup a=none
theorem aHS(q:SqL K H a xs):¬ Nw K H a:=by
 rintro ⟨n,k⟩;rcases q with(q|⟨o,q⟩)|⟨o,B,m,q,_⟩
 rw[n] at q;cases q;rw[n] at q;cases q;grind
theorem Reps.outN{ex:Addr->Prop}(h:Reps K H ex d v):Reps K H (λb=>ex b\/Nw K H b) d v:=
 Reps.imp (λ_ _ q=>q) (λb xs B q=>⟨λz=>z.elim B (aHS q),q⟩) d v h
theorem RvN.sub{ex:Addr->Prop}{v:Vl}(h:Rep K H' (λa=>exV RT Y J Z ZV v.pa v.al a\/ex a) d x):Rep K H' (λa=>exV RT Y J Z ZV (v.sub d).pa (v.sub d).al a\/ex a) (v.sub d).d x:=by unfold Vl.sub;by_cases q:noL d=true;rw[if_pos q];exact Rep.free d x q h;rw[if_neg q];exact h
structure wD (K:Fg) (RT Y J:Addr->Prop) (Z:Sg) (ZV:L2.St) (H1:Hp) (J'':L2.It) (xs:List Vl) (al:List Nat):Prop where
 sub:∀v∈xs,∀j∈v.al,j∈al
 nofr:∀v∈xs,v.fr=false
 ok:∀(R:Addr->Prop),(∀b,R b->rtF RT Z ZV al b)->∀(i:Nat) (H:Hp),Kp R H1 H->(i<xs.length->J''.go i H)/\(xs.length<=i->J''.stop i H)/\∀x H',J''.yld i H x H'->∀v,xs[i]? = some v->aX H H'/\(Tk K H->Tk K H')/\Rep K H' (λa=>exV RT Y J Z ZV v.pa v.al a\/Nw K H1 a) v.d x
theorem wF{v:Vl}:∀j∈(v.sub d).al,j∈v.al:=by unfold Vl.sub Vl.cl;grind
theorem rM{v:Vl}:(v.sub d).fr=false:=by unfold Vl.sub Vl.cl;split <;> rfl
theorem kR{x:Vl}{ds:List D}{i:Nat}{v:Vl}(h:(items x ds)[i]? = some v):∃d,ds[i]? = some d/\v=x.sub d:=by
 unfold items at h;rw[Ay] at h;cases q:ds[i]? with
 | none=>rw[q] at h;cases h|some d=>rw[q] at h;grind
theorem jP(h:rtF RT Z ZV al b):exV RT Y J Z ZV pa al b:=.inl h
theorem pI:∀(q bs:List D),(fZ q bs).length=min q.length bs.length
 | [],_=>by simp[fZ]|_::_,[]=>by simp[fZ]|_::q,_::bs=>by rw[fZ,lC,pI q bs,lC,lC];omega
theorem yY:∀{q bs:List D} {i:Nat} {a b:D},q[i]? = some a->bs[i]? = some b->(fZ q bs)[i]? = some (.tup [a,b])
 | [],_,_,_,_,h,_=>by simp at h|_::_,[],_,_,_,_,h=>by simp at h|_::_,_::_,0,_,_,h,h'=>by simp at h h';subst h h';rfl|_::q,_::bs,i+1,a,b,h,h'=>by have:=yY (by simpa using h) (by simpa using h');simpa[fZ] using this
theorem aHT(S:Sx K RT Y J Z ZV H){x:Vl}{ds:List D}{a:Addr}{xs:List V}(q:SqL K H a xs)(n:¬ exV RT Y J Z ZV x.pa x.al a)(r:Reps K H (exV RT Y J Z ZV x.pa x.al) ds xs) :
 wD K RT Y J Z ZV H (Itl K a) (items x ds) x.al where
 sub:=λv B j hj=>by obtain⟨d,_,e⟩:=A8.mp B;subst e;exact wF j hj
 nofr:=λv B=>by obtain⟨d,_,e⟩:=A8.mp B;subst e;exact rM
 ok:=λR L i H1 k=>by
  have W:=k.seqL (λz=>n (jP (L a z))) q;have hl:(items x ds).length=xs.length:=by unfold items;rw[lM,r.length]
  refine⟨λhi=>⟨xs,xs[i]'(by omega),W,Ac (by omega)⟩,λhi=>⟨xs,W,by omega⟩,λy H' U v B=>?_⟩;obtain⟨e,U⟩:=U;subst e;obtain⟨d,hd,e⟩:=kR B;subst e;obtain⟨y',I,ry⟩:=(r.outN.kp k (λb z=>S.rt b (L b z).1) λb z=>.inl (jP (L b z))).get hd;rw[U xs W] at I;cases I;exact⟨aX.refl _,id,RvN.sub ry⟩
theorem aKL(S:Sx K RT Y J Z ZV H){x:Vl}{ds:List D}{a:Addr}{xs:List V}(q:SqT K H a xs)(r:Reps K H (exV RT Y J Z ZV x.pa x.al) ds xs) :
 wD K RT Y J Z ZV H (Itt K a) (items x ds) x.al where
 sub:=λv B j hj=>by obtain⟨d,_,e⟩:=A8.mp B;subst e;exact wF j hj
 nofr:=λv B=>by obtain⟨d,_,e⟩:=A8.mp B;subst e;exact rM
 ok:=λR L i H1 k=>by
  have W:=k.seqT (λb z=>S.rt b (L b z).1) q;have hl:(items x ds).length=xs.length:=by unfold items;rw[lM,r.length]
  refine⟨λhi=>⟨xs,xs[i]'(by omega),W,Ac (by omega)⟩,λhi=>⟨xs,W,by omega⟩,λy H' U v B=>?_⟩;obtain⟨e,U⟩:=U;subst e;obtain⟨d,hd,e⟩:=kR B;subst e;obtain⟨y',I,ry⟩:=(r.outN.kp k (λb z=>S.rt b (L b z).1) λb z=>.inl (jP (L b z))).get hd;rw[U xs W] at I;cases I;exact⟨aX.refl _,id,RvN.sub ry⟩
theorem aFo{lo:Int}{m:Nat}{xs:List Vl}(B:xs=((Ai m).map λ(k:Nat)=>Vl.cl (.int (lo+(k:Int))))):wD K RT Y J Z ZV H (Itr lo m) xs [] where
 sub:=λv q j L=>by subst B;obtain⟨d,_,e⟩:=A8.mp q;subst e;exact L
 nofr:=λv q=>by subst B;obtain⟨d,_,e⟩:=A8.mp q;subst e;rfl
 ok:=λR U i H1 k=>by
  have W:xs.length=m:=by rw[B,lM,AG]
  refine⟨λhi=>(show i<m by omega),λhi=>(show m<=i by omega),λy H' I v q=>?_⟩;obtain⟨e,I⟩:=I;subst e I;subst B;rw[Ay] at q;have hi:i<m:=by have:=(Au.mp (show((Ai m).map λ(k:Nat)=>Vl.cl (.int (lo+(k:Int))))[i]? = some v by rw[Ay];exact q)).1;simpa using this
  rw[Ca hi] at q;cases q;exact⟨aX.refl _,id,rfl⟩
theorem aKM{z:Str}(B:xs=(z.cps.toList.map λn=>Vl.cl (.str ⟨#[n]⟩))):wD K RT Y J Z ZV H (Its z) xs [] where
 sub:=λv q j U=>by subst B;obtain⟨d,_,e⟩:=A8.mp q;subst e;exact U
 nofr:=λv q=>by subst B;obtain⟨d,_,e⟩:=A8.mp q;subst e;rfl
 ok:=λR W i H1 k=>by
  have hl:xs.length=z.cps.size:=by rw[B,lM,B1]
  refine⟨λhi=>(show i<z.cps.size by omega),λhi=>(show z.cps.size<=i by omega),λy H' I v q=>?_⟩;obtain⟨e,c,L,I⟩:=I;subst e I;subst B;rw[Ay,BL,L] at q;cases q;exact⟨aX.refl _,id,rfl⟩
theorem aKN(S:Sx K RT Y J Z ZV H){ka kb:Bool}{as bs:List D}{a b:Addr}{xs L:List V}{pa:Bool}{al:List Nat}(qa:Sq ka K H a xs)(qb:Sq kb K H b L)(na:ka=true->¬ exV RT Y J Z ZV pa al a)(nb:kb=true->¬ exV RT Y J Z ZV pa al b)
 (ra:Reps K H (exV RT Y J Z ZV pa al) as xs) (rb:Reps K H (exV RT Y J Z ZV pa al) bs L):wD K RT Y J Z ZV H (Itz K ka kb a b) (items ⟨.non,false,pa,al⟩ (fZ as bs)) al where
 sub:=λv W j hj=>by obtain⟨d,_,e⟩:=A8.mp W;subst e;exact wF j hj
 nofr:=λv W=>by obtain⟨d,_,e⟩:=A8.mp W;subst e;exact rM
 ok:=λR U i H1 k=>by
  have keep:∀{kk:Bool} {c:Addr} {zs:List V},(kk=true->¬ exV RT Y J Z ZV pa al c)->Sq kk K H c zs->Sq kk K H1 c zs:=by
   intro kk c zs nn q;cases kk with
   | true=>exact k.seqL (λz=>nn rfl (jP (U c z))) q|false=>exact k.seqT (λb z=>S.rt b (U b z).1) q
  have B:=keep na qa;have I:=keep nb qb;have hl:(items ⟨.non,false,pa,al⟩ (fZ as bs)).length=min xs.length L.length:=by unfold items;rw[lM,pI,ra.length,rb.length]
  refine⟨λhi=>?_,λhi=>⟨xs,L,B,I,by omega⟩,λy H' hy v W=>?_⟩;have h1:i<xs.length:=by omega
  exact⟨xs,L,xs[i],L[i],B,I,Ac h1,Ac (by omega)⟩;obtain⟨p,x,y',rfl,hp,hk,rfl,hh⟩:=hy;obtain⟨hx,hy⟩:=hh xs L B I;obtain⟨d,hd,e⟩:=kR W;subst e;obtain⟨d1,q0,q2⟩:=(ra.outN.kp k (λb z=>S.rt b (U b z).1) λb z=>.inl (jP (U b z))).get' hx;obtain⟨d2,q1,q3⟩:=(rb.outN.kp k (λb z=>S.rt b (U b z).1) λb z=>.inl (jP (U b z))).get' hy;rw[yY q0 q1] at hd;cases hd;exact⟨(aX.new hp),λtk=>tk.new hk,RvN.sub (⟨p,[x,y'],rfl,SqT.of bY,.cons (q2.grow (aX.new hp)) (.cons (q3.grow (aX.new hp)) .nil)⟩)⟩
theorem nF:∀(q:List D) (j:Int),(iG j q).length=q.length
 | [],_=>rfl|_::q,j=>by rw[iG,lC,nF q,lC]
theorem uP:∀{q:List D} {i:Nat} {j:Int} {a:D},q[i]? = some a->(iG j q)[i]? = some (.tup [.int (j+(i:Int)),a])
 | [],_,_,_,h=>by simp at h|_::_,0,j,_,h=>by simp at h;subst h;simp[iG]|_::q,i+1,j,a,h=>by have:=uP (j:=j+1) (by simpa using h);rw[iG,gS,this];grind
theorem aHU(S:Sx K RT Y J Z ZV H){k:Bool}{L:List D}{a:Addr}{xs:List V}{x:Vl}(qa:Sq k K H a xs)(na:k=true->¬ exV RT Y J Z ZV x.pa x.al a)(ra:Reps K H (exV RT Y J Z ZV x.pa x.al) L xs) :
 wD K RT Y J Z ZV H (Ite K k a) (items x (iG 0 L)) x.al where
 sub:=λv B j hj=>by obtain⟨d,_,e⟩:=A8.mp B;subst e;exact wF j hj
 nofr:=λv B=>by obtain⟨d,_,e⟩:=A8.mp B;subst e;exact rM
 ok:=λR I i H1 kp=>by
  have q:Sq k K H1 a xs:=by
   cases k with
   | true=>exact kp.seqL (λz=>na rfl (jP (I a z))) qa|false=>exact kp.seqT (λb z=>S.rt b (I b z).1) qa
  have hl:(items x (iG 0 L)).length=xs.length:=by unfold items;rw[lM,nF,ra.length]
  refine⟨λhi=>⟨xs,xs[i]'(by omega),q,Ac (by omega)⟩,λhi=>⟨xs,q,by omega⟩,λy H' hy v B=>?_⟩;obtain⟨p,z,rfl,hp,hk,rfl,hh⟩:=hy;obtain⟨d,hd,e⟩:=kR B;subst e;obtain⟨d1,U,W⟩:=(ra.outN.kp kp (λb z=>S.rt b (I b z).1) λb z=>.inl (jP (I b z))).get' (hh xs q);rw[uP U,Int.zero_add] at hd;cases hd;exact⟨(aX.new hp),λtk=>tk.new hk,RvN.sub (⟨p,[.int i,z],rfl,SqT.of bY,.cons rfl (.cons (W.grow (aX.new hp)) .nil)⟩)⟩
end
section
variable {X:Cx} {P:Pg} {Γ:Ct} {n:Nat} {RT Y J:Addr->Prop} {Z:Sg} {tg:A7}
noncomputable def wI(X:Cx)(P:Pg)(n:Nat)(RT Y J:Addr->Prop)(Z:Sg)(it:Hp.It):TI:=λZV H R=>Sx X.K RT Y J Z ZV H/\RE (walk P (call P n) Z it) λxs=>∀J'' H1,Tk X.K H1->aX H H1->wD X.K RT Y J Z ZV H1 J'' xs.1 xs.2->R J'' H1
theorem rN(h:PI X tg iter t)(f:∀ZV H R,Tk X.K H->t' ZV H R->t ZV H λJ'' H'=>Tk X.K H'->R J'' H'):PI X tg iter t':=λG s ZV H R I U=>thn (h G s ZV H _ I (f ZV H R I.tk U)) λv s1 h1=>thn h1 λW s2 ⟨it,fp,tn,J'',H',e,B,T,st,L,q⟩=>⟨it,fp,tn,J'',H',e,B,T,st,L,q B.tk⟩
theorem aNP(W:PE X e (WE X P n RT Y J Z c)):PI X tg e (wI X P n RT Y J Z (.seq c)):=by refine rN (aKK W) λZV H RR t ⟨S,h⟩=>?_;refine wE.one S (RE.bind' (h)) λx u H1 B t1 U L=>?_;have rv:=L.rv S;split at B;rename_i ds I;obtain⟨a,xs,e,q,nn,r⟩:=rv.lst I;exact .inl ⟨a,e,.inl ⟨⟨xs,q⟩,λt'=>B _ _ t' L.1 (aHT U q nn r)⟩⟩;rename_i ds I;obtain⟨a,xs,e,q,r⟩:=rv.tup I;exact .inl ⟨a,e,.inr ⟨⟨xs,q⟩,λt'=>B _ _ t' L.1 (aKL U q r)⟩⟩;rename_i z I;obtain⟨c,B⟩:=B.iff;exact .inr ⟨z,rv.str I,λt'=>B _ _ t' L.1 (aKM rfl)⟩;exact B.elim
theorem rO(i j:Int):(hW i j).map Vl.cl=(Ai (j-i).toNat).map λ(k:Nat)=>Vl.cl (.int (i+(k:Int))):=by unfold hW;rw[As];rfl
theorem eZ(h:aO k=true):-(2 ^ 62)<=k/\k<2 ^ 62:=by unfold aO at h;simp only[bA,AO] at h;exact h
theorem aKO(M:Mc X P Γ n)(hf:f=("range" : Str))(hg:dY Γ f=true)(W:PE X e (WE X P n RT Y J Z b))(I:bE e=true):PI X tg (.Call (.Name f p) [e] [] pos) (wI X P n RT Y J Z (.rng (.c (.int 0)) b)):=by
 subst hf;refine rN (aCQ (M.gl hg) (M.md.blt _ (by decide +kernel)) (hZ W rF I) (aC I)) λZV H RR t ⟨S,h⟩=>?_;have h:RE (ev P (call P n) Z b) λy=>RE (match (D.int 0),y.d with|.int i,.int j=>R.iff (aO i&&aO j) (R.ok ((hW i j).map Vl.cl,[]))|_,_=>.bad) _:=
  RE.bind' (h)
 refine⟨S,?_⟩;show RE (ev P (call P n) Z b >>= λx=>evs P (call P n) Z .nil >>= λxs=>R.ok (x::xs)) _;rw[RE.bind];refine h.mono λy q=>?_;split at q;rename_i i j L U;cases L;obtain⟨c,q⟩:=q.iff;rw[bA] at c;intro us H1 t1 s1 r1;obtain⟨u,r',B,ru,hr⟩:=r1;rw[show r'=[] from hr] at B;subst B;refine⟨j,by rw[ru.int U],(eZ c.2).1,(eZ c.2).2,λt'=>q _ _ t' s1 (aFo ?_)⟩;rw[rO];simp;exact q.elim
theorem aKP(M:Mc X P Γ n)(hf:f=("range" : Str))(hg:dY Γ f=true)(ha:PE X ea (WE X P n RT Y J Z a))(hb:PE X eb (WE X P n RT Y J Z b))(I:bE ea=true)(q:bE eb=true) :
 PI X tg (.Call (.Name f p) [ea,eb] [] pos) (wI X P n RT Y J Z (.rng a b)):=by subst hf;refine rN (aCR (M.gl hg) (M.md.blt _ (by decide +kernel)) (hZ ha (hZ hb rF q) I) (by rw[aC I,aC q];rfl) (aC q)) λZV H RR t ⟨S,h⟩=>?_;refine⟨S,?_⟩;show RE (ev P (call P n) Z a >>= λx=>evs P (call P n) Z (.cons b .nil) >>= λxs=>R.ok (x::xs)) _;rw[RE.bind];refine(RE.bind' (h)).mono λx hx=>?_;rw[RE.bind];show RE (ev P (call P n) Z b >>= λx=>evs P (call P n) Z .nil >>= λxs=>R.ok (x::xs)) _;rw[RE.bind];refine(RE.bind' hx).mono λy L=>?_;split at L;rename_i i j W e2;obtain⟨c,L⟩:=L.iff;rw[bA] at c;intro us H1 t1 s1 r1;obtain⟨u,r',eu,ru,u2,r2,B,U,hr⟩:=r1;rw[show r2=[] from hr] at B;subst B;subst eu;refine⟨i,j,by rw[ru.int W,U.int e2],⟨(eZ c.1).1,(eZ c.1).2,(eZ c.2).1,(eZ c.2).2⟩,λt'=>L _ _ t' s1 (aFo ?_)⟩;rw[rO];exact L.elim
theorem aAT{x:Vl}(I:Rv X.K RT Y J Z ZV H x u)(h:yQ x.d=some ds):∃(k:Bool) (a:Addr) (xs:List V),u=.ref a/\Sq k X.K H a xs/\(k=true->¬ exV RT Y J Z ZV x.pa x.al a)/\Reps X.K H (exV RT Y J Z ZV x.pa x.al) ds xs:=by unfold yQ at h;split at h;rename_i ds' B;cases h;obtain⟨a,xs,e,q,L,r⟩:=I.lst B;exact⟨true,a,xs,e,q,λ_=>L,r⟩;rename_i ds' B;cases h;obtain⟨a,xs,e,q,r⟩:=I.tup B;exact⟨false,a,xs,e,q,(λz=>absurd z bN),r⟩;cases h
theorem aNQ(M:Mc X P Γ n)(hf:f=("zip" : Str))(hg:dY Γ f=true)(ha:PE X ea (WE X P n RT Y J Z a))(hb:PE X eb (WE X P n RT Y J Z b))(I:bE ea=true)(q:bE eb=true) :
 PI X (.Tuple elts tk tp) (.Call (.Name f p) [ea,eb] [] pos) (wI X P n RT Y J Z (.zip a b)):=by subst hf;refine rN (aKJ (M.gl hg) (M.md.blt _ (by decide +kernel)) (hZ ha (hZ hb rF q) I) (by rw[aC I,aC q];rfl) (aC q)) λZV H RR t ⟨S,h⟩=>?_;refine⟨S,?_⟩;show RE (ev P (call P n) Z a >>= λx=>evs P (call P n) Z (.cons b .nil) >>= λxs=>R.ok (x::xs)) _;rw[RE.bind];refine(RE.bind' (h)).mono λx hx=>?_;rw[RE.bind];show RE (ev P (call P n) Z b >>= λx=>evs P (call P n) Z .nil >>= λxs=>R.ok (x::xs)) _;rw[RE.bind];refine(RE.bind' hx).mono λy hy=>?_;split at hy;rename_i as bs e1 e2;intro us H1 t1 s1 r1;obtain⟨u,r',eu,ru,u2,r2,B,q0,hr⟩:=r1;rw[show r2=[] from hr] at B;subst B;subst eu;obtain⟨ka,a1,xs,rfl,qa,na,ra⟩:=aAT ru e1;obtain⟨kb,b1,ys,rfl,qb,nb,rb⟩:=aAT q0 e2;have w1:∀c,exV RT Y J Z ZV (x.pa||y.pa) (x.al++y.al) c->exV RT Y J Z ZV x.pa x.al c:=λc z=>z.mono (λW=>by rw[W];rfl) λj L=>AY _ L;have w2:∀c,exV RT Y J Z ZV (x.pa||y.pa) (x.al++y.al) c->exV RT Y J Z ZV y.pa y.al c:=λc z=>z.mono (λW=>by rw[W,IF]) λj L=>A5 _ L;exact⟨ka,kb,a1,b1,xs,ys,rfl,qa,qb,λt'=>hy _ _ t' s1 (aKN (S.grow s1 t1) qa qb (λU z=>na U (w1 _ z)) (λU z=>nb U (w2 _ z)) (ra.weak w1) (rb.weak w2))⟩;exact hy.elim
theorem aKQ(M:Mc X P Γ n)(hf:f=("enumerate" : Str))(hg:dY Γ f=true)(ha:PE X ea (WE X P n RT Y J Z a))(q:bE ea=true) :
 PI X (.Tuple elts tk tp) (.Call (.Name f p) [ea] [] pos) (wI X P n RT Y J Z (.enum a)):=by subst hf;refine rN (aHR (M.gl hg) (M.md.blt _ (by decide +kernel)) (hZ ha rF q) (aC q)) λZV H RR t ⟨S,h⟩=>?_;refine⟨S,?_⟩;show RE (ev P (call P n) Z a >>= λx=>evs P (call P n) Z .nil >>= λxs=>R.ok (x::xs)) _;rw[RE.bind];refine(RE.bind' (h)).mono λx B=>?_;split at B;rename_i as W;intro us H1 t1 s1 r1;obtain⟨u,r',I,ru,hr⟩:=r1;rw[show r'=[] from hr] at I;subst I;obtain⟨k,U,xs,rfl,L,na,ra⟩:=aAT ru W;exact⟨k,U,xs,rfl,L,λt'=>B _ _ t' s1 (aHU (S.grow s1 t1) L na ra)⟩;exact B.elim
end
noncomputable def gs:List Nat->TGs
 | []=>aMU|i::is=>aIY (yD i) (gs is)
noncomputable def gT(K:Fg):T->TG
 | .n i=>yD i|.t is=>aMV K is.length (gs is)
section
variable {K:Fg} {RT Y J:Addr->Prop} {Z:Sg} {ZV:L2.St} {H H':Hp}
theorem set_some{α:Type}{l:List α}{i j:Nat}{x y:α}(e:(l.set i x)[j]? = some y):(i=j/\x=y/\i<l.length)\/(i≠j/\l[j]? = some y):=by grind
theorem Sx.setSh(S:Sx K RT Y J Z ZV H)(h:Rep K H (λa=>RT a\/exB Y J pa a) d u):Sx K RT Y J (Z.set i (.sh pa d)) (ZV.set i (some u)) H where
 sh:=λj pa' d' e=>by
  rcases set_some e with⟨rfl,e,hl⟩|⟨B,e⟩
  cases e;exact⟨u,Az (by rw[<-S.len];exact hl),h⟩;obtain⟨v,h1,h2⟩:=S.sh j pa' d' e;grind
 own:=λj pa' ds e=>by
  rcases set_some e with⟨rfl,e,hl⟩|⟨B,e⟩
  cases e;obtain⟨a,xs,h1,h2⟩:=S.own j pa' ds e;exact⟨a,xs,by rw[Af B];exact h1,h2⟩
 trk:=S.trk
 yo:=S.yo
 tk:=S.tk
 rt:=S.rt
 inj:=λj j' pa' I ds ds' a L U W e4=>by
  rcases set_some L with⟨_,e,_⟩|⟨n1,L⟩
  cases e;rcases set_some U with⟨_,e,_⟩|⟨n2,U⟩
  cases e;rw[Af n1] at W;rw[Af n2] at e4;exact S.inj j j' pa' I ds ds' a L U W e4
 len:=by rw[Av,Av];exact S.len
 dx:=S.dx.imp id (λj ds e=>by
  rcases set_some e with⟨_,z,_⟩|⟨B,e⟩
  cases z;exact⟨e,Af B⟩) (λ_ _ _ _ _ _ e=>e) (λ_ _ e z _=>⟨e,z⟩) (λ_ _ r=>r) (λj dss e=>by
  rcases set_some e with⟨_,z,_⟩|⟨B,e⟩
  cases z;exact⟨e,Af B⟩) (λ_ _ _ _ _ _ e=>e) λp xs e z=>⟨e,z.1,z.2.1,λk pa' ds q=>by
  rcases set_some q with⟨_,w,_⟩|⟨B,q⟩
  cases w;rw[Af B];exact z.2.2 k pa' ds q⟩
theorem Rep.out{ex:Addr->Prop}(h:Rep K H ex d v)(n:H a=none)(k:K.lookup a=none):Rep K H (λb=>b=a\/ex b) d v:=
 Rep.imp (λ_ _ q=>q) (λb xs I q=>⟨λz=>z.elim (λz=>by
  subst z;rcases q with(q|⟨o,q⟩)|⟨o,B,m,q,_⟩
  rw[n] at q;cases q;rw[n] at q;cases q;grind) I,q⟩) d v h
theorem Reps.out{ex:Addr->Prop}(h:Reps K H ex d v)(n:H a=none)(k:K.lookup a=none):Reps K H (λb=>b=a\/ex b) d v:=
 Reps.imp (λ_ _ q=>q) (λb xs I q=>⟨λz=>z.elim (λz=>by
  subst z;rcases q with(q|⟨o,q⟩)|⟨o,B,m,q,_⟩
  rw[n] at q;cases q;rw[n] at q;cases q;grind) I,q⟩) d v h
theorem Sx.storeOwn(S:Sx K RT Y J Z ZV H)(s:aX H H')(t:Tk K H')(hn:H a=none)(L:H' a=some (.lst xs))(r:Reps K H' (λb=>(RT b\/b=a)\/exB Y J pa b) ds xs) :
 Sx K (λb=>RT b\/b=a) Y J (Z.set i (.own pa ds)) (ZV.set i (some (.ref a))) H' where
 sh:=λj pa' d' e=>by
  rcases set_some e with⟨rfl,e,I⟩|⟨B,e⟩
  cases e;obtain⟨v,h1,h2⟩:=S.sh j pa' d' e;refine⟨v,by rw[Af B];exact h1,((h2.out hn (t a (by rw[L];simp))).grow s).weak λb z=>?_⟩;grind
 own:=λj pa' ds' e=>by
  rcases set_some e with⟨rfl,e,I⟩|⟨B,e⟩
  cases e;exact⟨a,xs,Az (by rw[<-S.len];exact I),L,.inr rfl,λz=>S.trk a (.inr (.inr z)) hn,r⟩;obtain⟨a',W,h1,h2,h3,h4,h5⟩:=S.own j pa' ds' e;refine⟨a',W,by rw[Af B];exact h1,s _ _ h2,.inl h3,h4,((h5.out hn (t a (by rw[L];simp))).grow s).weak λb z=>?_⟩;grind
 trk:=λb z q=>by rcases z with(z|z)|z;exact S.trk b (.inl z) (s.free q);rw[z,L] at q;cases q;exact S.trk b (.inr z) (s.free q)
 yo:=S.yo
 tk:=t
 rt:=λb z=>by rcases z with z|z;exact(S.rt b z).grow s;rw[z];exact .inl ⟨xs,L⟩
 inj:=λj j' pa' U q0 q1 c e1 e2 e3 e4=>by
  have fr:∀{j:Nat} {pa:Bool} {ds:List D},Z[j]? = some (.own pa ds)->ZV[j]? = some (some (.ref a))->False:=λ{j pa ds} e q=>by obtain⟨a',W,h1,h2,_⟩:=S.own j pa ds e;rw[q] at h1;grind
  rcases set_some e1 with⟨rfl,e,I⟩|⟨n1,e1⟩
  grind;rw[Af n1] at e3;rcases set_some e2 with⟨rfl,e,I⟩|⟨n2,e2⟩
  rw[Az (by rw[<-S.len];exact I)] at e4;grind;rw[Af n2] at e4;exact S.inj j j' pa' U q0 q1 c e1 e2 e3 e4
 len:=by rw[Av,Av];exact S.len
 dx:=S.dx.imp id (λj ds e=>by
  rcases set_some e with⟨_,z,_⟩|⟨B,e⟩
  cases z;exact⟨e,Af B⟩) (λ_ _ _ _ _ _ e=>e) (λb ys e z _=>⟨s _ _ e,.inl z⟩) (λ_ _ r=>aX.seqT s r) (λj dss e=>by
  rcases set_some e with⟨_,z,_⟩|⟨B,e⟩
  cases z;exact⟨e,Af B⟩) (λ_ _ _ _ _ _ e=>e) λp ys e z=>⟨s _ _ e,.inl z.1,z.2.1,λk pa' ds q w=>by
  rcases set_some q with⟨rfl,_,I⟩|⟨B,q⟩
  rw[Az (by rw[<-S.len];exact I)] at w;grind;rw[Af B] at w;exact z.2.2 k pa' ds q w⟩
theorem kU{v:Vl}(h:v.fr=false):v.slot=.sh v.pa v.d:=by unfold Vl.slot;rw[h]
theorem aHV{v:Vl}(h:v.fr=true)(hd:v.d=.lst ds):v.slot=.own v.pa ds:=by unfold Vl.slot;rw[h,hd]
theorem Sx.store(S:Sx K RT Y J Z ZV H){v:Vl}(B:Ro K RT Y J Z ZV H H' v u)(t:Tk K H')(i:Nat) :
 ∃q,Sx K q Y J ((freeze Z v.al).set i v.slot) (ZV.set i (some u)) H'/\∀b,q b->RT b\/H b=none:=by by_cases L:v.fr=true;obtain⟨s,h⟩:=B;rw[if_pos L] at h;obtain⟨a,xs,ds,U,W,I,e4,r⟩:=h;subst U;rw[aHV L W];refine⟨_,(S.frz v.al).storeOwn s t I e4 (r.weak λb z=>?_),λb z=>z.elim (λz=>.inl z.1) λz=>.inr (by rw[z];exact I)⟩;rcases z with(z|z)|z;exact .inr (.inl z);exact .inl z;exact .inr (.inr z);rw[kU (by grind)];exact⟨_,((S.grow B.1 t).frz v.al).setSh (B.rv S),λb z=>.inl z.1⟩
theorem aJk:∀{is:List Nat} {us:List V} {ZV:L2.St} {H:Hp} {Q:L2.St->Hp->Prop},is.length=us.length->Q ((is.zip us).foldl (λs p=>s.set p.1 (some p.2)) ZV) H->gs is us ZV H Q
 | [],[],_,_,_,_,h=>⟨rfl,h⟩
 | [],_::_,_,_,_,e,_=>by simp at e|_::_,[],_,_,_,e,_=>by simp at e|i::is,u::us,ZV,H,Q,e,h=>⟨u,us,rfl,aJk (by simpa using e) h⟩
theorem yZ{v:Vl}:(v.sub d).slot=.sh (!noL d&&v.pa) d:=by rw[kU rM];unfold Vl.sub Vl.cl;grind
theorem Sx.setAll{v:Vl}:∀{is:List Nat} {ds:List D} {us:List V} {Z:Sg} {ZV:L2.St},Sx K RT Y J Z ZV H->Reps K H (λa=>RT a\/exB Y J v.pa a) ds us ->
 Sx K RT Y J ((is.zip ds).foldl (λZ p=>Z.set p.1 (v.sub p.2).slot) Z) ((is.zip us).foldl (λs p=>s.set p.1 (some p.2)) ZV) H
 | [],_,_,_,_,S,_=>S|_::_,[],us,_,_,S,r=>by rw[show us=[] from r];exact S|i::is,d::ds,us,Z,ZV,S,r=>by
  obtain⟨x,B,e,h1,h2⟩:=r;subst e;refine Sx.setAll (is:=is) ?_ h2;show Sx K RT Y J (Z.set i (v.sub d).slot) (ZV.set i (some x)) H;rw[yZ];refine S.setSh ?_;cases q:noL d with
  | true=>exact Rep.free d x q h1|false=>exact h1
theorem oN{α:Type}{q:Type}(f:q->α):∀{is:List Nat} {bs:List q} {l:List α} {j:Nat},j∉is->((is.zip bs).foldl (λs p=>s.set p.1 (f p.2)) l)[j]? = l[j]?
 | [],_,_,_,_=>rfl|_::_,[],_,_,_=>rfl|i::is,b::bs,l,j,h=>by
  have h':i≠j/\j∉is:=by grind
  rw[AV,BX,oN f h'.2,Af h'.1]
theorem zA{α:Type}{q:Type}(f:q->α):∀{is:List Nat} {bs:List q} {l:List α},((is.zip bs).foldl (λs p=>s.set p.1 (f p.2)) l).length=l.length
 | [],_,_=>rfl|_::_,[],_=>rfl|i::is,b::bs,l=>by rw[AV,BX,zA f,Av]
theorem fold_mem{α:Type}{B:Type}(f:B->α):∀{is:List Nat} {bs:List B} {l:List α} {j:Nat} {x:α},((is.zip bs).foldl (λs p=>s.set p.1 (f p.2)) l)[j]? = some x->l[j]? = some x\/∃b,x=f b
 | [],_,_,_,_,h=>.inl h|_::_,[],_,_,_,h=>.inl h|i::is,b::bs,l,j,x,h=>by
  rw[AV,BX] at h;rcases fold_mem f h with q|q;rcases set_some q with⟨_,e,_⟩|⟨_,e⟩
  exact .inr ⟨b,e.symm⟩;exact .inl e;exact .inr q
theorem rP{v:Vl}{is:List Nat}(e:bT Z v (.t is)=.ok Z2):∃ds,v.d=.tup ds/\ds.length=is.length/\Z2=(is.zip ds).foldl (λZ p=>Z.set p.1 (v.sub p.2).slot) Z:=by unfold bT at e;grind
theorem rQ{v:Vl}(e:bT Z v (.n i)=.ok Z2):Z2=Z.set i v.slot:=by cases(e);rfl
theorem aFp{q:Sg}(e:bT Z v t=.ok q)(h:j∉tIx t):q[j]? = Z[j]? := by
 cases t with
 | n i=>rw[rQ e];exact Af λz=>h (by simp[tIx,z])|t is=>obtain⟨ds,_,_,e⟩:=rP e;rw[e];exact oN (λd=>(v.sub d).slot) h
theorem aFq{q:Sg}(e:bT Z v t=.ok q):q.length=Z.length:=by
 cases t with
 | n i=>rw[rQ e,Av]|t is=>obtain⟨ds,_,_,e⟩:=rP e;rw[e];exact zA (λd=>(v.sub d).slot)
theorem aFr{v:Vl}{t:T}{B:Sg}{j:Nat}{pa:Bool}{ds:List D}(I:v.fr=false)(e:bT Z v t=.ok B)(h:B[j]? = some (.own pa ds)):Z[j]? = some (.own pa ds):=by
 cases t with
 | n i=>
  rw[rQ e,kU I] at h;rcases set_some h with⟨_,e,_⟩|⟨_,e⟩
  cases e;exact e
 | t is=>
  obtain⟨ds',_,_,e⟩:=rP e;rw[e] at h;rcases fold_mem (λd=>(v.sub d).slot) h with q|⟨b,q⟩
  exact q;rw[yZ] at q;cases q
theorem aFs(S:Sx K RT Y J Z ZV H){v:Vl}{Q:L2.St->Hp->Prop}(I:v.fr=false)(h:Rep K H (λa=>RT a\/exB Y J v.pa a) v.d u)(e:bT Z v t=.ok Z2)
 (q:∀B,Sx K RT Y J Z2 B H->(∀j,j∉tIx t->B[j]? = ZV[j]?)->Q B H):gT K t u ZV H Q:=by
 cases t with
 | n i=>rw[rQ e,kU I] at q;exact q _ (S.setSh h) λj L=>Af λz=>L (by simp[tIx,z])|t is=>obtain⟨ds,hd,W,e⟩:=rP e;rw[hd] at h;obtain⟨a,xs,rfl,U,r⟩:=h;have l2:=r.length;refine⟨a,xs,rfl,U,by omega,aJk (by omega) (q _ ?_ λj L=>?_)⟩;rw[e];exact S.setAll r;exact oN (λd=>some d) L
end
section
variable {X:Cx} {P:Pg} {Γ:Ct} {n:Nat} {RT Y J:Addr->Prop} {Z:Sg} {tg:A7} {pos:Dy}
theorem zB(M:Mc X P Γ n):∀{is:List Nat} {es:List A7},is.length=es.length->((is.zip es).all λp=>match p.2 with|.Name x _=>cD Γ p.1 x|_=>false)=true ->
 PGs X es (gs is)/\(C9 es X.env).length=is.length/\(C9 es X.env).findIdx? (·.1)=none
 | [],[],_,_=>⟨aHj,rfl,rfl⟩
 | [],_::_,e,_=>by simp at e|_::_,[],e,_=>by simp at e|i::is,e::es,hl,h=>by
  rw[AV,Dg,bA] at h;obtain⟨h1,h2,B⟩:=zB M (by simpa using hl) h.2;cases e with
  | Name x p=>have hs:=h.1;unfold cD at hs;simp only[bA,beq_iff_eq] at hs;have q:C9 (.Name x p::es) X.env=(false,Hr (.Name x p) X.env)::C9 es X.env:=rfl;refine⟨aEr (pT M.nd (by rw[M.N];exact hs.1.1) (M.loc hs.1.2) (M.st x hs.1.2)) h1 (by rw[q];rfl),?_,?_⟩;rw[q,lC,lC,h2];grind|_=>cases h.1
theorem aHW(M:Mc X P Γ n)(h:tV Γ t tg=true):PG X tg (gT X.K t):=by
 cases t with
 | n i=>
  cases tg with
  | Name x p=>have hs:cD Γ i x=true:=h;unfold cD at hs;simp only[bA,beq_iff_eq] at hs;exact pT M.nd (by rw[M.N];exact hs.1.1) (M.loc hs.1.2) (M.st x hs.1.2)|_=>cases h
 | t is=>
  cases tg with
  | Tuple es k p=>have h:(is.length==es.length&&(is.zip es).all λp=>match p.2 with|.Name x _=>cD Γ p.1 x|_=>false)=true:=h;rw[bA,beq_iff_eq] at h;obtain⟨h1,h2,q⟩:=zB M h.1 h.2;exact aJV M.calm h1 h2 q|_=>cases h
noncomputable def ch0(k:Nat)(caps:List Nat)(Z:Sg):Sg:=Am k .dead++caps.map λi=>(Z[i]?).getD .dead
theorem ch0_get{caps:List Nat}{Z:Sg}(h:(ch0 k caps Z)[j]? = some s):s=.dead\/∃q i,j=k+q/\caps[q]? = some i/\Z[i]? = some s:=by unfold ch0 at h;grind
theorem aFt(q:j<k)(h:(ch0 k caps Z)[j]? = some s):s=.dead:=by unfold ch0 at h;rw[AI (by simpa using q),Du,if_pos q] at h;cases h;rfl
theorem pV{caps:List Nat}{ZV:L2.St}(e:caps[j]? = some i)(h:ZV[i]? = some (some v)):(mL k caps ZV)[k+j]? = some (some v):=by unfold mL;rw[AD (by simp),AK,Ay,AU,e];grind
theorem pW{caps:List Nat}{ZV:L2.St}(e:caps[j]? = some i)(h:(mL k caps ZV)[k+j]? = some (some v)):ZV[i]? = some (some v):=by
 unfold mL at h;rw[AD (by simp),AK,Ay,AU,e] at h;have h':(ZV[i]?).getD none=some v:=A9 h;cases q:ZV[i]? with
 | none=>rw[q] at h';cases h'|some z=>rw[q] at h';exact congrArg some h'
theorem kW{α:Type}:∀{l:List α},l.Nodup->∀{i j:Nat} {x:α},l[i]? = some x->l[j]? = some x->i=j
 | [],_,_,_,_,h,_=>by simp at h|a::l,hn,0,0,_,_,_=>rfl|a::l,hn,0,j+1,x,h1,h2=>by grind|a::l,hn,i+1,0,x,h1,h2=>by grind|a::l,hn,i+1,j+1,x,h1,h2=>congrArg (·+1) (kW (Bg.mp hn).2 (by simpa using h1) (by simpa using h2))
theorem Sx.child{K:Fg}{ZV:L2.St}{H:Hp}(S:Sx K RT Y J Z ZV H){k:Nat}{caps:List Nat}(nd:caps.Nodup):Sx K RT Y J (ch0 k caps Z) (mL k caps ZV) H where
 sh:=λj pa d e=>by
  rcases ch0_get e with z|⟨j',i,rfl,L,hs⟩
  cases z;obtain⟨v,h1,h2⟩:=S.sh i pa d hs;exact⟨v,pV L h1,h2⟩
 own:=λj pa ds e=>by
  rcases ch0_get e with z|⟨j',i,rfl,L,hs⟩
  cases z;obtain⟨a,xs,h1,h2⟩:=S.own i pa ds hs;exact⟨a,xs,pV L h1,h2⟩
 trk:=S.trk
 yo:=S.yo
 tk:=S.tk
 rt:=S.rt
 inj:=λj1 j2 pa pa' ds ds' a U W e3 e4=>by
  rcases ch0_get U with z|⟨q0,i1,rfl,B,q2⟩
  cases z;rcases ch0_get W with z|⟨q1,i2,rfl,I,q3⟩
  cases z;have:=S.inj i1 i2 pa pa' ds ds' a q2 q3 (pW B e3) (pW I e4);subst this;rw[kW nd B I]
 len:=by unfold ch0 mL;rw[lA,lA,lM,lM,AK,AK]
 dx:=S.dx.imp (λj=>(caps[j-k]?).getD 0) (λj ds e=>by
  rcases ch0_get e with z|⟨j',i,rfl,L,hs⟩
  cases z;rw[AU,L];refine⟨hs,?_⟩;obtain⟨a,xs,h1,_⟩:=S.dx.at' i ds hs;rw[pV L h1];exact h1.symm) (λj1 j2 ds ds' U W q=>by
  rcases ch0_get U with z|⟨q0,i1,rfl,B,_⟩
  cases z;rcases ch0_get W with z|⟨q1,i2,rfl,I,_⟩
  cases z;rw[AU,AU,B,I] at q;have q:=q;subst q;rw[kW nd B I]) (λ_ _ e z _=>⟨e,z⟩) (λ_ _ r=>r) (λj dss e=>by
  rcases ch0_get e with z|⟨j',i,rfl,L,hs⟩
  cases z;rw[AU,L];refine⟨hs,?_⟩;obtain⟨a,_,h1,_⟩:=S.dx.at2 i dss hs;rw[pV L h1];exact h1.symm) (λj1 j2 ds ds' U W q=>by
  rcases ch0_get U with z|⟨q0,i1,rfl,B,_⟩
  cases z;rcases ch0_get W with z|⟨q1,i2,rfl,I,_⟩
  cases z;rw[AU,AU,B,I] at q;subst q;rw[kW nd B I]) λp xs e z=>⟨e,z.1,z.2.1,λj pa ds q w=>by
  rcases ch0_get q with v|⟨j',i,rfl,L,hs⟩
  cases v;exact z.2.2 i pa ds hs (pW L w)⟩
theorem Sx.forget{K:Fg}{Z':Sg}{ZV:L2.St}{H:Hp}(S:Sx K RT Y J Z ZV H)(hl:Z'.length=Z.length)(h:∀(j:Nat) (s:Sl),Z'[j]? = some s->s=.dead\/Z[j]? = some s):Sx K RT Y J Z' ZV H where
 sh:=λj pa d e=>by rcases h j _ e with z|z;cases z;exact S.sh j pa d z
 own:=λj pa d e=>by rcases h j _ e with z|z;cases z;exact S.own j pa d z
 trk:=S.trk
 yo:=S.yo
 tk:=S.tk
 rt:=S.rt
 inj:=λB I pa pa' ds ds' a L U W e4=>by rcases h B _ L with z|z1;cases z;rcases h I _ U with z|z2;cases z;exact S.inj B I pa pa' ds ds' a z1 z2 W e4
 len:=by rw[hl];exact S.len
 dx:=S.dx.imp id (λj ds e=>(h j _ e).elim (λz=>by cases z) λz=>⟨z,rfl⟩) (λ_ _ _ _ _ _ e=>e) (λ_ _ e z _=>⟨e,z⟩) (λ_ _ r=>r) (λj ds e=>(h j _ e).elim (λz=>by cases z) λz=>⟨z,rfl⟩) (λ_ _ _ _ _ _ e=>e) λp xs e z=>⟨e,z.1,z.2.1,λk pa ds q=>(h k _ q).elim (λw=>by cases w) λw=>z.2.2 k pa ds w⟩
noncomputable def wTs(X:Cx)(P:Pg)(n:Nat)(RT Y J:Addr->Prop)(Z:Sg)(cs:Es):TT:=λZV H Q=>Sx X.K RT Y J Z ZV H/\RE (tsts P (call P n) Z cs) λk=>∀H',Tk X.K H'->aX H H'->Q k H'
theorem aKR:PTs X [] (wTs X P n RT Y J Z .nil):=λG s ZV H Q I ⟨S,h⟩=>aHJ G s ZV H Q I ((h) H I.tk (aX.refl H))
theorem aKS(h:PT X e (WT X P n RT Y J Z c)):PTs X [e] (wTs X P n RT Y J Z (.cons c .nil)):=λG s ZV H Q I ⟨S,B⟩=>aHK h G s ZV H Q I ⟨S,by
 refine(RE.bind' (B)).mono λk q=>?_;cases k with
 | true=>exact q|false=>exact q⟩
theorem Rvs.append{K:Fg}{ZV:L2.St}{H:Hp}:∀{vs ws:List Vl} {us zs:List V},Rvs K RT Y J Z ZV H vs us->Rvs K RT Y J Z ZV H ws zs->Rvs K RT Y J Z ZV H (vs++ws) (us++zs)
 | [],_,_,_,h,q=>by rw[show _=[] from h];exact q|v::vs,_,_,_,h,q=>by obtain⟨u,r,e,h1,h2⟩:=h;subst e;exact⟨u,_,rfl,h1,Rvs.append h2 q⟩
noncomputable def lv(k:Nat)(caps al:List Nat)(v:Vl):Vl:=⟨v.d,false,v.pa,al++v.al.filterMap λj=>caps[j-k]?⟩
theorem zC{f:Vl->R (Option Vl)}(h:fD f (x::xs)=.ok rs):∃y q,f x=.ok y/\fD f xs=.ok q/\rs=(match y with|some y=>y::q|none=>q):=by
 have h:(f x >>= λy=>fD f xs >>= λq=>(match y with|some y=>R.ok (y::q)|none=>R.ok q))=R.ok rs:=h;cases B:f x with
 | ok y=>
  rw[B] at h;have h:=h;cases I:fD f xs with
  | ok q=>
   rw[I] at h;refine⟨y,q,rfl,rfl,?_⟩;cases y with
   | none=>cases(h);rfl|some y=>cases(h);rfl
  | bad=>rw[I] at h;cases h
 | bad=>rw[B] at h;cases h
theorem R.bind_ok{α q:Type}{x:R α}{f:α->R q}{b:q}(h:(x >>= f)=.ok b):∃a,x=.ok a/\f a=.ok b:=by
 cases x with
 | ok a=>exact⟨a,rfl,h⟩|bad=>cases h
theorem aFu{k:Nat}{caps:List Nat}{t:T}{it:Hp.It}{cond:Es}{elt:E}(z3:caps.Nodup)(hk:∀i∈tIx t,i<k){ZV:L2.St}{H:Hp}{Q:VK}(hw:WE X P n RT Y J Z (.comp k caps t it cond elt) ZV H Q) :
 aEU k caps (wI X P n RT Y J Z it) (gT X.K t) (λZV H Q=>∃RT Y J W,wTs X P n RT Y J W cond ZV H Q) (λZV H Q=>∃RT Y J W,WE X P n RT Y J W elt ZV H Q) ZV H λv H'=>Tk X.K H'->Q v H':=by
 obtain⟨S,h⟩:=hw
 let f:List Nat->Vl->R (Option Vl):=λal x=>bT (ch0 k caps (freeze Z al)) x t >>= λW=>tsts P (call P n) W cond >>= λb=>if b=true then (ev P (call P n) W elt >>= λy=>R.ok (some y)) else R.ok none
 refine⟨S,(RE.bind' (h)).mono λxs hx J'' H1 t1 s1 ok=>?_⟩;obtain⟨vs,evs,hv⟩:=(RE.bind' hx).eq;obtain⟨hl,hq⟩:=hv.iff;have hl:=of_decide_eq_true hl;refine⟨λi m ys q6 Hc=>m=xs.1.length-i/\i<=xs.1.length/\aX H1 Hc/\Tk X.K Hc/\Sx X.K (rtF RT Z ZV xs.2) Y J (ch0 k caps (freeze Z xs.2)) q6 Hc/\(∀j,k<=j->q6[j]? = (mL k caps ZV)[j]?) /\
  ∃ws rs,vs=ws++rs/\fD (f xs.2) (xs.1.drop i)=.ok rs/\Rvs X.K RT Y J Z ZV Hc (ws.map (lv k caps xs.2)) ys,⟨_,rfl,B6 _,aX.refl _,t1,((S.grow s1 t1).frz xs.2).child z3,λ_ _=>rfl,[],vs,rfl,evs,rfl⟩,?_⟩
 rintro i m ys q6 Hc ⟨hm,hi,sc,tc,Sc,w7,ws,rs,B,q0,q3⟩;have w3:=ok.ok (λ_=>False) (λ_ z=>z.elim) i Hc (Kp.same sc);have q9:=q3.length;rw[lM] at q9;have z6:ws.length<=vs.length:=by rw[B,lA];omega
 by_cases I:i<xs.1.length;refine .inr ⟨w3.1 I,by rw[<-q9,Cb];have:lim=1000000:=rfl;omega,λx H' hy=>?_⟩;obtain⟨sm,z4,rv⟩:=w3.2.2 x H' hy xs.1[i] (Ac I);rw[Bz I] at q0;obtain⟨yo,z5,ef,q5,w6⟩:=zC q0;obtain⟨W,q1,ef⟩:=R.bind_ok ef;obtain⟨b,eb,ef⟩:=R.bind_ok ef;have w8:=ok.nofr _ (AF I);have rep:Rep X.K H' (λa=>rtF RT Z ZV xs.2 a\/exB Y J xs.1[i].pa a) xs.1[i].d x:=Rep.weak (Rep.weak rv λa z=>.inl z) λa z=>by rcases z with z|z;exact .inl ⟨z.1,λq=>z.2 (q.mono (ok.sub _ (AF I)))⟩;exact .inr z
 refine aFs (Sc.grow sm (z4 tc)) w8 rep q1 λq7 S2 q8=>⟨_,_,_,W,S2,?_⟩
 rw[eb];intro H3 t3 s3;have L:∀j,k<=j->q7[j]? = (mL k caps ZV)[j]? := λj U=>by rw[q8 j λz=>absurd (hk j z) (HK.mpr U),w7 j U]
 have q4:∀{H5:Hp},Sx X.K (rtF RT Z ZV xs.2) Y J W q7 H5->Sx X.K (rtF RT Z ZV xs.2) Y J (ch0 k caps (freeze Z xs.2)) q7 H5:=λ{H5} S5=>S5.forget (aFq q1).symm λj s hs=>by by_cases U:j∈tIx t;exact .inl (aFt (hk j U) hs);exact .inr (by rw[aFp q1 U];exact hs)
 cases b with
 | false=>rw[if_neg bN] at ef ⊢;cases(ef);subst w6;exact⟨_,by omega,rfl,I,sc.trans (sm.trans s3),t3,q4 (S2.grow s3 t3),L,ws,rs,B,q5,q3.grow (sm.trans s3)⟩|true=>
  rw[if_pos rfl] at ef ⊢;obtain⟨y,ey,ef⟩:=R.bind_ok ef;cases(ef);subst w6;refine⟨_,_,_,W,S2.grow s3 t3,?_⟩;rw[ey];intro u H4 t4 q2;refine⟨_,by omega,rfl,I,sc.trans (sm.trans (s3.trans q2.1)),t4,q4 ((S2.grow s3 t3).grow q2.1 t4),L,ws++[y],z5,by rw[B];simp,q5,?_⟩;rw[Ax];refine(q3.grow (sm.trans (s3.trans q2.1))).append ⟨u,[],rfl,?_,rfl⟩;refine(q2.rv (S2.grow s3 t3)).weak λc z=>?_;rcases z with⟨z1,z2⟩|z;refine .inl ⟨⟨z1,λq=>z2 (q.mono λj U=>AY _ U)⟩,λq=>z2 ?_⟩;obtain⟨j,U,⟨pa,ds,ho⟩,hV⟩:=q;rcases ch0_get (aFr w8 q1 ho) with z|⟨j',i',rfl,hc,hs⟩
  cases z;rw[L _ (Nat.le_add_right _ _)] at hV;refine⟨i',A5 _ (Cc.mpr ⟨k+j',U,by rw[AU];exact hc⟩),⟨pa,ds,(fN hs).1⟩,pW hc hV⟩;exact .inr z
 have w9:i=xs.1.length:=by omega
 subst w9;rw[EG] at q0;cases(q0);rw[Bu] at B;subst B;refine .inl ⟨w3.2.1 (Ao _),by rw[<-q9];exact oH hl,λp hp t'=>hq _ _ t' ?_⟩;have w4:=S.grow (s1.trans sc) tc;have w5:(vs.map (lv k caps xs.2)).map (·.d)=vs.map (·.d):=by rw[As];rfl
 have rr:Reps X.K Hc (exV RT Y J Z ZV (dX vs) (xs.2++(bZ vs).filterMap λj=>caps[j-k]?)) (vs.map (·.d)) ys:=by rw[<-w5];refine q3.reps λv hv=>?_;obtain⟨w,hw,e⟩:=A8.mp hv;subst e;refine⟨λz=>yT hw z,λj U=>?_⟩;rcases Bl.mp U with z|z;grind;obtain⟨j',z0,e⟩:=Cc.mp z;exact A5 _ (Cc.mpr ⟨j',pG hw j' z0,e⟩)
 unfold fE;split;rename_i hn;exact(Ro.fresh hp t' rfl rfl w4 (Reps.free _ _ hn rr)).from (s1.trans sc)
 exact(Ro.fresh hp t' rfl rfl w4 rr).from (s1.trans sc)
theorem aKT(M:Mc X P Γ n){k:Nat}{caps:List Nat}{t:T}{it:Hp.It}{cond:Es}{elt:E}{e q:A7}{U:List A7}{scope:Da}{N':List Str}(CS:eD X scope k caps N')(q0:caps.Nodup)(hk:∀i∈tIx t,i<k)
 (hi:PI X tg q (wI X P n RT Y J Z it))
 (W:∀C s₀ H₀ ex,PG (fB X scope N' C s₀ H₀ ex) tg (gT X.K t)/\(∀RT Y J B,PTs (fB X scope N' C s₀ H₀ ex) U (wTs X P n RT Y J B cond))/\∀RT Y J B,PE (fB X scope N' C s₀ H₀ ex) e (WE X P n RT Y J B elt))
 (hs:∀x,BU q X.env x=pure x):PE X (.ListComp e [⟨tg,q,U,0⟩] scope pos) (WE X P n RT Y J Z (.comp k caps t it cond elt)):=by refine(aBX CS M.calm hi (λC s₀ H₀ ex=>?_) hs).imp λZV H Q t0 L=>aFu q0 hk L;obtain⟨h1,h2,h3⟩:=W C s₀ H₀ ex;exact⟨h1,λG s ZV H Q I ⟨RT,Y,J,B,L⟩=>h2 RT Y J B G s ZV H Q I L,λG s ZV H Q I ⟨RT,Y,J,B,L⟩=>h3 RT Y J B G s ZV H Q I L⟩
end
end Hp
namespace L2
open PySem PySem.Spec PyProof.Rows
set_option maxRecDepth 100000
noncomputable def all16:List (List Nat):=(Ai 16).map λm=>(Ai 4).filter λk=>m / 2 ^ k % 2==1
noncomputable def lR(led:Bool)(ks:List Nat):SetTable:={ mask:=7,place:=ks.toArray,dummies:=#[],finger:=0,led:=led,moves:=0,plain:=true }
noncomputable def aHX(k:Nat)(ks:List Nat):Nat:=Er ks.toArray k
noncomputable def jF(k:Nat)(ks:List Nat):List Nat:=ks.take (aHX k ks)++k::ks.drop (aHX k ks)
theorem aFv:∀led:Bool,∀ks∈all16,∀k∈Ai 4,k∉ks->(lR led ks).freeSlot (k:Int)=some (k,false)/\(lR led ks).put k=(lR led (jF k ks),aHX k ks)/\(lR led (jF k ks)).fits (ks.length+1)=true/\(lR led (jF k ks)).tooFull=false/\jF k ks∈all16:=by decide +kernel
theorem iI:∀led:Bool,∀ks∈all16,(lR led ks).fits ks.length=true:=by decide +kernel
theorem aJl:∀k∈Ai 4,Hk (k:Int)=(k:Int):=by decide +kernel
noncomputable def dH(tok:Nat->Ho)(ks:List Nat):Array (Int×Ad):=(ks.map λ(k:Nat)=>((k:Int),BH (k:Int) (tok k))).toArray
theorem bX(tok:Nat->Ho)(ks:List Nat):(dH tok ks).size=ks.length:=by unfold dH;rw[Aj,lM]
theorem zD{α:Type}(l:List α)(p:Nat)(x:α):Ey l.toArray p x=(l.take p++x::l.drop p).toArray:=by unfold Ey;grind
theorem aKU(tok:Nat->Ho)(t:Ho)(B:k∉ks):Ey (dH tok ks) (aHX k ks) ((k:Int),BH (k:Int) t)=dH (λj=>if j=k then t else tok j) (jF k ks):=by
 unfold dH jF;rw[zD,Ax,mC,Cy,CI];have e:(ks.map λ(j:Nat)=>((j:Int),BH (j:Int) (if j=k then t else tok j)))=ks.map λ(j:Nat)=>((j:Int),BH (j:Int) (tok j)):=Bf λj q=>by rw[if_neg λz=>B (by rw[<-z];exact q)]
 rw[e];simp
section
variable {prog:A2} {w:AL} {A:Be} {E:Ad->Ag->Prop} {s:Ag}
noncomputable def byT(w:AL):Bool:=w.params.followText "set-order"
noncomputable def jD(w:AL)(h:Heap)(S:Addr)(ks:List Nat):Prop:=ks∈all16/\∃tok ep,h.get? S=some { cls:=.type "set",dict:=none,data:=.set (dH tok ks) ep (lR (!byT w) ks),slots:=#[] }
theorem aNR{tok:Nat->Ho}(h:ks∈all16):ElemsOf (D6 prog w) (dH tok ks).toList:=by
 intro e q;unfold dH at q;rw[Dd] at q;obtain⟨k,I,rfl⟩:=A8.mp q;have B:k∈Ai 4:=by obtain⟨m,_,rfl⟩:=A8.mp h;grind
 exact⟨⟨(k:Int),Gb _ _ _ _,(aJl k B).symm⟩,rfl⟩
theorem aNS{tok:Nat->Ho}{ks:List Nat}(k:Nat):((dH tok ks).toList.findIdx? λe=>(D6 prog w).is (k:Int) e.2)=if k∈ks then ks.findIdx? (·==k) else none:=by
 unfold dH;rw[Dd,List.findIdx?_map];have e:((λe:Int×Ad=>(D6 prog w).is (k:Int) e.2)∘λj:Nat=>((j:Int),BH (j:Int) (tok j)))=λj:Nat=>(j==k):=by
  funext j
  show Ft (k:Int) (BH (j:Int) (tok j))=(j==k)
  unfold Ft;grind
 rw[e];grind
theorem aQq{Q:Bool->Ag->Prop}(hS:jD w s.heap S ks)(hk:k∈Ai 4)
 (h:∀h' b,B9 S s.heap h'->jD w h' S (if k∈ks then ks else jF k ks)->Q b { s with heap:=h' }):Aw (AA prog w) A (II S (.int (k:Int) t) (Hk (k:Int))) Q E s:=by
 obtain⟨B,tok,ep,U⟩:=hS;have hf:(lR (!byT w) ks).fits (dH tok ks).size=true:=by rw[bX];exact iI _ ks B
 have q0:ks.length<=4:=by
  have:∀ks∈all16,ks.length<=4:=by decide +kernel
  exact this ks B
 have hb:(dH tok ks).size<CW:=by rw[bX];unfold CW;omega
 unfold II setAddHashedIn;refine B8 (Aa (D8 U rfl hf ?_));dsimp only;rw[byScan_of (knd:=D6 prog w) rfl hb (aNR B)];simp only[↓reduceIte];unfold setAddByScan;refine Aa ?_;refine Aa (DG ?_);refine Aa (wpAny_setScan_of (knd:=D6 prog w) (k:=(k:Int)) (Gb _ _ _ _) U rfl hf (aNR B) ?_);rw[aNS];by_cases I:k∈ks;rw[if_pos I];obtain⟨j,hj⟩:∃j,ks.findIdx? (·==k)=some j:=by
  cases q:ks.findIdx? (·==k) with
  | some j=>grind|none=>rw[List.findIdx?_eq_none_iff] at q;have:=q k I;simp at this
 rw[hj];dsimp only;refine Ah (Ah ?_);have:=h s.heap false (J4 S s.heap) (by rw[if_pos I];exact⟨B,tok,ep,U⟩);exact this;rw[if_neg I];dsimp only;obtain⟨g1,g2,g3,g4,g5⟩:=aFv (!byT w) ks B k hk I;have L:layNew (lR (!byT w) ks) (dH tok ks) (Hk (k:Int)) (.int (k:Int) t)=(dH (λj=>if j=k then t else tok j) (jF k ks),lR (!byT w) (jF k ks),false,false):=by
  have hsz:(dH (λj=>if j=k then t else tok j) (jF k ks)).size=ks.length+1:=by rw[bX];unfold jF;rw[lA,lC,A0,Bw];grind
  unfold layNew;rw[aJl k hk,g1];dsimp only;rw[g2];dsimp only;rw[aKU tok t I,hsz,show(lR (!byT w) (jF k ks)).orStandIn (ks.length+1)=lR (!byT w) (jF k ks) by unfold Ju;rw[g3,if_pos rfl],g3];rfl
 rw[L];dsimp only;refine Aa (Ah ?_);rw[if_pos (show(lR (!byT w) (jF k ks)).plain=true from rfl),hashByValue_scannable 8 (x:=.int (k:Int) t) rfl];refine Aa (Ah ?_);rw[if_pos (show plainKind (.int (k:Int) t)=true from rfl)];have W:(dH (λj=>if j=k then t else tok j) (jF k ks)).size<CW:=by
  have:∀ks∈all16,ks.length<=4:=by decide +kernel
  have:=this _ g5;rw[bX];unfold CW;omega
 refine Aa (wpAny_storeSet_of U rfl ?_ (fits_of_scanBound W));rw[g4];refine Ah ?_;refine Ah (h _ true (DY s.heap S _) ?_);rw[if_neg I];refine⟨g5,λj=>if j=k then t else tok j,ep+1,?_⟩;have:=DC (Obj.putSet (dH (λj=>if j=k then t else tok j) (jF k ks)) (lR (!byT w) (jF k ks))) U rfl;exact this
end
noncomputable def aAU(ks:List Nat)(k:Nat):List Nat:=if k∈ks then ks else jF k ks
noncomputable def pP(ns:List Nat):List Nat:=ns.foldl aAU []
theorem aDx(ns:List Nat)(k:Nat):pP (ns++[k])=aAU (pP ns) k:=by unfold pP;rw[CO];rfl
noncomputable def aFw(vs:List Ad)(ns:List Nat):Prop:=CP (λv (n:Nat)=>n<4/\∃t,v=BH (n:Int) t) vs ns
theorem aFw.get:∀{vs:List Ad} {ns:List Nat},aFw vs ns->∀{i:Nat} {v:Ad},vs[i]? = some v->∃n,ns[i]? = some n/\n<4/\∃t,v=BH (n:Int) t
 | _,_,.nil,_,_,h=>by simp at h|_,_,.cons r _,0,_,h=>by simp at h;subst h;exact⟨_,rfl,r⟩|_,_,.cons _ t,i+1,v,h=>by obtain⟨k,h1,h2⟩:=aFw.get t (i:=i) (v:=v) (by simpa using h);exact⟨k,by simpa using h1,h2⟩
section
variable {prog:A2} {w:AL} {A:Be} {R:FX->Ag->Prop} {I:Addr} {fp wr:List Addr} {G':Array Fu->Array Fu->Prop} {n:Nat} {P:Nat->Ad->Prop} {St:Nat->Ag->Prop}
theorem jD.keep{h h':Heap}(x:jD w h S ks)(e:∀o,h.get? S=some o->h'.get? S=some o):jD w h' S ks:=by obtain⟨a,tok,ep,q⟩:=x;exact⟨a,tok,ep,e _ q⟩
theorem aDy(B:WalksS prog w A.in1 I fp wr G' n P St)(S:Addr)(U:S∉fp)(ns:List Nat)(q4:∀i v,P i v->∃k,ns[i]? = some k/\k<4/\∃t,v=BH (k:Int) t)(hn:ns.length=n) :
 ∀(m i:Nat) (s:Ag),n-i=m->i<=n->St i s->jD w s.heap S (pP (ns.take i)) ->
  (∀s',Moved (S::wr) G' s s'->jD w s'.heap S (pP ns)->R (.ok (.ret .none)) s') ->
  DK (AA prog w) A (.builtin "set.update.loop" ⟨[.ref S,.ref I],[]⟩) R s:=by
 have nw:S∉wr:=λh=>U (B.sub _ h);have sb:∀b∈wr,b∈S::wr:=λb W=>Al _ W;intro m
 induction m with
 | zero=>
  intro i s hk hi q hS hR;obtain rfl:i=n:=by omega
  refine BJ B3 ?_;rw[BC AW _];show Aw _ A.in1 (CK (.ref I) >>= _) _ _ s;refine Aa (B.done s _ _ q λs' hm=>?_);show Aw _ A.in1 (ret Cr) _ _ s';rw[BE (by omega)] at hS;exact Ah (hR s' (hm.mono sb) (hS.keep λo e=>hm.heap S o nw e))
 | succ m ih=>
  intro i s hk hi q hS hR;have q0:i<n:=by omega
  refine BJ B3 ?_;rw[BC AW _];show Aw _ A.in1 (CK (.ref I) >>= _) _ _ s;refine Aa (B.item i s _ _ q0 q λv s' hP q3 hm=>?_);obtain⟨k,q8,q9,t,rfl⟩:=q4 i v hP;have q5:jD w s'.heap S (pP (ns.take i)):=hS.keep λo e=>hm.heap S o nw e;have w3:ns.take (i+1)=ns.take i++[k]:=by rw[D7,q8];rfl
  show Aw _ A.in1 (FC [BH (k:Int) t] (Js S (BH (k:Int) t)) >>= _) _ _ s';refine Aa (B8 ?_);unfold Js;refine B8 ?_;refine Aa ((D6 prog w).pyHash (k:=(k:Int)) (Gb _ _ _ _) ?_);refine aQq (s:={ s' with toks:=s'.toks+1 }) q5 (AC.mpr q9) λh' b q2 q6=>?_;have q7:jD w h' S (pP (ns.take (i+1))):=by rw[w3,aDx];exact q6
  refine Ah ⟨DL AW _,ih (i+1) _ (by omega) q0 (B.frame _ s' _ _ q3 (CT _) λb W o e=>?_) q7 λw4 q1 L=>?_⟩;rw[q2.2 b λh:b=S=>U (by rw[<-h];exact W)];exact e;refine hR w4 (Jc B.gtrans ((hm.mono sb).then_heap (CT _) λb o W e=>?_) q1) L;rw[q2.2 b λh:b=S=>W (by rw[h];grind)];exact e
end
section
variable {prog:A2} {w:AL} {A:Be} {E:Ad->Ag->Prop} {s:Ag}
theorem aFx(a:Ad){Q₁:Ad->Ag->Prop}(h:Q₁ (.ref s.heap.objs.size) { s with heap:=s.heap.push { cls:=.type "set",dict:=none,data:=.set #[] 0 (.fresh 0 0 (!byT w)) } }) :
 DK (AA prog w) A (.call (.builtin "set.__new__") ⟨[.type "set",a],[]⟩) (wants Q₁ E) s:=by
 refine Ff ?_;show Aw _ A.in1 (do checkBuiltinCall "set.__new__" ⟨[.type "set",a],[]⟩;again (.builtin "set.__new__" ⟨[.type "set",a],[]⟩)) _ _ s;refine Aa (GW (F.newCall_set_1 a) (Ah ⟨DL He _,BJ F.entry_set_new ?_⟩));rw[BC He _];unfold C4.«set.__new__» HL;have q:=sub_set_self;obtain⟨B,g,d,tk,os⟩:=s;dsimp only
 wp_walk
 refine CY (Ah ?_);dsimp only;simp only[newObj];refine Aa (wpAny_alloc (Ah ?_));exact Ah h
set_option maxHeartbeats 3200000 in
theorem aDz{items:Array Ad}{ns:List Nat}{Q:Ad->Ag->Prop}(hh:A.handled=none)(hl:s.heap.IsList l items)(hi:aFw items.toList ns)(hn:ns.length=items.size)
 (h:∀(h':Heap) (tk:Nat),jD w h' s.heap.objs.size (pP ns)->(∀b o,b<s.heap.objs.size->s.heap.get? b=some o->h'.get? b=some o)->Q (.ref s.heap.objs.size) { s with heap:=h',toks:=tk }) :
 Aw (AA prog w) A (call (.type "set") [.ref l]) Q E s:=by
 obtain⟨c,tl,w8⟩:=AH.mro;have w4:=AH.made;have z1:=AH.sub;refine Hw (Ff ?_);show Aw _ _ (callAny (.type "set") _) _ _ _;refine Ah ⟨Gd _ (by decide +kernel),BJ G1 ?_⟩;rw[Ge (Fk "set" [.ref l] []) rfl];have h1:=AH.notType;have h2:=AH.canCreate;have z4:=EX (.ref l)
 repeat (any_goals (first|assumption|wp_step))
 refine CV (aFx (.ref l) (E:=E) (Q₁:=λobj I=>obj=.ref s.heap.objs.size/\I={ s with heap:=s.heap.push { cls:=.type "set",dict:=none,data:=.set #[] 0 (.fresh 0 0 (!byT w)) } }) ⟨rfl,rfl⟩) λr I hr=>?_;cases r with
 | error e=>exact hr|ok fl=>
  cases fl with
  | ret obj=>
   obtain⟨rfl,rfl⟩:=hr;generalize q4:(!byT w)=led at *;have hS:(s.heap.push { cls:=.type "set",dict:=none,data:=.set #[] 0 (.fresh 0 0 led) }).get? s.heap.objs.size=some { cls:=.type "set",dict:=none,data:=.set #[] 0 (.fresh 0 0 led) }:=An _ rfl;have hT:Ik { s with heap:=s.heap.push { cls:=.type "set",dict:=none,data:=.set #[] 0 (.fresh 0 0 led) } } (.ref s.heap.objs.size) "set" := ⟨_,hS,rfl⟩
   have z6:=AH.init.lookup;have z3:=AH.init.bind (.ref s.heap.objs.size)
   repeat (any_goals (first|assumption|wp_step))
   refine CV (Fy (R:=wants (λr L=>r=.none/\∃h' tk,L={ s with heap:=h',toks:=tk }/\jD w h' s.heap.objs.size (pP ns) /\
    (∀b o,b<s.heap.objs.size->s.heap.get? b=some o->h'.get? b=some o)) E) AH.init.plain GG (GH hT ?_)) λq7 L q=>?_
   . obtain⟨ol,q5,q1,nl,q2⟩:=hl;obtain⟨z2,q0,w5,B⟩:=ol;simp only at q1 q2;subst q1;subst q2;have q6:(s.heap.push { cls:=.type "set",dict:=none,data:=.set #[] 0 (.fresh 0 0 led) }).get? l=some { cls:=.type "list",dict:=q0,data:=.seq items nl,slots:=B }:=Ab _ q5;have z0:=Fz;have w9:=Ep;have z7:(Eh "list" == Eh "dict")=false:=by decide
     have q3:(s.heap.push { cls:=.type "set",dict:=none,data:=.set #[] 0 (.fresh 0 0 led) }).IsList l items:=⟨_,q6,rfl,nl,rfl⟩
     unfold C4.«set.__init__» noKeywords DT;generalize q8:FV=PI
     wp_walk
     subst q8;refine BS q3 ?_;refine Aa (F0 ?_);have z5:l<s.heap.objs.size:=Aq q5;have q9:A.in1.in1.in1.handled=none:=by simp[hh]
     have hsz:(s.heap.push { cls:=.type "set",dict:=none,data:=.set #[] 0 (.fresh 0 0 led) }).objs.size=s.heap.objs.size+1:=Bq _ _;refine aDy ((Gc q9 _ l (by rw[hsz];grind) items).toS) s.heap.objs.size
      (by
       rw[hsz];grind) ns
      (λi v hv=>hi.get (by rw[BL];exact hv)) hn (items.size-0) 0 _ (by omega) (B6 _)
      ⟨⟨_,An _ rfl,rfl,rfl⟩,(q3.push _)⟩ ?hS0 ?hR
     case hS0=>refine⟨show([]:List Nat)∈all16 by decide +kernel,λ_=>0,0,?_⟩;rw[q4];exact Ab _ hS
     case hR=>intro s' hm W;obtain⟨h',g',d',w7,w6⟩:=s';have eg:g'=s.gens:=hm.gens;have ed:d'=s.drawn:=hm.drawn;have eo:w6=s.os:=hm.os;subst eg;subst ed;subst eo;show Aw _ _ _ _ _ _;refine Ah ?_;show Aw _ _ (ret Cr) _ _ _;refine Ah ⟨rfl,h',w7,rfl,W,λb o hb e=>?_⟩;refine hm.heap b o ?_ (Ab _ (Ab _ e));rw[hsz];grind
   . cases q7 with
     | error e=>exact q|ok U=>
      cases U with
      | ret r=>
       obtain⟨rfl,h',tk,rfl,W,w3⟩:=q
       repeat (any_goals (first|assumption|wp_step))
       exact h _ _ W w3
      | _=>exact q.elim
  | _=>exact hr.elim
end
set_option maxRecDepth 100000
theorem dJ:Slot "set_iterator" "__next__" "set_iterator.__next__" :=
 .of (owner:= "set_iterator") (n:= "__next__") (by rw[Hf,Fl];kernel_rfl) (by decide +kernel) (by decide +kernel) (by decide +kernel)
  (by first|exact .inl (by decide +kernel)|exact .inr (by decide +kernel)) (by rw[FA];kernel_rfl)
theorem jE:Jf table "set_iterator.__next__" = some C4.«set_iterator.__next__»:=entryFor_of_tree (by kernel_rfl)
theorem jQ(a:Ad):Jv "set_iterator.__next__" ⟨[a],[]⟩:=by unfold Jv;kernel_rfl
theorem rR:Jf table "set.__iter__" = some C4.«frozenset.__iter__»:=
 HM (id':= "frozenset.__iter__") (by kernel_rfl) rfl (by decide +kernel) (by kernel_rfl)
theorem jR:Slot "set_iterator" "__iter__" "set_iterator.__iter__" :=
 .of (owner:= "set_iterator") (n:= "__iter__") (by rw[Hf,Fl];kernel_rfl) (by decide +kernel) (by decide +kernel) (by decide +kernel)
  (by first|exact .inl (by decide +kernel)|exact .inr (by decide +kernel)) (by rw[FA];kernel_rfl)
theorem pQ:Jf table "set_iterator.__iter__" = some C4.«dict_keyiterator.__iter__»:=
 HM (id':= "dict_keyiterator.__iter__") (by kernel_rfl) rfl (by decide +kernel) (by kernel_rfl)
theorem rS(a:Ad):Jv "set_iterator.__iter__" ⟨[a],[]⟩:=by unfold Jv;kernel_rfl
theorem rT{α:Type}:∀(l:List α) (j:Nat) (h:j<l.length),(l[j]::l.eraseIdx j).Perm l
 | [],_,h=>absurd h (CH _)|a::l,0,_=>JG _|a::l,j+1,h=>(JH a (l[j]'(by simpa using h)) _).trans ((rT l j (by simpa using h)).cons a)
theorem uQ{α:Type}(next:Nat->Nat):∀(q k:Nat) (left:List α) (out:Array α),left.length=q->(G5 next q k left out).toList.Perm (out.toList++left)
 | 0,_,left,out,h=>by have:left=[]:=List.eq_nil_of_length_eq_zero h;subst this;rw[G5,Bu]|q+1,k,left,out,h=>by rw[G5,Ac (HN _ (by omega))];dsimp only;refine(uQ next q (k+1) _ _ (by rw[BF (HN _ (by omega))];omega)).trans ?_;rw[Array.toList_push,Ba];exact IR _ (rT _ _ (HN _ (by omega)))
noncomputable def tW(w:AL)(S:Addr)(ep:Nat)(es:Array (Int×Ad)):Array (Int×Ad):=if byT w then pickOrder (w.params.setOrder S ep) es else es
theorem zF(w:AL)(S:Addr)(ep:Nat)(es:Array (Int×Ad)):(tW w S ep es).toList.Perm es.toList:=by unfold tW;split;unfold pickOrder;refine(uQ _ _ _ _ _ (by rw[B1])).trans ?_;simp;grind
theorem jS(w:AL)(S:Addr)(ep:Nat)(es:Array (Int×Ad)):(tW w S ep es).size=es.size:=by rw[<-B1,(zF w S ep es).length_eq,B1]
noncomputable def aAV(ks:List Nat):Nat->Nat
 | 0=>0|i+1=>ks.getD i 0+1
noncomputable def slotV(w:AL)(ks:List Nat)(i:Nat):Nat:=if byT w then 0 else aAV ks i
theorem aKV:∀ks∈all16,∀i∈Ai 5,i<=ks.length->Er ks.toArray (aAV ks i)=i:=by decide +kernel
section
variable {prog:A2} {w:AL} {A:Be} {E:Ad->Ag->Prop} {s:Ag}
noncomputable def aAW(w:AL)(tok:Nat->Ho)(ep:Nat)(ks:List Nat):Obj:={ cls:=.type "set",dict:=none,data:=.set (dH tok ks) ep (lR (!byT w) ks),slots:=#[] }
noncomputable def rV(w:AL)(S:Addr)(ep:Nat)(ks:List Nat)(i:Nat):Obj:={ cls:=.type "set_iterator",dict:=none,data:=.fields #[BW (slotV w ks i),BW i,.ref S,BW ks.length,BW ep],slots:=#[] }
variable {S I:Addr} {tok:Nat->Ho} {ep i:Nat} {ks:List Nat}
theorem aJm{Q:Option (Ad×Nat)->Ag->Prop}(q:ks∈all16)(ho:s.heap.get? S=some (aAW w tok ep ks))(hi:i<=ks.length)
 (h:Q (((tW w S ep (dH tok ks))[i]?).map λe=>(e.2,slotV w ks (i+1))) s):Aw (AA prog w) A (IJ S (slotV w ks i) i ep) Q E s:=by
 unfold IJ;refine Aa (D8 ho rfl (by rw[bX];exact iI _ ks q) ?_);dsimp only;unfold HP;refine Aa (Aa (CY (Ah ?_)));show Aw _ _ (if byT w=true then _ else _) _ _ s;unfold tW slotV at h;unfold slotV;cases U:byT w with
 | true=>rw[U,if_pos rfl,if_pos rfl] at h;rw[if_pos rfl,if_pos rfl];rw[if_neg (by simp)];unfold setWalk;refine Aa (Aa (D8 ho rfl (by rw[bX];exact iI _ ks q) ?_));dsimp only;unfold HP;refine Aa (Aa (CY (Ah ?_)));show Aw _ _ (if byT w=true then _ else _) _ _ s;rw[U,if_pos rfl];refine Aa (CY (Ah ?_));exact Ah h|false=>
  rw[U,if_neg bN,if_neg bN] at h;rw[if_neg bN,if_neg bN];show Aw _ _ (if (!true&&decide ((dH tok ks).size>1))=true then _ else _) _ _ s;rw[if_neg (by simp)];refine Aa ?_;show Aw _ _ (if (!(!false)&&!(dH tok ks).isEmpty)=true then _ else _) _ _ s;rw[if_neg (by simp)];refine Ah ?_;have W:=aKV ks q i (AC.mpr (by
   have:∀ks∈all16,ks.length<=4:=by decide +kernel
   have:=this ks q;omega)) hi
  show Aw _ _ (pure (match (dH tok ks)[Er ks.toArray (aAV ks i)]?,ks.toArray[Er ks.toArray (aAV ks i)]? with
   | some (_,x),some j=>some (x,j+1)|_,_=>none)) _ _ s
  rw[W];refine Ah ?_;have e:(match (dH tok ks)[i]?,ks.toArray[i]? with|some (_,x),some j=>some (x,j+1)|_,_=>none)=((dH tok ks)[i]?).map λe=>(e.2,aAV ks (i+1)):=by
   by_cases B:i<ks.length;have L:(dH tok ks)[i]? = some ((ks[i]:Int),BH (ks[i]:Int) (tok ks[i])):=by unfold dH;rw[DD,Ay,Ac B];rfl
   have e2:ks.toArray[i]? = some ks[i]:=by rw[DD,Ac B]
   rw[L,e2];simp[B,aAV];have L:(dH tok ks)[i]? = none:=by unfold dH;rw[DD,Ay,Bb (by omega)];rfl
   rw[L];rfl
  rw[e];exact h
theorem aNT{e:Int×Ad}{Q:Option Ad->Ag->Prop}(q:ks∈all16)(U:s.heap.get? S=some (aAW w tok ep ks))(B:s.heap.get? I=some (rV w S ep ks i))(q1:S≠I)(L:(tW w S ep (dH tok ks))[i]? = some e)
 (hQ:∀h',h'.get? I=some (rV w S ep ks (i+1))->B9 I s.heap h'->Q (some e.2) { s with heap:=h' }):Aw (AA prog w) A (CK (.ref I)) Q E s:=by
 have q0:i<ks.length:=by have:=(Array.getElem?_eq_some_iff.mp L).1;rw[jS,bX] at this;exact this
 unfold CK;refine Aa (Di (AS (⟨_,B,rfl⟩) dJ (Bh dJ (⟨_,B,rfl⟩) jE ?_ (jQ _))));unfold C4.«set_iterator.__next__» Jg;simp only[DI,CJ,bF,↓reduceIte,bind_assoc,lN,bne_self_eq_false];refine Aa (Ah ?_)
 try dsimp only
 refine Aa (HQ B rfl ?_);show Aw _ _ (setEntries S >>= _) _ _ s;refine Aa (DZ U rfl (by rw[bX];exact iI _ ks q) ?_);rw[if_neg (by rw[bX];simp)];show Aw _ _ (IJ S ((slotV w ks i:Int).toNat) ((i:Int).toNat) ((ep:Int).toNat) >>= _) _ _ s;rw[B7,B7,B7];refine Aa (aJm q U (by omega) ?_);rw[L];dsimp only[Option.map_some];refine Aa (AQ B (by simp) λh1 g1 W=>?_);refine Aa (AQ g1 (by simp) λh2 g2 b2=>?_);refine Ah ⟨e.2,rfl,Ah (hQ h2 ?_ (W.trans b2))⟩;rw[g2];simp[rV,BW]
theorem aQr{Q:Option Ad->Ag->Prop}(L:A.handled=none)(q:ks∈all16)(U:s.heap.get? S=some (aAW w tok ep ks))(B:s.heap.get? I=some (rV w S ep ks ks.length))
 (hQ:∀h',F5 I s.heap h'->Q none { s with heap:=h' }):Aw (AA prog w) A (CK (.ref I)) Q E s:=by
 have he:(tW w S ep (dH tok ks))[ks.length]? = none:=by rw[Array.getElem?_eq_none_iff,jS,bX];grind
 unfold CK;refine Aa (Di (AS (⟨_,B,rfl⟩) dJ (Bh dJ (⟨_,B,rfl⟩) jE ?_ (jQ _))));unfold C4.«set_iterator.__next__» Jg;simp only[DI,CJ,bF,↓reduceIte,bind_assoc,lN,bne_self_eq_false];refine Aa (Ah ?_)
 try dsimp only
 refine Aa (HQ B rfl ?_);show Aw _ _ (setEntries S >>= _) _ _ s;refine Aa (DZ U rfl (by rw[bX];exact iI _ ks q) ?_);rw[if_neg (by rw[bX];simp)];show Aw _ _ (IJ S ((slotV w ks ks.length:Int).toNat) ((ks.length:Int).toNat) ((ep:Int).toNat) >>= _) _ _ s;rw[B7,B7,B7];refine Aa (aJm q U (Ao _) ?_);rw[he];dsimp only[Option.map_none];refine Aa (AQ B (by simp) λh1 g1 W=>?_);show Aw _ _ (Jt (.type "StopIteration") [] >>= _) _ _ _;refine Aa ?_;simp only[Jt,Jd];refine Aa (Bm ?_ (by size_fits));refine Aa (GW (by first|rfl|(simp only[HI];rfl)) ?_);refine Bm ?_ (by size_fits);simp only[raiseNew];refine Aa (Il ?_)
 first|rw[show A.in1.handled=none from L]|rw[L]
 refine Aa (Ah (Je ?_));refine Aa (DH ⟨_,An _ rfl,rfl⟩ F9 ?_);exact Ah (hQ _ ((W.extBut.push _).push _))
theorem aKW(hh:A.handled=none)(q:ks∈all16)(L:S≠I):Walks prog w A I [I,S] [I] ks.length (λi v=>∃e,(tW w S ep (dH tok ks))[i]? = some e/\v=e.2) (λi h=>h.get? I=some (rV w S ep ks i)/\h.get? S=some (aAW w tok ep ks)) where
 sub:=λb W=>by rw[AE.mp W];grind
 frame:=λi h h' st k=>⟨k I Ar _ st.1,k S (Al _ (AE.mpr rfl)) _ st.2⟩
 item:=λi s Q E hi st B=>by refine aNT q st.2 st.1 L (Ci (by rw[jS,bX];exact hi)) λh' g b=>B _ h' s.toks ⟨_,Ci (by rw[jS,bX];exact hi),rfl⟩ ⟨g,?_⟩ λc o U e=>?_;rw[b.2 S L];exact st.2;rw[b.2 c λz=>U (by rw[z];grind)];exact e
 done:=λs Q E st B=>aQr hh q st.2 st.1 λh' b=>B h' s.toks λc o U e=>b c o (λz=>U (by rw[z];grind)) e
 self:=λi s Q E st B=>by refine G6 (⟨_,st.1,rfl⟩) jR (Bh jR (⟨_,st.1,rfl⟩) pQ ?_ (rS _));show Aw _ _ (ret (.ref I)) _ _ s;exact Ah ⟨_,rfl, "set_iterator",_,(⟨_,st.1,rfl⟩),dJ.lookup,B⟩
theorem aNU{Q:Ad->Ag->Prop}(B:ks∈all16)(q:s.heap.get? S=some (aAW w tok ep ks))(h:Q (.ref s.heap.objs.size) { s with heap:=s.heap.push (rV w S ep ks 0) }):Aw (AA prog w) A (FV (.ref S)) Q E s:=by
 have L:(lR (!byT w) ks).fits (dH tok ks).size=true:=by rw[bX];exact iI _ ks B
 refine G6 (⟨_,q,rfl⟩) Fm (Bh Fm (⟨_,q,rfl⟩) rR ?_ (PySem.F.args_set_iter_1 _));unfold C4.«frozenset.__iter__» IA Jg;simp only[DI,CJ,bF,↓reduceIte,bind_assoc,lN,bne_self_eq_false];unfold Im Io;refine Aa (Ah ?_)
 try dsimp only
 refine Aa (Ah ?_);refine Aa (Aa (DZ q rfl L (Ah ?_)));unfold setDrawn HP;refine Aa (Aa (D8 q rfl L ?_));dsimp only;refine Aa (Aa (CY (Ah ?_)));refine Ah ?_;show Aw _ _ (if (!byT w&&(!true&&decide ((dH tok ks).size>1)))=true then _ else _) _ _ s;rw[if_neg (by simp)];refine Aa (Ah ?_);refine Aa (wpAny_setEpoch_of q rfl L ?_);refine Aa (Bm ?_);have e:(#[BW 0,BW 0,Dt S,BW ((dH tok ks).size:Int),BW (ep:Int)]:Array Ad)=#[BW (slotV w ks 0),BW ((0:Nat):Int),.ref S,BW ks.length,BW ep]:=by
  rw[bX];have:slotV w ks 0=0:=by unfold slotV aAV;split <;> rfl
  rw[this];rfl
 refine Ah ⟨_,rfl, "set_iterator",_,⟨_,An _ rfl,rfl⟩,dJ.lookup,?_⟩;show Q (.ref s.heap.objs.size) { s with heap:=s.heap.push { cls:=.type "set_iterator",data:=.fields #[BW 0,BW 0,Dt S,BW ((dH tok ks).size:Int),BW (ep:Int)] } };rw[e];exact h
theorem aDA{P:Nat->Ad->Prop}{acc:Array Ad}{od:List (Int×Ad)}(B:∀i v,P i v->∃e,od[i]? = some e/\v=e.2)(h:ItemsOf P acc m)(W:od.length=m):acc.toList=od.map (·.2):=by refine Ez λj=>?_;rw[BL,Ay];by_cases q:j<acc.size;obtain⟨e,L,U⟩:=B j acc[j] (h.2 j _ (Ci q));rw[Ci q,L,U];rfl;have h1:=h.1;rw[Array.getElem?_eq_none (by omega),Bb (by omega)];rfl
theorem aFy{Q:List Ad->Ag->Prop}(hh:A.handled=none)(B:ks∈all16)(ho:s.heap.get? S=some (aAW w tok ep ks))
 (hQ:∀s' acc,(∀b o,s.heap.get? b=some o->s'.heap.get? b=some o)->(s.heap.objs.size<s'.heap.objs.size/\∃tk h',s'={ s with heap:=h',toks:=tk })->acc=(tW w S ep (dH tok ks)).toList.map (·.2)->Q acc s'):Aw (AA prog w) A (collect (.ref S)) Q E s:=by
 have hT:s.TypeIs (.ref S) "set" := ⟨_,ho,rfl⟩
 have L:S<s.heap.objs.size:=Aq ho;unfold collect;refine Aa (F0 (BJ F.entry_proto_collect ?_));rw[BC F.plain_proto_collect _];show Aw _ A.in1 (newList [] >>= λl=>again (.builtin "list.__iadd__" ⟨[l,.ref S],[]⟩)) _ _ s;refine Aa (Bm ?_);refine Ah ⟨DL G7 _,BJ F.entry_list_iadd ?_⟩;rw[BC G7 _];have q:(s.heap.push { cls:=.type "list",data:=.seq ([]:List Ad).toArray }).get? S=some (aAW w tok ep ks):=Ab _ ho;have h1:E6 (.ref s.heap.objs.size) (.ref S)=false:=by simp only[E6,beq_eq_false_iff_ne];exact BO L
 show Aw _ A.in1 (Ee (.ref s.heap.objs.size) (.ref S) (.ref s.heap.objs.size)) _ _ _;unfold Ee;refine Aa (Eb (⟨_,q,rfl⟩) ?_);rw[if_neg (by rw[h1];decide)];refine Aa (aNU B q ?_);refine Aa (B8 ?_);unfold Hl;refine Aa (wpAny_specialOf (⟨_,(Ab _ q),rfl⟩) PySem.F.slot_set_len.lookup ?_);generalize q5:("set.__len__" : String)=id0
 wp_delta
 rw[show splitId id0=some ("set", "__len__") from by subst q5;decide +kernel];subst q5;refine Aa (DH (b:=true) (⟨_,(Ab _ q),rfl⟩) (by rw[FA];kernel_rfl) ?_);rw[if_neg (by decide)];dsimp only;rw[if_pos (by decide +kernel)];refine Aa (Eb (⟨_,(Ab _ q),rfl⟩) ?_);refine Ah ?_;rw[if_pos (by decide +kernel)];refine Aa (DG ?_);unfold IK;have q1:((s.heap.push { cls:=.type "list",data:=.seq ([]:List Ad).toArray }).push (rV w S ep ks 0)).get? s.heap.objs.size=some { cls:=.type "list",data:=.seq ([]:List Ad).toArray }:=Ab _ (An _ rfl);refine Aa (Aa (Ip q1 rfl ?_));have q2:=Hg (xs:=#[]) (n:=0) q1 (λx=>x.push Cr);refine Ip q2 rfl ?_;have q0:((s.heap.push { cls:=.type "list",data:=.seq ([]:List Ad).toArray }).push (rV w S ep ks 0)).get? (s.heap.push { cls:=.type "list",data:=.seq ([]:List Ad).toArray }).objs.size=some (rV w S ep ks 0):=An _ rfl;rw[(size_push' _ _)] at q0 ⊢;have keep:∀b o,b≠s.heap.objs.size->((s.heap.push { cls:=.type "list",data:=.seq ([]:List Ad).toArray }).push (rV w S ep ks 0)).get? b=some o->((((s.heap.push { cls:=.type "list",data:=.seq ([]:List Ad).toArray }).push (rV w S ep ks 0)).update s.heap.objs.size (Dr λx=>x.push Cr)).update s.heap.objs.size (Dr λx=>x.pop)).get? b=some o:=λb o U e=>by rw[FJ _ _ _ _ U,FJ _ _ _ _ U];exact e
 have q7:s.heap.objs.size∉[s.heap.objs.size+1,S]:=λhm=>by grind
 have q6:∀ks∈all16,ks.length<=4:=by decide +kernel
 refine Ah ⟨DL F.plain_extend_loop _,codeAny_extend_loopS (aKW (A:=A.in1) (tok:=tok) (ep:=ep) hh B (λz=>HK.mpr (CT _) (z▸L))).toS (AM (q6 ks B) (by decide)) _ q7 _ ks.length 0 _ #[] 2 (EW _) (B6 _) ⟨keep _ _ (by omega) q0,keep _ _ (AB L) (Ab _ q)⟩ (Hg q2 (λx=>x.pop)) (ItemsOf.nil _) λs' W c' hm q3 q4=>?_⟩;show Aw _ A (load s.heap.objs.size >>= _) _ _ s';refine Aa (wpAny_load q3 ?_);refine Ah (hQ s' W.toList (λb o e=>?_) ?_ ?_);have U:b<s.heap.objs.size:=Aq e;refine hm.heap b o (λz=>?_) (keep b o (AB U) (Ab _ (Ab _ e)));rcases A4.mp z with z|z;exact AB U z;exact HK.mpr (CT _) (AE.mp z▸U);obtain⟨h',g',d',q9,q8⟩:=s';have eg:g'=s.gens:=hm.gens;have ed:d'=s.drawn:=hm.drawn;have eo:q8=s.os:=hm.os;subst eg;subst ed;subst eo;exact⟨Aq q3,q9,h',rfl⟩;exact aDA (λi v ⟨e,he,hv⟩=>⟨e,by rw[BL];exact he,hv⟩) q4 (by rw[B1,jS,bX])
end
set_option maxRecDepth 100000
theorem aBY:∀{q bs:List Int},q.Pairwise (·<=·)->bs.Pairwise (·<=·)->q.Perm bs->q=bs
 | [],bs,_,_,p=>(p.nil_eq)
 | a::q,[],_,_,p=>absurd p.length_eq (by simp)|a::q,b::bs,ha,hb,p=>by
  have B:a=b:=by have h1:a∈b::bs:=p.subset Ar;have h2:b∈a::q:=p.symm.subset Ar;rcases A4.mp h1 with h1|h1;exact h1;rcases A4.mp h2 with h2|h2;exact h2.symm;have I:=(Cf.mp ha).1 b h2;have L:=(Cf.mp hb).1 a h1;omega
  subst B;rw[aBY (Cf.mp ha).2 (Cf.mp hb).2 (Jw p)]
theorem aKX:∀ks∈all16,(ks.map Eg).Pairwise (·<=·):=by decide +kernel
theorem aNV:∀ks∈all16,ks.length<=4:=by decide +kernel
theorem zG:∀{es:List (Int×Ad)},(∀e∈es,∃t,e.2=BH e.1 t)->Cm (es.map (·.2)) (es.map (·.1))
 | [],_=>.nil|e::es,h=>by obtain⟨t,q⟩:=h e Ar;have r:=zG (es:=es) λx B=>h x (Al _ B);rw[mC,mC,q];exact .cons _ _ r
theorem aHY{tok:Nat->Ho}:∀e∈(dH tok ks).toList,∃t,e.2=BH e.1 t:=by intro e q;unfold dH at q;rw[Dd] at q;grind
theorem aKY{tok:Nat->Ho}{ks:List Nat}:(dH tok ks).toList.map (·.1)=ks.map Eg:=by unfold dH;rw[Dd,As];rfl
section
variable {prog:A2} {w:AL} {A:Be} {E:Ad->Ag->Prop} {s:Ag}
theorem zH{ks:List Nat}{Q:Ad->Ag->Prop}(hh:A.handled=none)(hS:jD w s.heap S ks)
 (h:∀(h':Heap) (tk:Nat) (L:Addr) (out:List Ad) (n:Nat),s.heap.objs.size<=L->(∀b o,s.heap.get? b=some o->h'.get? b=some o)->h'.get? L=some (Jx "list" out.toArray n)->Cm out (ks.map Eg)->Q (.ref L) { s with heap:=h',toks:=tk }) :
 Aw (AA prog w) A (call (.builtin "sorted") [.ref S]) Q E s:=by
 obtain⟨I,tok,ep,ho⟩:=hS;refine Calls.call_function_entry kind_sorted plain_sorted entry_sorted (args_sorted1 _) ?_;unfold C4.«sorted»;refine Aa (m:=checkCount "sorted" 1 1 _) (Ah ?_);refine Aa (aFy (tok:=tok) (ep:=ep) (ks:=ks) hh I ho λs' acc hk q1 B=>?_);obtain⟨q0,tk,h1,rfl⟩:=q1;have pm:=zF w S ep (dH tok ks);have W:acc.length<64:=by rw[B,lM,pm.length_eq,B1,bX];have:=aNV ks I;omega
 refine Aa (wpAny_newList ?_ (AM (Ea W) (by decide)));have U:(h1.push (Jx "list" acc.toArray 0)).get? h1.objs.size=some (Jx "list" acc.toArray 0):=An _ rfl;have hI:Cm acc ((tW w S ep (dH tok ks)).toList.map (·.1)):=by rw[B];exact zG λe he=>aHY e (pm.subset he)
 refine Aa (B8 (Bh (s:={ s with heap:=h1.push (Jx "list" acc.toArray 0),toks:=tk }) slot_list_sort ⟨_,U,rfl⟩ entry_list_sort (list_sort_tree U hI W λout q2 a1 a2 a3=>⟨_,rfl,?_⟩) (args_list_sort _)));have e:q2=ks.map Eg:=aBY a3 (aKX ks I) (by rw[<-aKY (tok:=tok)];exact a2.trans (pm.map _));obtain⟨n,hL⟩:=sortedHeap_at (out:=out) U;refine Ah ⟨_,rfl,h _ _ h1.objs.size out.toList n (Ea q0) (λb o q=>?_) (by rw[Array.toArray_toList];exact hL) (e▸a1)⟩;have hb:b<h1.objs.size:=Aq (hk b o q);rw[sortedHeap_old (AB hb) (by rw[size_push'];exact CN hb)];exact Ab _ (hk b o q)
end
end L2
namespace Hp
open PySem PySem.Spec PyProof.Rows L2
theorem aFz:∀ks∈all16,∀k∈Ai 4,aAU ks k∈all16/\∀j∈Ai 4,(j∈aAU ks k↔j=k\/j∈ks):=by decide +kernel
theorem aFA:∀ks∈all16,ks=(Ai 4).filter λk=>decide (k∈ks):=by decide +kernel
theorem uR:∀(ns ks:List Nat),ks∈all16->(∀n∈ns,n<4)->ns.foldl aAU ks∈all16/\∀j∈Ai 4,(j∈ns.foldl aAU ks↔j∈ns\/j∈ks)
 | [],ks,h,_=>⟨h,λj _=>by simp⟩
 | n::ns,ks,h,h4=>by obtain⟨q,I⟩:=aFz ks h n (AC.mpr (h4 n Ar));obtain⟨L,U⟩:=uR ns (aAU ks n) q λm B=>h4 m (Al _ B);grind
theorem aHZ(I:∀n∈ns,n<4):pP ns=eW ns:=by obtain⟨q,B⟩:=uR ns [] (by decide +kernel) I;unfold pP eW;rw[aFA _ q];refine List.filter_congr λj L=>?_;have:=B j L;grind
section
variable {X:Cx} {P:Pg} {Γ:Ct} {n:Nat} {RT Y J:Addr->Prop} {Z:Sg} {pos:Dy} {K:Fg} {H:Hp}
theorem uS:∀{ds:List D} {ns:List Nat} {ex:Addr->Prop} {vs:List V} {us:List Ad},qX ds=some ns->Reps K H ex ds vs->bJ vs us->aFw us ns/\ns.length=us.length/\∀n∈ns,n<4
 | [],ns,ex,vs,us,h,r,rv=>by cases h;rw[show vs=[] from r] at rv;cases rv;exact⟨.nil,rfl,λn B=>by cases B⟩|d::ds,ns,ex,vs,us,h,r,rv=>by
  obtain⟨v,vr,e,h1,h2⟩:=r;subst e;cases rv with
  | cons I r2=>
   cases d with
   | int i=>
    unfold qX at h;split at h;rename_i hi;cases q:qX ds with
    | none=>rw[q] at h;cases h|some ms=>rw[q] at h;cases h;rw[show v=.int i from h1] at I;obtain⟨t,rfl⟩:=I;obtain⟨L,U,W⟩:=uS q h2 r2;refine⟨.cons ⟨by omega,t,?_⟩ L,by rw[lC,lC,U],λn B=>?_⟩;rw[C5 hi.1];rcases A4.mp B with z|z;rw[z];omega;exact W n z
    cases h
   | _=>cases h
theorem iE:∀{ns:List Int} {us:List Ad},Cm us ns->bJ (ns.map V.int) us
 | _,_,.nil=>.nil|_,_,.cons i t r=>.cons ⟨t,rfl⟩ (iE r)
theorem uT{ex:Addr->Prop}:∀(ks:List Nat),Reps K H ex (ks.map λ(k:Nat)=>D.int (k:Int)) ((ks.map Eg).map V.int)
 | []=>.nil|k::ks=>.cons rfl (uT ks)
theorem aKZ(M:Mc X P Γ n)(hf:f=("sorted" : Str))(hg:dY Γ f=true)(q1:g=("set" : Str))(q2:dY Γ g=true)(ha:PE X ea (WE X P n RT Y J Z a))(hp:bE ea=true) :
 PE X (.Call (.Name f pf) [.Call (.Name g pg) [ea] [] p2] [] pos) (WE X P n RT Y J Z (.sset a)):=by
 subst hf q1;intro G s ZV H Q I hw;obtain⟨S,h⟩:=hw;have h:=RE.bind' (show RE (ev P (call P n) Z a >>= λx=>(match x.d with
  | .lst ds=>(match qX ds with|some ns=>R.ok (⟨.lst ((eW ns).map λ(k:Nat)=>.int (k:Int)),true,false,[]⟩:Vl)|none=>.bad)
  | _=>.bad)) _ from h)
 obtain⟨x,ex,h⟩:=h.eq;cases hd:x.d with
 | lst ds=>
  rw[hd] at h;cases hk:qX ds with
  | none=>simp only[hk] at h;exact h.elim|some ns=>
   simp only[hk] at h;refine Bt (fL I (M.gl hg) (M.md.blt _ (by decide +kernel)) boot_sorted ?_ (by decide +kernel) (by decide +kernel));refine BM ?_ (aC (e:=.Call (.Name "set" pg) [ea] [] p2) (es:=[]) rfl) rfl;rw[aC (e:=.Call (.Name "set" pg) [ea] [] p2) (es:=[]) rfl];show Aw _ _ (IC ((false,Dm (.Call (.Name "set" pg) [ea] [] p2) X.env)::E2 pos (Bj [] X.env))) _ _ s;refine CA (Bt (fL I (M.gl q2) (M.md.blt _ (by decide +kernel)) (show BD "set" = some (.type "set") by kernel_rfl) ?_ (by decide +kernel) (by decide +kernel)));refine AX (thn (fC (es:=[]) ha gN (aC hp) p2 G s ZV H (λus H1=>∃u,us=[u]/\Tk X.K H1/\Ro X.K RT Y J Z ZV H H1 x u) I ⟨S,?_⟩) λus s1 ⟨vs,H1,I1,r1,u,e1,t1,W⟩=>?_) (aC hp) rfl;rw[ex];intro u H1 t1 W;exact⟨u,rfl,t1,W⟩;subst e1;obtain⟨u',rfl,ru⟩:=r1.one;obtain⟨b,xs,rfl,hS,_,rr⟩:=(W.rv S).lst hd;cases ru;obtain⟨q6,r2,p,_⟩:=I1.list hS;obtain⟨hK,q0,h4⟩:=uS hk rr r2;refine aDz (I1.ok.hd M.calm) p.isList (by omega) (by rw[Aj];exact q0) λh' tk U B=>?_;have I2:L2.Inv X G ZV H1 { s1 with heap:=h',toks:=tk }:=I1.kept λb o e=>B b o (Aq e) e;refine Dz ?_;refine zH (s:={ s1 with heap:=h',toks:=tk }) (I2.ok.hd M.calm) U λh2 q5 L out m hL q3 q4 q=>?_;have hn:H1 L=none:=I2.hok.fresh hL;have e4:pP ns=eW ns:=aHZ h4;have l4:(eW ns).length<=4:=by unfold eW;grind
   rw[e4] at q;have I3:L2.Inv X G ZV (upd H1 L (.lst (((eW ns).map Eg).map V.int))) { s1 with heap:=h2,toks:=q5 }:=I2.laid q3 hL ⟨by rw[lM,lM,Cb];omega,out,m,iE q,q4⟩;have s3:aX H1 (upd H1 L (.lst (((eW ns).map Eg).map V.int))):=aX.new hn;refine⟨.ref L,_,I3,rfl,?_⟩;exact(show Wn X RT Y J Z ZV H Q (⟨.lst ((eW ns).map λ(k:Nat)=>.int (k:Int)),true,false,[]⟩:Vl) from h) _ _ I3.tk ⟨W.1.trans s3,by rw[if_pos rfl];exact⟨L,_,_,rfl,rfl,W.1.free hn,bY,uT (eW ns)⟩⟩
 | _=>rw[hd] at h;exact h.elim
end
section
variable {X:Cx} {P:Pg} {Γ:Ct} {n:Nat} {RT Y J:Addr->Prop} {Z:Sg} {tg:A7} {pos:Dy}
noncomputable def aLa(lo c:Int)(m:Nat):L2.It:=⟨λi _=>i<m,λi H x H'=>H'=H/\x=.int (lo+i*c),λi _=>m<=i⟩
theorem zI{Pr:A2}{w:AL}{K:Ap}(it:Addr)(lo c:Int)(m:Nat):vP Pr w K tg (aLa lo c m) [it] it (λi h=>GR h it (lo+(i:Nat)*c) ((m:Int)-(i:Nat)) c) where
 mem:=AE.mpr rfl
 obj:=λi h st b B=>by grind
 keep:=λi h h' st k=>k it (AE.mpr rfl) _ st
 item:=by intro X hP hw W hc i G s Z H E I U st hg;subst hP hw W;obtain⟨f0,f1,_,f3,f4,f5⟩:=U it (AE.mpr rfl);refine(IV (prog:=X.prog) (w:=X.w) (I.ok.hd hc) it lo c m).item i s _ _ hg st λv h' tk hv L kk=>?_;obtain⟨t,rfl⟩:=hv;exact⟨_,rfl,pD (s:={ s with heap:=h',toks:=tk }) (n:= "range_iterator") L rfl rfl (by decide) ⟨.int (lo+i*c),H,I.turned (λb o B e=>kk b o (λz=>B (AE.mp z)) e) f0 f1 f3 f4 f5,⟨t,rfl⟩,⟨rfl,rfl⟩,L,λb B=>(U b B).1⟩⟩
 done:=by intro X hP hw W hc i G s Z H E I U st hg;subst hP hw W;obtain⟨f0,f1,_,f3,f4,f5⟩:=U it (AE.mpr rfl);exact EJ (I.ok.hd hc) st (by have q:m<=i:=hg;omega) λh' eb=>⟨rfl,I.turned (t':=s.toks) (λb o B e=>eb b o B e) f0 f1 f3 f4 f5⟩
 self:=λ_ _ _ _ _ st h=>EK st h
theorem aJn:BA a (-1) (-1)=((a+1).toNat:Nat):=by unfold BA;rw[if_neg (by decide)];split <;> simp <;> omega
theorem aLb(B:-(2 ^ 62)<=a)(q:a<2 ^ 62):FK a (-1) (-1)=true:=by
 have h1:BA a (-1) (-1)<=2 ^ 63-1/\0<=BA a (-1) (-1):=by rw[aJn];omega
 unfold FK;simp only[Hm,bA,BY,AO,beq_iff_eq,if_neg (show ¬ ((-1:Int)>0) by decide)];omega
theorem aLc{K:Fg}{ZV:L2.St}{H:Hp}{a:Int}:wD K RT Y J Z ZV H (aLa a (-1) (a+1).toNat) ((lY a).map Vl.cl) [] where
 sub:=λv B j L=>by obtain⟨d,_,e⟩:=A8.mp B;subst e;exact L
 nofr:=λv B=>by obtain⟨d,_,e⟩:=A8.mp B;subst e;rfl
 ok:=λR U i H1 kp=>by
  have W:((lY a).map Vl.cl).length=(a+1).toNat:=by unfold lY;rw[lM,lM,AG]
  refine⟨λhi=>(show i<_ by omega),λhi=>(show _<=i by omega),λy H' I v B=>?_⟩;obtain⟨e,I⟩:=I;subst e I;unfold lY at B;rw[As,Ay] at B;have hi:i<(a+1).toNat:=by
   cases q:(Ai (a+1).toNat)[i]? with
   | none=>rw[q] at B;cases B|some z=>simpa using (Au.mp q).1
  rw[Ca hi] at B;cases B;exact⟨aX.refl _,id,congrArg V.int (by grind)⟩
theorem aJo(h:aAM e=true):∃x p,e=.UnaryOp .USub x p/\∃c k q,x=.Constant c k q/\eqC (.int 1) c=true:=by obtain⟨⟨o,x⟩,⟨p,rfl⟩,g⟩:=aJ h;have g:(o==.USub&&oS (asC x) (eqC (.int 1)))=true:=g;rw[bA] at g;obtain⟨B,I⟩:=g;cases eq_of_beq B;obtain⟨c,⟨k,q,e⟩,h⟩:=aJ I;exact⟨x,p,rfl,c,k,q,e,h⟩
theorem aNW(M:Mc X P Γ n)(hf:f=("range" : Str))(hg:dY Γ f=true)(ha:PE X ea (WE X P n RT Y J Z a))(hp:bE ea=true)(W:aAM y=true)(hz:aAM z=true):PI X tg (.Call (.Name f p) [ea,y,z] [] pos) (wI X P n RT Y J Z (.dwn a)):=by
 subst hf;obtain⟨x1,p1,rfl,c1,k1,q1,rfl,W⟩:=aJo W;obtain⟨x2,p2,rfl,c2,k2,q2,rfl,hz⟩:=aJo hz;intro G s ZV H RR I ⟨S,h⟩;obtain⟨x,ex,h⟩:=RE.eq (RE.bind' (show RE ((ev P (call P n) Z a) >>= λx=>(match x.d with|.int i=>R.iff (aO i) (R.ok ((lY i).map Vl.cl,[]))|_=>.bad)) _ from h));split at h;rename_i i L;obtain⟨c,h⟩:=h.iff;have c:=eZ c;have hA:PA X [ea,.UnaryOp .USub (.Constant c1 k1 q1) p1,.UnaryOp .USub (.Constant c2 k2 q2) p2] (WA X P n RT Y J Z (.cons a (.cons (.neg (.c (.int 1))) (.cons (.neg (.c (.int 1))) .nil)))):=hZ ha (hZ (aEX (s_c W)) (hZ (aEX (s_c hz)) rF rfl) rfl) hp;refine J1 (fL I (M.gl hg) (M.md.blt _ (by decide +kernel)) Ht (AX (thn (hA pos G s ZV H (λvs H'=>vs=[.int i,.int (-1),.int (-1)]/\Tk X.K H'/\aX H H') I ⟨S,?_⟩) λus s1 ⟨vs,H1,I1,r1,L,t1,sm⟩=>?_) (by rw[aC hp]) rfl));show RE (ev P (call P n) Z a >>= λx=>evs P (call P n) Z (.cons (.neg (.c (.int 1))) (.cons (.neg (.c (.int 1))) .nil)) >>= λxs=>R.ok (x::xs)) _;rw[RE.bind,ex];intro us H1 t1 s1 r1;obtain⟨u,r',eu,ru,u2,r2,U,q3,u3,r3,q,q4,hr⟩:=r1;rw[show r3=[] from hr] at q;subst q U eu;exact⟨by rw[ru.int L,q3.int rfl,q4.int rfl],t1,s1⟩;subst L;cases r1 with
 | cons r rr=>cases rr with|cons r' rr=>cases rr with|cons q0 rr=>cases rr;obtain⟨t,rfl⟩:=r;obtain⟨t',rfl⟩:=r';obtain⟨q5,rfl⟩:=q0;refine call_range_3 (by omega) ?_ (.inl (EL (by omega)));refine FW (IW ..) (aLb c.1 c.2) ?_;have B:L2.Inv X G ZV H1 { s1 with heap:=s1.heap.push { cls:=.type "range",data:=.fields #[.int i t,.int (-1) t',.int (-1) q5] },toks:=s1.toks }:=I1.kept λb o e=>Ab _ e;refine⟨_,[_],_,aLa i (-1) (i+1).toNat,H1,rfl,B.kept (t':=s1.toks) λb o e=>Ab _ e,zI _ i (-1) _,?_,λb hb=>?_,?_⟩;show GR _ _ (i+((0:Nat):Int)*(-1)) ((((i+1).toNat:Nat):Int)-((0:Nat):Int)) (-1);rw[show i+((0:Nat):Int)*(-1)=i by simp,show(((i+1).toNat:Nat):Int)-((0:Nat):Int)=BA i (-1) (-1) by rw[aJn];simp];exact An _ rfl;cases AE.mp hb;exact B.fpOk (Ao _) (B.hok.fresh (Ao _));exact(show ∀J'' H',Tk X.K H'->aX H H'->wD X.K RT Y J Z ZV H' J'' ((lY i).map Vl.cl) []->RR J'' H' from h) _ H1 I1.tk sm aLc
 exact h.elim
end
end Hp
noncomputable section
set_option maxHeartbeats 4000000
namespace Hp
open PySem PySem.Spec PyProof.Rows L2
section
variable {K:Fg} {H H':Hp}
theorem Rws.get:∀{dss:List (List D)} {bs:List Addr},Rws K H dss bs->dss.length=bs.length/\∀(k:Nat) (ds:List D) (c:Addr),dss[k]? = some ds->bs[k]? = some c->∃xs,H c=some (.lst xs)/\noLs ds=true/\Reps K H (λ_=>False) ds xs
 | [],_,h=>by rw[show _=[] from h];grind|ds::dss,_,h=>by
  obtain⟨b,r,xs,rfl,h1,h2,U,W⟩:=h;obtain⟨I,L⟩:=Rws.get W;refine⟨by rw[lC,lC,I],λk ds' c q B=>?_⟩;cases k with
  | zero=>cases q;cases B;exact⟨xs,h1,h2,U⟩|succ k=>exact L k ds' c q B
theorem Rws.of:∀{dss:List (List D)} {bs:List Addr},dss.length=bs.length->(∀(k:Nat) (ds:List D) (c:Addr),dss[k]? = some ds->bs[k]? = some c->∃xs,H c=some (.lst xs)/\noLs ds=true/\Reps K H (λ_=>False) ds xs)->Rws K H dss bs
 | [],bs,h,_=>by
  cases bs with
  | nil=>rfl|cons _ _=>cases h
 | ds::dss,bs,h,g=>by
  cases bs with
  | nil=>cases h|cons b r=>obtain⟨xs,h1,h2,I⟩:=g 0 ds b rfl rfl;exact⟨b,r,xs,rfl,h1,h2,I,Rws.of (by simpa using h) λk ds' c q B=>g (k+1) ds' c q B⟩
theorem Rws.reps{ex:Addr->Prop}:∀{dss:List (List D)} {bs:List Addr},Rws K H dss bs->(∀b∈bs,¬ ex b)->Reps K H ex (dss.map D.lst) (bs.map V.ref)
 | [],_,h,_=>by rw[show _=[] from h];rfl|ds::dss,_,h,f=>by obtain⟨b,r,xs,rfl,h1,h2,q,B⟩:=h;exact⟨.ref b,r.map V.ref,rfl,⟨b,xs,rfl,SqL.of h1,f b Ar,Reps.free _ _ h2 q⟩,Rws.reps B λc I=>f c (Al _ I)⟩
theorem aBZ(h:ixN n k=some q):q<n:=by unfold ixN at h;split at h;split at h;cases h;omega;cases h;split at h;cases h;omega;cases h
end
section
variable {X:Cx} {P:Pg} {Γ:Ct} {n:Nat} {RT Y J:Addr->Prop} {Z:Sg} {pos:Dy}
theorem aLd{ZV:L2.St}{H:Hp}{j q:Nat}{k:Int}{dss:List (List D)}(S:Sx X.K RT Y J Z ZV H)(e:Z[j]? = some (.own2 dss))(L:ixN dss.length k=some q) :
 ∃(a:Addr) (bs:List Addr) (b:Addr) (xs:List V),ZV[j]? = some (some (.ref a))/\H a=some (.lst (bs.map V.ref))/\bs[q]? = some b/\L2.atI (bs.map V.ref) k=some (.ref b)/\H b=some (.lst xs)/\noLs (dss.getD q [])=true/\Reps X.K H (λ_=>False) (dss.getD q []) xs:=by
 obtain⟨a,bs,h1,h2,h3,h4,h5⟩:=S.dx.at2 j dss e;obtain⟨g1,g2⟩:=h5.get;have B:=aBZ L;have I:bs[q]? = some bs[q]:=Ac (by omega);have W:dss[q]? = some (dss.getD q []):=by rw[Ae,Ac B];rfl
 obtain⟨xs,g3,g4,g5⟩:=g2 q _ _ W I;refine⟨a,bs,bs[q],xs,h1,h2,I,?_,g3,g4,g5⟩;have U:L2.ixN bs.length k=some q:=by rw[<-g1,<-oI];exact L
 unfold L2.atI;rw[lM,U];grind
end
end Hp
end
noncomputable section
set_option maxHeartbeats 8000000
namespace Hp
open PySem PySem.Spec PyProof.Rows L2
section
variable {P:Pg} {n:Nat}
theorem zJ{X:Cx}{Γ:Ct}(M:Mc X P Γ n)(scope:Da):(IG scope X.env).names=uH Γ.sc scope.names:=by
 unfold IG uH;simp only;refine Bf λp I=>?_;obtain⟨m,k⟩:=p;have q:(X.env.scope.kind==Jy)=true:=by rw[M.fk];rfl
 have B:X.env.kindOf m=Γ.sc.lookup m:=by unfold Env.kindOf;rw[M.sc]
 simp only[q,B,Dh]
abbrev chN(Γ:Ct)(tg:A7)(caps:List Nat):List Str:=hX tg++caps.filterMap λi=>Γ.N[i]?
abbrev aAX(Γ:Ct)(tg:A7)(caps:List Nat)(scope:Da):Ct:={ Γ with N:=chN Γ tg caps,sc:=uH Γ.sc scope.names,fn:=false }
structure aFB (Γ:Ct) (tg:A7) (caps:List Nat) (scope:Da) (k:Nat) (t:T):Prop where
 len:(hX tg).length=k
 lt:∀i∈caps,i<Γ.N.length
 ndc:caps.Nodup
 kind:scope.kind=.function
 nd:(chN Γ tg caps).Nodup
 cap:∀x∈caps.filterMap (λi=>Γ.N[i]?),scope.names.lookup x=some .free/\Γ.sc.lookup x=some .cell
 all:∀p∈scope.names,p.2≠.cell/\(p.2=.local->scope.names.lookup p.1=some .local)/\(p.2=.free->Γ.sc.lookup p.1=some .cell)
 tk:∀i∈tIx t,i<k
theorem aFC{N:List Str}:∀{caps:List Nat},(∀i∈caps,i<N.length)->∀{j i:Nat},caps[j]? = some i->(caps.filterMap λi=>N[i]?)[j]? = N[i]?/\(caps.filterMap λi=>N[i]?).length=caps.length
 | [],_,_,_,h=>by simp at h|c::cs,hl,j,i,h=>by
  have q:N[c]? = some N[c]! := by have:=hl c Ar;simp[this]
  rw[E7 q];have len:(cs.filterMap λi=>N[i]?).length=cs.length:=by simp_all
  refine⟨?_,by rw[lC,lC,len]⟩;cases j with
  | zero=>grind|succ j=>rw[gS];exact(aFC (λi hi=>hl i (Al _ hi)) (by simpa using h)).1
theorem aLe{N:List Str}{caps:List Nat}(h:∀i∈caps,i<N.length):(caps.filterMap λi=>N[i]?).length=caps.length:=by simp_all
theorem aFB.scope{X:Cx}{Γ:Ct}{tg:A7}{caps:List Nat}{scope:Da}{k:Nat}{t:T}(O:aFB Γ tg caps scope k t)(M:Mc X P Γ n):eD X scope k caps (chN Γ tg caps) where
 kind:=O.kind
 nocell:=λy B=>(O.all y B).1
 loc:=λy B e=>(O.all y B).2.1 e
 free:=λm I=>.inl (by
  have:=(O.all _ I).2.2 rfl;show X.env.scope.names.lookup m=_;rw[M.sc];exact this)
 len:=by rw[lA,O.len,aLe O.lt]
 cap:=λj i e=>by have hi:=O.lt i (mG e);have q:=(aFC O.lt e).1;rw[(Ac hi)] at q;obtain⟨h1,h2⟩:=O.cap _ (mG q);refine⟨Γ.N[i],?_,by rw[M.N];exact(Ac hi),h1,?_⟩;show(hX tg++_)[k+j]? = _;rw[AD (by rw[O.len];omega),O.len,AU];exact q;show X.env.scope.names.lookup _=_;rw[M.sc];exact h2
 ndp:=M.nd
theorem aFB.mc{X:Cx}{Γ:Ct}{tg:A7}{caps:List Nat}{scope:Da}{k:Nat}{t:T}(O:aFB Γ tg caps scope k t)(M:Mc X P Γ n)(C:Addr)(s₀:Ag)(H₀:Hp)(ex:List Addr) :
 Mc (fB X scope (chN Γ tg caps) C s₀ H₀ ex) P (aAX Γ tg caps scope) n where
 md:=⟨M.md.fn,M.md.blt,M.md.cns,M.md.tab⟩
 N:=rfl
 nd:=O.nd
 sc:=zJ M scope
 calm:=M.calm
 room:=M.room
 xe:=rfl
 st:=λx h=>.inr (by
  show(IG scope X.env).names.lookup x=_;rw[zJ M scope];unfold yS at h;split at h;rename_i e;exact e;cases h;cases h)
 fk:=O.kind
theorem zK:chkI Γ tt (.rng a b) e=oS (mK e) λp=>(p.1==("range" : Str))&&dY Γ p.1&&(match p.2 with
 | [x]=>aAL a&&bC Γ b x|[x,y]=>bC Γ a x&&bC Γ b y|_=>false):=rfl
theorem zL:chkI Γ tt (.zip a b) e=oS (mK e) λp=>(match p.2 with
 | [x,y]=>tt&&(p.1==("zip" : Str))&&dY Γ p.1&&bC Γ a x&&bC Γ b y|_=>false):=rfl
theorem uU:chkI Γ tt (.enum a) e=oS (mK e) λp=>(match p.2 with
 | [x]=>tt&&(p.1==("enumerate" : Str))&&dY Γ p.1&&bC Γ a x|_=>false):=rfl
theorem zM:chkI Γ tt (.dwn a) e=oS (mK e) λp=>(p.1==("range" : Str))&&dY Γ p.1&&(match p.2 with
 | [x,y,z]=>bC Γ a x&&aAM y&&aAM z|_=>false):=rfl
theorem mO(h:chkI Γ tt it e=true):bE e=true:=by
 cases it with
 | seq c=>exact aQ (by exact h)|rng a b=>rw[zK] at h;obtain⟨_,⟨_,_,rfl⟩,_⟩:=aJ h;rfl|dwn a=>rw[zM] at h;obtain⟨_,⟨_,_,rfl⟩,_⟩:=aJ h;rfl|zip a b=>rw[zL] at h;obtain⟨_,⟨_,_,rfl⟩,_⟩:=aJ h;rfl|enum a=>rw[uU] at h;obtain⟨_,⟨_,_,rfl⟩,_⟩:=aJ h;rfl
theorem aIa{RT Y J:Addr->Prop}(h:tst P (call P n) Z c=.bad):PT X e (WT X P n RT Y J Z c):=λG s ZV H Q I ⟨S,q⟩=>by rw[h] at q;exact q.elim
theorem gF(h:(a&&b&&c)=true):a=true/\b=true/\c=true:=by grind
theorem fO(h:(a&&b)=true):a=true/\b=true:=by grind
theorem aFD(h:(a&&b&&c&&d)=true):a=true/\b=true/\c=true/\d=true:=by grind
theorem aFE(h:(a&&b&&c&&d&&e)=true):a=true/\b=true/\c=true/\d=true/\e=true:=by grind
theorem aCa{Γ:Ct}{k:Nat}{caps:List Nat}{t:T}{it:Hp.It}{cond:Es}{elt:E}{e:A7}(h:bC Γ (.comp k caps t it cond elt) e=true) :
 ∃I tg q B scope pos,e=.ListComp I [⟨tg,q,B,0⟩] scope pos/\aFB Γ tg caps scope k t/\B.length<=1/\tV (aAX Γ tg caps scope) t tg=true/\chkI Γ (qZ tg) it q=true/\chkEs (aAX Γ tg caps scope) cond B=true/\bC (aAX Γ tg caps scope) elt I=true:=by
 obtain⟨⟨I,gens,scope⟩,h1,g⟩:=aJ h;clear h;obtain⟨pos,rfl⟩:=h1;have h:=g;clear g;rcases gens with _|⟨⟨tg,q,B,as⟩,_|⟨_,_⟩⟩
 cases h;have h:(as==0&&(hX tg).length==k&&(caps.all λi=>decide (i<Γ.N.length))&&decide caps.Nodup&&scope.kind==.function&&decide (hX tg++caps.filterMap λi=>Γ.N[i]?).Nodup &&
  ((caps.filterMap λi=>Γ.N[i]?).all λx=>scope.names.lookup x==some .free&&Γ.sc.lookup x==some .cell) &&
  (scope.names.all λp=>p.2 != .cell&&(p.2 != .local||scope.names.lookup p.1==some .local)&&(p.2 != .free||Γ.sc.lookup p.1==some .cell)) &&
  ((tIx t).all λi=>decide (i<k))&&decide (B.length<=1) &&
  tV (aAX Γ tg caps scope) t tg&&chkI Γ (qZ tg) it q&&chkEs (aAX Γ tg caps scope) cond B&&bC (aAX Γ tg caps scope) elt I)=true:=by exact h
 simp only[bA,beq_iff_eq,AT,AO,ne_eq] at h;obtain⟨⟨⟨⟨⟨⟨⟨⟨⟨⟨⟨⟨⟨h0,h1⟩,h2⟩,h3⟩,h4⟩,h5⟩,h6⟩,h7⟩,h8⟩,h9⟩,L⟩,U⟩,W⟩,q0⟩:=h;subst h0;refine⟨I,tg,q,B,scope,pos,rfl,⟨h1,h2,h3,h4,h5,h6,λp hp=>?_,h8⟩,h9,L,U,W,q0⟩;grind;cases h
abbrev PEc(P:Pg)(n:Nat)(c:E):Prop:=∀{X:Cx} {Γ:Ct},Mc X P Γ n->∀{e:A7},bC Γ c e=true->∀(RT Y J:Addr->Prop) (Z:Sg),PE X e (WE X P n RT Y J Z c)
abbrev PTc(P:Pg)(n:Nat)(c:E):Prop:=∀{X:Cx} {Γ:Ct},Mc X P Γ n->∀{e:A7},bC Γ c e=true->∀(RT Y J:Addr->Prop) (Z:Sg),PT X e (WT X P n RT Y J Z c)
abbrev PWc(P:Pg)(n:Nat)(c:E):Prop:=∀{X:Cx} {Γ:Ct},Mc X P Γ n->∀{o:BoolOp} {xs:List A7} {pos:Dy},bC Γ c (.BoolOp o xs pos)=true->∀(RT Y J:Addr->Prop) (Z:Sg),PW X (.BoolOp o xs pos) (WT X P n RT Y J Z c)
structure Q3 (P:Pg) (n:Nat) (c:E):Prop where
 e:PEc P n c
 t:PTc P n c
 w:PWc P n c
structure QA (P:Pg) (n:Nat) (cs:Es):Prop where
 a:∀{X:Cx} {Γ:Ct},Mc X P Γ n->∀{es:List A7},chkEs Γ cs es=true->∀(RT Y J:Addr->Prop) (Z:Sg),PA X es (WA X P n RT Y J Z cs)
 o:∀{X:Cx} {Γ:Ct},Mc X P Γ n->∀{e:Option A7},chkO Γ cs e=true->∀(RT Y J:Addr->Prop) (Z:Sg),PO X e (wO X P n RT Y J Z cs)
 ts:∀{X:Cx} {Γ:Ct},Mc X P Γ n->∀{es:List A7},es.length<=1->chkEs Γ cs es=true->∀(RT Y J:Addr->Prop) (Z:Sg),PTs X es (wTs X P n RT Y J Z cs)
abbrev QI(P:Pg)(n:Nat)(it:Hp.It):Prop:=∀{X:Cx} {Γ:Ct},Mc X P Γ n->∀{tg e:A7},chkI Γ (qZ tg) it e=true->∀(RT Y J:Addr->Prop) (Z:Sg),PI X tg e (wI X P n RT Y J Z it)
theorem Q3.of(h:PEc P n c)(hd:∀Z,tst P (call P n) Z c=.bad)(q:∀{Γ:Ct} {o:BoolOp} {xs:List A7} {pos:Dy},bC Γ c (.BoolOp o xs pos)=false):Q3 P n c:=
 ⟨h,λ{X Γ} M {e} z RT Y J Z=>aIa (hd Z),λ{X Γ} M {o xs pos} z RT Y J Z=>absurd (q.symm.trans z) bN⟩
theorem n_c:Q3 P n (.c d):=by
 have L:∀{Γ:Ct} {e:A7},bC Γ (.c d) e=true->(∃c k p,e=.Constant c k p/\eqC d c=true)\/∃x p,e=.Name x p/\dY Γ x=true/\eL x=true/\∃B,Γ.cns.lookup x=some B/\eqK d B=true:=λ{Γ e} h=>by rcases(BY _ _).mp (h) with h|h;obtain⟨c,h1,g⟩:=aJ h;grind;obtain⟨x,h1,g⟩:=aJ h;clear h;obtain⟨p,rfl⟩:=h1;have h:=g;clear g;obtain⟨h1,h2,I⟩:=gF h;obtain⟨B,q1,q2⟩:=aEW I;exact .inr ⟨x,p,rfl,h1,h2,B,q1,q2⟩
 have k:PEc P n (.c d):=λ{X Γ} M {e} h RT Y J Z=>by
  rcases L h with⟨c,j,p,rfl,g⟩|⟨x,p,rfl,h1,h2,B,q,I⟩
  exact s_c g;have e:=aKD I;subst e;obtain⟨u,v,m,r,hr⟩:=M.md.cns x d q;exact(aBE (M.gl h1) m r (cE h2)).imp λZV H Q t ⟨S,U⟩ t'=>((U) v H t' (Ro.val (aX.refl H) (hr H)))
 refine⟨k,λ{X Γ} M {e} h RT Y J Z=>?_,λ{X Γ} M {o xs pos} h RT Y J Z=>absurd h bN⟩;refine uL (k M h RT Y J Z) ?_ λp W=>W;rcases L h with⟨c,j,p,rfl,h⟩|⟨x,p,rfl,_⟩ <;> (intro _;rfl)
theorem n_v:Q3 P n (.v i):=by
 have k:PEc P n (.v i):=λ{X Γ} M {e} h RT Y J Z=>by obtain⟨x,h1,g⟩:=aJ h;clear h;obtain⟨p,rfl⟩:=h1;have h:=g;clear g;unfold dB at h;obtain⟨h1,h2,q⟩:=gF h;exact s_v (by rw[M.N];exact eq_of_beq h1) (M.vis h2) (cE q) (kO q)
 refine⟨k,λ{X Γ} M {e} h RT Y J Z=>?_,λ{X Γ} M {o xs pos} h RT Y J Z=>absurd h bN⟩;refine uL (k M h RT Y J Z) ?_ λp B=>RE.bind' (B);obtain⟨x,⟨p,rfl⟩,_⟩:=aJ h;intro _;rfl
theorem aQs(B:Q3 P n a)(I:Q3 P n b):Q3 P n (.op o a b):=Q3.of (λ{X Γ} M {e} h RT Y J Z=>by
 obtain⟨⟨l,o',r⟩,h1,g⟩:=aJ h;clear h;obtain⟨p,rfl⟩:=h1;have h:=g;clear g;obtain⟨h1,h2,q⟩:=gF h;have e:=eq_of_beq h1;subst e;exact aQn (B.e M h2 RT Y J Z) (I.e M q RT Y J Z)) (λ_=>rfl) rfl
theorem aNX(q:Q3 P n a):Q3 P n (.neg a):=Q3.of (λ{X Γ} M {e} h RT Y J Z=>by
 obtain⟨⟨o,x⟩,h1,g⟩:=aJ h;clear h;obtain⟨p,rfl⟩:=h1;have h:=g;clear g;obtain⟨h1,h2⟩:=fO h;have e:=eq_of_beq h1;subst e;exact aEX (q.e M h2 RT Y J Z)) (λ_=>rfl) rfl
theorem aQt(B:Q3 P n a):Q3 P n (.nt a):=by
 have q:∀{Γ:Ct} {e:A7},bC Γ (.nt a) e=true->∃x p,e=.UnaryOp .Not x p/\bC Γ a x=true:=λ{Γ e} h=>by obtain⟨⟨o,x⟩,h1,g⟩:=aJ h;grind
 refine⟨λ{X Γ} M {e} h RT Y J Z=>?_,λ{X Γ} M {e} h RT Y J Z=>?_,λ{X Γ} M {o xs pos} h RT Y J Z=>absurd h bN⟩;obtain⟨x,p,rfl,g⟩:=q h;exact aNE (B.e M g RT Y J Z);obtain⟨x,p,rfl,g⟩:=q h;exact dQ (B.t M g RT Y J Z)
theorem aCb(h:(match xs with
 | [x,y]=>bC Γ a x&&bC Γ b y|x::y::z::r=>bC Γ a x&&bC Γ b (.BoolOp w (y::z::r) p)|_=>false)=true):∃x y r,xs=x::y::r/\bC Γ a x=true/\((r=[]/\bC Γ b y=true)\/bC Γ b (.BoolOp w (y::r) p)=true):=by
 rcases xs with _|⟨x,_|⟨y,_|⟨z,r⟩⟩⟩
 cases h;cases h;obtain⟨h1,h2⟩:=fO h;exact⟨x,y,[],rfl,h1,.inl ⟨rfl,h2⟩⟩;obtain⟨h1,h2⟩:=fO h;exact⟨x,y,z::r,rfl,h1,.inr h2⟩
theorem aQu(I:Q3 P n a)(L:Q3 P n b):Q3 P n (.an a b):=by
 have U:PWc P n (.an a b):=λ{X Γ} M {o xs pos} h RT Y J Z=>by obtain⟨h1,h2⟩:=fO h;have e:=eq_of_beq h1;subst e;obtain⟨x,y,r,rfl,B,q⟩:=aCb h2;rcases q with⟨rfl,q⟩|q;exact aNL (I.t M B RT Y J Z) (aHg (L.t M q RT Y J Z));exact aNL (I.t M B RT Y J Z) (L.w M q RT Y J Z)
 refine⟨λ{X Γ} M {e} h RT Y J Z=>?_,λ{X Γ} M {e} h RT Y J Z=>?_,U⟩;obtain⟨⟨o,xs,pos⟩,h1,g⟩:=aJ h;clear h;obtain rfl:=h1;have h:=g;clear g;obtain⟨h1,h2⟩:=fO h;have e:=eq_of_beq h1;subst e;obtain⟨x,y,r,e,B,q⟩:=aCb h2;subst e;rcases q with⟨rfl,q⟩|q;exact aNF (I.e M B RT Y J Z) (aEl (L.e M q RT Y J Z));exact aNF (I.e M B RT Y J Z) (L.e M q RT Y J Z);obtain⟨⟨o,xs,pos⟩,rfl,_⟩:=aJ h;exact(U M h RT Y J Z).pt
theorem aNY(I:Q3 P n a)(L:Q3 P n b):Q3 P n (.orr a b):=by
 have U:PWc P n (.orr a b):=λ{X Γ} M {o xs pos} h RT Y J Z=>by obtain⟨h1,h2⟩:=fO h;have e:=eq_of_beq h1;subst e;obtain⟨x,y,r,rfl,B,q⟩:=aCb h2;rcases q with⟨rfl,q⟩|q;exact aJj (I.t M B RT Y J Z) (aJN (L.t M q RT Y J Z));exact aJj (I.t M B RT Y J Z) (L.w M q RT Y J Z)
 refine⟨λ{X Γ} M {e} h RT Y J Z=>?_,λ{X Γ} M {e} h RT Y J Z=>?_,U⟩;obtain⟨⟨o,xs,pos⟩,h1,g⟩:=aJ h;clear h;obtain rfl:=h1;have h:=g;clear g;obtain⟨h1,h2⟩:=fO h;have e:=eq_of_beq h1;subst e;obtain⟨x,y,r,e,B,q⟩:=aCb h2;subst e;rcases q with⟨rfl,q⟩|q;exact aJh (I.e M B RT Y J Z) (aEl (L.e M q RT Y J Z));exact aJh (I.e M B RT Y J Z) (L.e M q RT Y J Z);obtain⟨⟨o,xs,pos⟩,rfl,_⟩:=aJ h;exact(U M h RT Y J Z).pt
theorem aNZ(L:Q3 P n t)(B:Q3 P n a)(I:Q3 P n b):Q3 P n (.ife t a b):=Q3.of (λ{X Γ} M {e} h RT Y J Z=>by
 obtain⟨⟨t',a',b'⟩,h1,g⟩:=aJ h;clear h;obtain⟨p,rfl⟩:=h1;have h:=g;clear g;obtain⟨h1,h2,q⟩:=gF h;exact aNG (L.t M h1 RT Y J Z) (B.e M h2 RT Y J Z) (I.e M q RT Y J Z)) (λ_=>rfl) rfl
theorem aOa(I:Q3 P n a)(L:Q3 P n b):Q3 P n (.cmp o a b):=by
 have B:∀{Γ:Ct} {e:A7},bC Γ (.cmp o a b) e=true->∃l r p,e=.Compare l [o] [r] p/\bC Γ a l=true/\bC Γ b r=true:=λ{Γ e} h=>by obtain⟨⟨l,os,U⟩,h1,g⟩:=aJ h;grind
 refine⟨λ{X Γ} M {e} h RT Y J Z=>?_,λ{X Γ} M {e} h RT Y J Z=>?_,λ{X Γ} M {o xs pos} h RT Y J Z=>absurd h bN⟩;obtain⟨l,r,p,rfl,h2,q⟩:=B h;exact aNH M (I.e M h2 RT Y J Z) (L.e M q RT Y J Z) (aQ q);obtain⟨l,r,p,rfl,h2,q⟩:=B h;exact cA M (I.e M h2 RT Y J Z) (L.e M q RT Y J Z) (aQ q)
theorem aLf(U:Q3 P n a):Q3 P n (.sset a):=Q3.of (λ{X Γ} M {e} h RT Y J Z=>by
 obtain⟨⟨f,xs⟩,h1,g⟩:=aJ h;clear h;obtain⟨p1,p2,rfl⟩:=h1;rcases xs with _|⟨s,_|⟨_,_⟩⟩
 cases g;obtain⟨⟨f2,W⟩,⟨p3,p4,B⟩,g⟩:=aJ g;subst B;obtain⟨h1,h2,I,L,q⟩:=aFE g;rcases W with _|⟨x,_|⟨_,_⟩⟩
 cases q;exact aKZ M (eq_of_beq h1) h2 (eq_of_beq I) L (U.e M q RT Y J Z) (aQ q);cases q;cases g) (λ_=>rfl) rfl
theorem aLg(I:Q3 P n a):Q3 P n (.dget j a):=Q3.of (λ{X Γ} M {e} h RT Y J Z=>by
 obtain⟨⟨y,i⟩,⟨p,rfl⟩,g⟩:=aJ h;obtain⟨x,⟨q,B⟩,g⟩:=aJ g;subst B;obtain⟨h1,h2⟩:=fO g;exact aKE M h1 (I.e M h2 RT Y J Z) (aQ h2)) (λ_=>rfl) rfl
theorem aLh(U:Q3 P n a)(W:Q3 P n b)(hc:Q3 P n c):Q3 P n (.cmp2 o1 o2 a b c):=by
 have L:∀{Γ:Ct} {e:A7},bC Γ (.cmp2 o1 o2 a b c) e=true->∃l m r p,e=.Compare l [o1,o2] [m,r] p/\bC Γ a l=true/\bC Γ b m=true/\bC Γ c r=true:=λ{Γ e} h=>by obtain⟨⟨l,os,rs⟩,h1,g⟩:=aJ h;grind
 refine⟨λ{X Γ} M {e} h RT Y J Z=>?_,λ{X Γ} M {e} h RT Y J Z=>?_,λ{X Γ} M {o xs pos} h RT Y J Z=>absurd h bN⟩;obtain⟨l,m,r,p,rfl,B,I,q⟩:=L h;exact aKH M (U.e M B RT Y J Z) (W.e M I RT Y J Z) (hc.e M q RT Y J Z) (aQ q);obtain⟨l,m,r,p,rfl,B,I,q⟩:=L h;exact aKI M (U.e M B RT Y J Z) (W.e M I RT Y J Z) (hc.e M q RT Y J Z) (aQ q)
theorem aOb(B:Q3 P n a)(I:Q3 P n b):Q3 P n (.idx a b):=by
 have k:PEc P n (.idx a b):=λ{X Γ} M {e} h RT Y J Z=>by obtain⟨⟨x,i⟩,h1,g⟩:=aJ h;clear h;obtain⟨p,rfl⟩:=h1;have h:=g;clear g;obtain⟨h1,h2⟩:=fO h;exact aNI (B.e M h1 RT Y J Z) (I.e M h2 RT Y J Z) (aQ h2)
 refine⟨k,λ{X Γ} M {e} h RT Y J Z=>?_,λ{X Γ} M {o xs pos} h RT Y J Z=>absurd h bN⟩;refine uL (k M h RT Y J Z) ?_ λp q=>?_;obtain⟨⟨x,i⟩,⟨p,rfl⟩,_⟩:=aJ h;intro _;rfl;have q:=RE.bind' (q);show RE (ev P (call P n) Z a >>= λx=>ev P (call P n) Z b >>= λy=>eK x y) _;rw[RE.bind];refine q.mono λx L=>?_;rw[RE.bind];exact(RE.bind' L).mono λy U=>RE.bind' U
theorem aOc{a:E}{lo hi:Es}(I:Q3 P n a)(U:QA P n lo)(L:QA P n hi):Q3 P n (.sli a lo hi):=Q3.of (λ{X Γ} M {e} h RT Y J Z=>by
 obtain⟨⟨x,i⟩,h1,g⟩:=aJ h;clear h;obtain⟨p,rfl⟩:=h1;have h:=g;clear g;obtain⟨⟨l,u⟩,h1,g⟩:=aJ h;clear h;obtain⟨W,q⟩:=h1;have h:=g;clear g;subst q;obtain⟨h1,h2,B⟩:=gF h;exact aNO (I.e M h1 RT Y J Z) (U.o M h2 RT Y J Z) (L.o M B RT Y J Z)) (λ_=>rfl) rfl
theorem aOd(q:QA P n es):Q3 P n (.tup es):=Q3.of (λ{X Γ} M {e} h RT Y J Z=>by
 obtain⟨xs,h1,g⟩:=aJ h;clear h;obtain⟨k,p,rfl⟩:=h1;have h:=g;clear g;obtain⟨h1,h2⟩:=fO h;exact aNJ (q.a M h2 RT Y J Z) h2 (of_decide_eq_true h1)) (λ_=>rfl) rfl
theorem aOe(q:QA P n es):Q3 P n (.lst es):=Q3.of (λ{X Γ} M {e} h RT Y J Z=>by
 obtain⟨xs,h1,g⟩:=aJ h;clear h;obtain⟨p,rfl⟩:=h1;have h:=g;clear g;obtain⟨h1,h2⟩:=fO h;exact aJi (q.a M h2 RT Y J Z) h2 (of_decide_eq_true h1)) (λ_=>rfl) rfl
theorem aLi(L:QA P n es):Q3 P n (.call f es):=by
 have k:PEc P n (.call f es):=λ{X Γ} M {e} h RT Y J Z=>by obtain⟨⟨x,xs⟩,h1,g⟩:=aJ h;clear h;obtain⟨p1,p2,rfl⟩:=h1;have h:=g;clear g;obtain⟨h1,h2,I,q⟩:=aFD h;exact aKF M (eq_of_beq h1) h2 I (L.a M q RT Y J Z) (jO q) q
 refine⟨k,λ{X Γ} M {e} h RT Y J Z=>?_,λ{X Γ} M {o xs pos} h RT Y J Z=>absurd h bN⟩;refine uL (k M h RT Y J Z) ?_ λp B=>?_;obtain⟨⟨x,xs⟩,⟨p1,p2,rfl⟩,_⟩:=aJ h;intro _;rfl;have B:=RE.bind' (B);show RE (evs P (call P n) Z es >>= λvs=>call P n f (vs.map (·.d)) >>= λr=>R.ok (lO vs r)) _;rw[RE.bind];refine B.mono λx U=>?_;rw[RE.bind];exact(RE.bind' U).mono λy W=>W
theorem aQv(W:QA P n es):Q3 P n (.bi b es):=by
 have k:PEc P n (.bi b es):=λ{X Γ} M {e} h RT Y J Z=>by
  obtain⟨⟨x,xs⟩,h1,g⟩:=aJ h;clear h;obtain⟨p1,p2,rfl⟩:=h1;have h:=g;clear g;obtain⟨h2,I,L,U,B⟩:=aFE h;cases xs with
  | nil=>cases U|cons y ys=>exact aQo M (eq_of_beq h2) I L (W.a M B RT Y J Z) (jO B)
 refine⟨k,λ{X Γ} M {e} h RT Y J Z=>?_,λ{X Γ} M {o xs pos} h RT Y J Z=>absurd h bN⟩;refine uL (k M h RT Y J Z) ?_ λp q=>?_;obtain⟨⟨x,xs⟩,⟨p1,p2,rfl⟩,_⟩:=aJ h;intro _;rfl;have q:=RE.bind' (q);show RE (evs P (call P n) Z es >>= λvs=>biD b vs) _;rw[RE.bind];exact q.mono λx hx=>RE.bind' hx
theorem aOf(W:Q3 P n a):Q3 P n (.isi a cs):=by
 have k:PEc P n (.isi a cs):=λ{X Γ} M {e} h RT Y J Z=>by
  obtain⟨⟨f,xs⟩,h1,g⟩:=aJ h;clear h;obtain⟨p1,p2,rfl⟩:=h1;have h:=g;clear g;rcases cs with _|⟨c,_|⟨c',r⟩⟩
  cases h;rcases xs with _|⟨x,_|⟨y,_|⟨_,_⟩⟩⟩
  cases h;cases h;obtain⟨h1,h2,U,B⟩:=aFD h;unfold aJc at B;split at B;obtain⟨q1,q2,q3⟩:=gF B;exact aNK M (eq_of_beq h1) h2 (eq_of_beq q1) q2 q3 (W.e M U RT Y J Z) (aQ U);cases B;cases h;cases h
 refine⟨k,λ{X Γ} M {e} h RT Y J Z=>?_,λ{X Γ} M {o xs pos} h RT Y J Z=>absurd h bN⟩;refine uL (k M h RT Y J Z) ?_ λp L=>?_;obtain⟨⟨x,xs⟩,⟨p1,p2,rfl⟩,_⟩:=aJ h;intro _;rfl;have L:=RE.bind' (L);show RE (ev P (call P n) Z a >>= λx=>(match isI cs P x.d with|some k=>R.ok (Vl.cl (.bl k))|none=>.bad)) _;rw[RE.bind];refine L.mono λx I=>?_;cases q:isI cs P x.d with
 | none=>rw[q] at I;exact I.elim|some k=>rw[q] at I;exact I
theorem aLj{k:Nat}{caps:List Nat}{t:T}{it:Hp.It}{cond:Es}{elt:E}(hi:QI P n it)(hc:QA P n cond)(he:Q3 P n elt):Q3 P n (.comp k caps t it cond elt):=Q3.of (λ{X Γ} M {e} h RT Y J Z=>by
 obtain⟨el,tg,L,q0,scope,pos,rfl,O,h1,h2,I,U,W⟩:=aCa h;refine aKT M (O.scope M) O.ndc O.tk (hi M I RT Y J Z) (λC s₀ H₀ ex=>?_) (oJ (mO I));have q:=O.mc M C s₀ H₀ ex;exact⟨aHW q h2,λRT Y J B=>hc.ts q h1 U RT Y J B,λRT Y J B=>he.e q W RT Y J B⟩) (λ_=>rfl) rfl
theorem aLk(ha:Q3 P n a):Q3 P n (.tget i a):=Q3.of (λ{X Γ} M {e} h RT Y J Z=>by
 obtain⟨⟨o,m,xs,l⟩,h1,g⟩:=aJ h;clear h;obtain⟨ap,cp,rfl,B⟩:=h1;have h:=g;clear g;obtain⟨x,h1,g⟩:=aJ h;clear h;obtain⟨p,I⟩:=h1;have h:=g;clear g;subst I;obtain⟨h,q⟩:=fO h;obtain⟨h1,h2,L,U,W⟩:=aFE h;rw[show l=true from W] at B;rcases xs with _|⟨y,_|⟨_,_⟩⟩
 cases q;exact aKG M (eq_of_beq h1) (eq_of_beq h2) L U B (ha.e M q RT Y J Z) (aQ q);cases q) (λ_=>rfl) rfl
theorem aFF(U:Q3 P n a):Q3 P n (.numset a):=Q3.of (λ{X Γ} M {e} h RT Y J Z=>by
 obtain⟨⟨f,xs⟩,h1,g⟩:=aJ h;clear h;obtain⟨p1,p2,rfl⟩:=h1;have h:=g;clear g;rcases xs with _|⟨s,_|⟨_,_⟩⟩
 cases h;obtain⟨⟨g,W⟩,h1,g⟩:=aJ h;clear h;obtain⟨p3,p4,B⟩:=h1;have h:=g;clear g;subst B;obtain⟨h1,h2,I,L,q⟩:=aFE h;rcases W with _|⟨x,_|⟨_,_⟩⟩
 cases q;exact aFg M (eq_of_beq h1) h2 (eq_of_beq I) L (U.e M q RT Y J Z) (aQ q);cases q;cases h) (λ_=>rfl) rfl
theorem aOg:QA P n .nil:=by
 refine⟨λ{X Γ} M {es} h RT Y J Z=>?_,λ{X Γ} M {e} h RT Y J Z=>?_,λ{X Γ} M {es} q h RT Y J Z=>?_⟩;cases es with
 | nil=>exact rF|cons _ _=>exact nf h
 cases e with
 | none=>exact aNM|some _=>exact nf h
 cases es with
 | nil=>exact aKR|cons _ _=>exact nf h
theorem aLl(q:Q3 P n c)(hs:QA P n cs):QA P n (.cons c cs):=by
 refine⟨λ{X Γ} M {es} h RT Y J Z=>?_,λ{X Γ} M {e} h RT Y J Z=>?_,λ{X Γ} M {es} B h RT Y J Z=>?_⟩;cases es with
 | nil=>exact nf h|cons e es=>obtain⟨h1,h2⟩:=fO h;exact hZ (q.e M h1 RT Y J Z) (hs.a M h2 RT Y J Z) (aQ h1)
 cases cs with
 | nil=>cases e with|none=>exact nf h|some e=>exact aNN (q.e M (by exact h) RT Y J Z)
 | cons _ _=>cases e <;> exact nf h
 cases es with
 | nil=>exact nf h|cons e es=>
  obtain⟨h1,h2⟩:=fO h;cases es with
  | nil=>cases cs with|nil=>exact aKS (q.t M h1 RT Y J Z)|cons _ _=>exact absurd h2 bN
  | cons _ _=>simp at B
theorem aOh(q:Q3 P n c):QI P n (.seq c):=λ{X Γ} M {tg e} h RT Y J Z=>aNP (q.e M (by exact h) RT Y J Z)
theorem aOi(U:Q3 P n a)(I:Q3 P n b):QI P n (.rng a b):=λ{X Γ} M {tg e} h RT Y J Z=>by
 rw[zK] at h;obtain⟨⟨f,xs⟩,h1,g⟩:=aJ h;clear h;obtain⟨W,p2,rfl⟩:=h1;have h:=g;clear g;obtain⟨h1,h2,q⟩:=gF h;rcases xs with _|⟨x,_|⟨y,_|⟨_,_⟩⟩⟩
 cases q;obtain⟨q,B⟩:=fO q;have L:a=.c (.int 0):=by unfold aAL at q;split at q;rw[eq_of_beq q];cases q
 rw[L];exact aKO M (eq_of_beq h1) h2 (I.e M B RT Y J Z) (aQ B);obtain⟨q,B⟩:=fO q;exact aKP M (eq_of_beq h1) h2 (U.e M q RT Y J Z) (I.e M B RT Y J Z) (aQ q) (aQ B);cases q
theorem aOj(L:Q3 P n a):QI P n (.dwn a):=λ{X Γ} M {tg e} h RT Y J Z=>by
 rw[zM] at h;obtain⟨⟨f,xs⟩,h1,g⟩:=aJ h;clear h;obtain⟨U,W,rfl⟩:=h1;have h:=g;clear g;obtain⟨h1,h2,q⟩:=gF h;rcases xs with _|⟨x,_|⟨y,_|⟨z,_|⟨_,_⟩⟩⟩⟩
 cases q;cases q;cases q;obtain⟨q,B,I⟩:=gF q;exact aNW M (eq_of_beq h1) h2 (L.e M q RT Y J Z) (aQ q) B I;cases q
theorem aOk(L:Q3 P n a)(U:Q3 P n b):QI P n (.zip a b):=λ{X Γ} M {tg e} h RT Y J Z=>by
 rw[zL] at h;obtain⟨⟨f,xs⟩,h1,g⟩:=aJ h;clear h;obtain⟨W,p2,rfl⟩:=h1;have h:=g;clear g;rcases xs with _|⟨x,_|⟨y,_|⟨_,_⟩⟩⟩
 cases h;cases h;obtain⟨q,h1,h2,B,I⟩:=aFE h;unfold qZ at q;split at q;exact aNQ M (eq_of_beq h1) h2 (L.e M B RT Y J Z) (U.e M I RT Y J Z) (aQ B) (aQ I);cases q;cases h
theorem aLm(I:Q3 P n a):QI P n (.enum a):=λ{X Γ} M {tg e} h RT Y J Z=>by
 rw[uU] at h;obtain⟨⟨f,xs⟩,h1,g⟩:=aJ h;clear h;obtain⟨L,U,rfl⟩:=h1;have h:=g;clear g;rcases xs with _|⟨x,_|⟨_,_⟩⟩
 cases h;obtain⟨q,h1,h2,B⟩:=aFD h;unfold qZ at q;split at q;exact aKQ M (eq_of_beq h1) h2 (I.e M B RT Y J Z) (aQ B);cases q;cases h
mutual
theorem qE:(c:E)->Q3 P n c
 | .c _=>n_c|.v _=>n_v|.op _ a b=>aQs (qE a) (qE b)|.neg a=>aNX (qE a)|.nt a=>aQt (qE a)|.an a b=>aQu (qE a) (qE b)|.orr a b=>aNY (qE a) (qE b)|.ife t a b=>aNZ (qE t) (qE a) (qE b)|.cmp _ a b=>aOa (qE a) (qE b)|.dget _ a=>aLg (qE a)|.sset a=>aLf (qE a)|.cmp2 _ _ a b c=>aLh (qE a) (qE b) (qE c)|.idx a b=>aOb (qE a) (qE b)|.sli a lo hi=>aOc (qE a) (qA lo) (qA hi)|.tup es=>aOd (qA es)|.lst es=>aOe (qA es)|.call _ es=>aLi (qA es)|.bi _ es=>aQv (qA es)|.isi a _=>aOf (qE a)|.comp _ _ _ it cond elt=>aLj (qI it) (qA cond) (qE elt)|.numset a=>aFF (qE a)|.tget _ a=>aLk (qE a)
theorem qA:(cs:Es)->QA P n cs
 | .nil=>aOg|.cons c cs=>aLl (qE c) (qA cs)
theorem qI:(it:Hp.It)->QI P n it
 | .seq c=>aOh (qE c)|.rng a b=>aOi (qE a) (qE b)|.dwn a=>aOj (qE a)|.zip a b=>aOk (qE a) (qE b)|.enum a=>aLm (qE a)
end
theorem sE(c:E):PEc P n c:=(qE c).e
theorem sT(c:E):PTc P n c:=(qE c).t
theorem sTs(cs:Es):∀{X:Cx} {Γ:Ct},Mc X P Γ n->∀{es:List A7},es.length<=1->chkEs Γ cs es=true->∀(RT Y J:Addr->Prop) (Z:Sg),PTs X es (wTs X P n RT Y J Z cs):=(qA cs).ts
theorem sI(it:Hp.It):QI P n it:=qI it
end
end Hp
end
noncomputable section
set_option maxHeartbeats 4000000
namespace Hp
open PySem PySem.Spec PyProof.Rows L2
noncomputable def iA(K:Fg)(RT Y J:Addr->Prop)(H:Hp)(Z':Sg)(Q:L2.St->Hp->Prop):Prop:=
 ∀(RT':Addr->Prop) (ZV':L2.St) (H':Hp),Kp RT H H'->(∀b,RT' b->RT b\/H b=none)->Sx K RT' Y J Z' ZV' H'->Q ZV' H'
noncomputable def Rtv(K:Fg)(Y J:Addr->Prop)(H':Hp)(v:Vl)(u:V):Prop:=
 if v.fr=true then ∃a xs ds,u=.ref a/\v.d=.lst ds/\¬ J a/\H' a=some (.lst xs)/\Reps K H' (λb=>b=a\/exB Y J v.pa b) ds xs
 else Rep K H' (exB Y J v.pa) v.d u
noncomputable def aOl(K:Fg)(RT Y J:Addr->Prop)(H:Hp)(v:Vl)(Q:VK):Prop:=∀(u:V) (H':Hp),Kp RT H H'->Tk K H'->Rtv K Y J H' v u->Q u H'
noncomputable def OE(K:Fg)(RT Y J:Addr->Prop)(H:Hp)(o:O)(D:Ends):Prop:=match o with|.next Z'=>iA K RT Y J H Z' D.nx|.brk Z'=>iA K RT Y J H Z' D.bk|.cnt Z'=>iA K RT Y J H Z' D.ct|.ret v=>aOl K RT Y J H v D.rt|.bad=>False
noncomputable def wS(X:Cx)(RT Y J:Addr->Prop)(Z:Sg)(o:O):TS:=λD ZV H=>Sx X.K RT Y J Z ZV H/\OE X.K RT Y J H o D
section
variable {K:Fg} {RT RT' RT'' Y J:Addr->Prop} {Z:Sg} {ZV:L2.St} {H H1 H2:Hp} {o:O} {D D':Ends}
theorem Kp.chain(a:Kp RT H H1)(s:∀b,RT' b->RT b\/H b=none)(b:Kp RT' H1 H2):Kp RT H H2:=λc o e n=>b c o (a c o e n) λz=>(s c z).elim n λq=>by rw[q] at e;cases e
theorem gK(a:Kp RT H H1)(s1:∀b,RT' b->RT b\/H b=none)(s2:∀b,RT'' b->RT' b\/H1 b=none):∀b,RT'' b->RT b\/H b=none:=λb z=>by
 rcases s2 b z with q|q;exact s1 b q;by_cases B:RT b;exact .inl B;refine .inr ?_;cases e:H b with
 | none=>rfl|some o=>rw[a b o e B] at q;cases q
theorem iA.mono{Q:L2.St->Hp->Prop}(a:Kp RT H H1)(s:∀b,RT' b->RT b\/H b=none)(h:iA K RT Y J H Z' Q):iA K RT' Y J H1 Z' Q:=λq B H2 k n S=>h q B H2 (a.chain s k) (gK a s n) S
theorem OE.mono(a:Kp RT H H1)(s:∀b,RT' b->RT b\/H b=none)(h:OE K RT Y J H o D):OE K RT' Y J H1 o D:=by
 cases o with
 | next Z'=>exact iA.mono a s h|brk Z'=>exact iA.mono a s h|cnt Z'=>exact iA.mono a s h|ret v=>exact λu H2 k t r=>(h) u H2 (a.chain s k) t r|bad=>exact h
theorem bH:∀b,RT b->RT b\/H b=none:=λ_ z=>.inl z
noncomputable def tkE(K:Fg)(D:Ends):Ends:=⟨λZ H=>Tk K H->D.nx Z H,λv H=>Tk K H->D.rt v H,λZ H=>Tk K H->D.bk Z H,λZ H=>Tk K H->D.ct Z H⟩
theorem OE.from{α:Type}{x:R α}{f:α->O}(h:OE K RT Y J H (O.from Z x f) D):RE x λa=>OE K RT Y J H (f a) D:=by
 cases x with
 | ok a=>exact h|bad=>exact h
end
section
variable {X:Cx} {st:Cg} {t t':TS}
theorem aJp{G:List (Addr×Obj)}{D:Ends}{f:Flow}{s':Ag}(h:SP X G (tkE X.K D) f s'):SP X G D f s':=by
 cases f with
 | next=>obtain⟨Z',H',I,q⟩:=h;exact⟨Z',H',I,q I.tk⟩|brk=>obtain⟨Z',H',I,q⟩:=h;exact⟨Z',H',I,q I.tk⟩|cont=>obtain⟨Z',H',I,q⟩:=h;exact⟨Z',H',I,q I.tk⟩|ret u=>obtain⟨v,Z',H',I,r,q⟩:=h;exact⟨v,Z',H',I,r,q I.tk⟩
theorem cO(h:PS X st t)(f:∀D ZV H,Tk X.K H->t' D ZV H->t (tkE X.K D) ZV H):PS X st t':=λG s ZV H D I B=>thn (h G s ZV H _ I (f D ZV H I.tk B)) λfl s' q=>aJp q
theorem wG(h:PSs X sts t)(f:∀D ZV H,Tk X.K H->t' D ZV H->t (tkE X.K D) ZV H):PSs X sts t':=λG s ZV H D I B=>thn (h G s ZV H _ I (f D ZV H I.tk B)) λfl s' q=>aJp q
theorem wH{Y J:Addr->Prop}{f:Sg->O}(h:∀RT Z,PSs X sts (wS X RT Y J Z (f Z))):PSs X sts (λD ZV H=>∃RT Z,wS X RT Y J Z (f Z) D ZV H):=λG s ZV H D I ⟨RT,Z,q⟩=>h RT Z G s ZV H D I q
end
section
variable {X:Cx} {P:Pg} {Γ:Ct} {n:Nat} {RT Y J:Addr->Prop} {Z:Sg} {pos:Dy}
theorem iA.tkE{Q:L2.St->Hp->Prop}(h:iA X.K RT Y J H Z' Q):iA X.K RT Y J H Z' λZ H=>Tk X.K H->Q Z H:=λq B H' k n S _=>h q B H' k n S
theorem OE.tkE{o:O}{D:Ends}{H:Hp}(h:OE X.K RT Y J H o D):OE X.K RT Y J H o (tkE X.K D):=by
 cases o with
 | next Z'=>exact iA.tkE h|brk Z'=>exact iA.tkE h|cnt Z'=>exact iA.tkE h|ret v=>exact λu q k t r _=>(h) u q k t r|bad=>exact h
theorem aOm:PSs X [] (wS X RT Y J Z (exs P (call P n) Z .nil)):=wG aBF λD ZV H t ⟨S,h⟩ _=>(h) RT ZV H (Kp.refl RT H) bH S
theorem aLn(h1:∀RT Z,PS X x (wS X RT Y J Z (ex P (call P n) Z s)))(h2:∀RT Z,PSs X xs (wS X RT Y J Z (exs P (call P n) Z ss))) :
 PSs X (x::xs) (wS X RT Y J Z (exs P (call P n) Z (.cons s ss))):=by
 refine wG (aEn (h1 RT Z) (wH h2)) λD ZV H t ⟨S,h⟩=>?_;have h:OE X.K RT Y J H ((ex P (call P n) Z s).on λZ'=>exs P (call P n) Z' ss) D:=h;refine⟨S,?_⟩;cases q:ex P (call P n) Z s with
 | next Z'=>rw[q] at h;exact λB L H' k U I=>⟨B,Z',I,(OE.mono k U (h)).tkE⟩
 | brk Z'=>rw[q] at h;exact OE.tkE h|cnt Z'=>rw[q] at h;exact OE.tkE h|ret v=>rw[q] at h;exact OE.tkE h|bad=>rw[q] at h;exact h
theorem aLo:PS X (.Pass pos) (wS X RT Y J Z (ex P (call P n) Z .pass)):=cO aHh λD ZV H t ⟨S,h⟩ _=>(h) RT ZV H (Kp.refl RT H) bH S
theorem aOn:PS X (.Break pos) (wS X RT Y J Z (ex P (call P n) Z .brk)):=cO aEo λD ZV H t ⟨S,h⟩ _=>(h) RT ZV H (Kp.refl RT H) bH S
theorem aOo:PS X (.Continue pos) (wS X RT Y J Z (ex P (call P n) Z .cnt)):=cO yC λD ZV H t ⟨S,h⟩ _=>(h) RT ZV H (Kp.refl RT H) bH S
theorem aOp{st:Cg}{c:Nat}{k:Bool}{es:Es}:PS X st (wS X RT Y J Z (ex P (call P n) Z (.rse c k es))):=cO aEq λD ZV H t ⟨S,h⟩=>h.elim
theorem aCc(h:exB Y J pa b):exV RT Y J Z ZV pa al b:=.inr h
theorem Ro.rtv(S:Sx X.K RT Y J Z ZV H)(B:Ro X.K RT Y J Z ZV H H' v u):Rtv X.K Y J H' v u:=by unfold Rtv;by_cases q:v.fr=true;rw[if_pos q];obtain⟨s,h⟩:=B;rw[if_pos q] at h;obtain⟨a,xs,ds,I,L,U,W,r⟩:=h;exact⟨a,xs,ds,I,L,λz=>S.trk a (.inr (.inr z)) U,W,r.weak λb z=>z.elim .inl λz=>.inr (aCc z)⟩;rw[if_neg q];exact Rep.weak (B.rv S) λb z=>aCc z
theorem aOq(B:PE X e (WE X P n RT Y J Z c)):PS X (.Return (some e) pos) (wS X RT Y J Z (ex P (call P n) Z (.ret c))):=by exact cO (aEp B) λD ZV H t ⟨S,h⟩=>(wE.one S (OE.from (show OE X.K RT Y J H (O.from Z (ev P (call P n) Z c) .ret) D from h)) λx u H1 I L U q _=>(I) u H1 (Kp.same q.1) L (q.rtv S))
theorem aLp:PS X (.Return none pos) (wS X RT Y J Z (ex P (call P n) Z .retN)):=cO aHi λD ZV H t ⟨S,h⟩ _=>(h) .non H (Kp.refl RT H) t rfl
theorem aLq(M:Mc X P Γ n)(W:dB Γ i x=true):PS X (.Return (some (.Name x p)) pos) (wS X RT Y J Z (ex P (call P n) Z (.retv i))):=by
 have L:PE X (.Name x p) (aJK i):=by unfold dB at W;obtain⟨h1,h2,q⟩:=gF W;exact vL (by rw[M.N];exact eq_of_beq h1) (M.vis h2) (cE q) (kO q)
 refine cO (aEp L) λD ZV H t ⟨S,h⟩=>?_;have h:OE X.K RT Y J H (match Z[i]? with|some (.own pa ds)=>.ret ⟨.lst ds,true,pa,[]⟩|some (.own2 dss)=>.ret ⟨.lst (dss.map .lst),true,false,[]⟩|_=>O.from Z (dI Z i) .ret) D:=h;unfold dI at h;cases e:Z[i]? with
 | none=>rw[e] at h;exact h.elim|some sl=>
  rw[e] at h;cases sl with
  | dead=>exact h.elim|dct _=>exact h.elim|own2 dss=>obtain⟨a,bs,h1,h2,q,B,I⟩:=S.dx.at2 i dss e;refine⟨.ref a,h1,λ_=>(h) _ H (Kp.refl RT H) t ?_⟩;unfold Rtv;rw[if_pos rfl];rw[Bg] at B;refine⟨a,bs.map V.ref,dss.map .lst,rfl,rfl,(q a Ar).2.1,h2,I.reps λb U z=>?_⟩;rcases z with z|z|z;grind;exact(q b (Al _ U)).2.1 (S.yo b z);exact(q b (Al _ U)).2.1 z.2
  | own pa ds=>obtain⟨a,xs,h1,h2,q,B,I⟩:=S.own i pa ds e;refine⟨.ref a,h1,λ_=>(h) _ H (Kp.refl RT H) t ?_⟩;unfold Rtv;rw[if_pos rfl];exact⟨a,xs,ds,rfl,rfl,B,h2,I.weak λb z=>z.elim (λz=>.inl (by rw[z];exact q)) .inr⟩|sh pa d=>
   obtain⟨v,h1,h2⟩:=S.sh i pa d e;refine⟨v,h1,λ_=>(h) v H (Kp.refl RT H) t ?_⟩;unfold Rtv;rw[if_neg bN];cases hn:noL d with
   | true=>exact Rep.free d v hn h2|false=>refine h2.weak λb z=>.inr ?_;rw[Et,Dh] at z;exact z
theorem aQw(B:PE X e (WE X P n RT Y J Z c))(hs:rB e=false):PS X (.Expr e pos) (wS X RT Y J Z (ex P (call P n) Z (.ex c))):=by exact cO (iP B (by cases e <;> first|rfl|cases hs)) λD ZV H t ⟨S,h⟩=>(wE.one S (OE.from (show OE X.K RT Y J H (O.from Z (ev P (call P n) Z c) λ_=>.next Z) D from h)) λx u H1 I U q L _=>(I) RT ZV H1 (Kp.same L.1) bH q)
theorem aQx(U:PT X e (WT X P n RT Y J Z c))(I:∀RT Z,PSs X xa (wS X RT Y J Z (exs P (call P n) Z a)))(L:∀RT Z,PSs X xb (wS X RT Y J Z (exs P (call P n) Z b))) :
 PS X (.If e xa xb pos) (wS X RT Y J Z (ex P (call P n) Z (.iff c a b))):=by
 refine cO (aIX U (I RT Z) (L RT Z)) λD ZV H t ⟨S,h⟩=>?_;refine⟨S,(OE.from (show OE X.K RT Y J H (O.from Z (tst P (call P n) Z c) λk=>if k=true then exs P (call P n) Z a else exs P (call P n) Z b) D from h)).mono λk q H1 B s1=>?_⟩;cases k with
 | true=>rw[if_pos rfl] at q ⊢;exact⟨S.grow s1 B,(OE.mono (Kp.same s1) bH q).tkE⟩|false=>rw[if_neg bN] at q ⊢;exact⟨S.grow s1 B,(OE.mono (Kp.same s1) bH q).tkE⟩
theorem wJ{v:Vl}{D:Ends}(S:Sx X.K RT Y J Z ZV H)(W:Tk X.K H1)(q:Ro X.K RT Y J Z ZV H H1 v u)(h:OE X.K RT Y J H (O.from Z (bT (freeze Z v.al) v t) .next) D):gT X.K t u ZV H1 D.nx:=by
 obtain⟨Z2,e,U⟩:=(OE.from h).eq;clear h;cases t with
 | n i=>obtain⟨L,S',I⟩:=S.store q W i;rw[rQ e] at U;exact U L _ H1 (Kp.same q.1) I S'|t is=>
  obtain⟨ds,hd,hl,e'⟩:=rP e;have B:v.fr=false\/v.fr=true:=by grind
  rcases B with B|B;exact aFs ((S.grow q.1 W).frz v.al) B (q.rv S) e λq0 S2 _=>U _ _ _ (Kp.same q.1) (λb z=>.inl z.1) S2;have:=q.2;rw[if_pos B] at this;grind
theorem aLr(M:Mc X P Γ n)(q:cD Γ i x=true)(B:PE X e (WE X P n RT Y J Z c))(hs:rB e=false):PS X (.Assign [.Name x p] e pos) (wS X RT Y J Z (ex P (call P n) Z (.set (.n i) c))):=by unfold cD at q;obtain⟨h1,h2,h3⟩:=gF q;exact cO (vO M.nd (by rw[M.N];exact eq_of_beq h1) (M.loc h2) B (by cases e <;> first|rfl|cases hs) (M.st x h2)) λD ZV H t ⟨S,h⟩=>(wE.one S (OE.from (show OE X.K RT Y J H (O.from Z (ev P (call P n) Z c) λv=>O.from Z (bT (freeze Z v.al) v (.n i)) .next) D from h)) λv u H1 I U W L=>wJ S U L (OE.tkE I))
theorem aLs(M:Mc X P Γ n)(I:tV Γ (.t is) (.Tuple es k p)=true)(q:PE X e (WE X P n RT Y J Z c))(hs:vY e=false):PS X (.Assign [.Tuple es k p] e pos) (wS X RT Y J Z (ex P (call P n) Z (.set (.t is) c))):=by exact cO (vN q (aHW M I) (by cases e <;> rfl) (by cases e <;> first|rfl|cases hs)) λD ZV H t ⟨S,h⟩=>(wE.one S (OE.from (show OE X.K RT Y J H (O.from Z (ev P (call P n) Z c) λv=>O.from Z (bT (freeze Z v.al) v (.t is)) .next) D from h)) λv u H1 B U W L=>wJ S U L (OE.tkE B))
theorem aDB{i:Nat}{x:Str}{p L:Dy}(M:Mc X P Γ n)(hx:cD Γ i x=true){k:Nat}{caps:List Nat}{t:T}{it:Hp.It}{cond:Es}{elt:E}{e tg B:A7}{U:List A7}{scope:Da}{N':List Str}(CS:eD X scope k caps N')(q0:caps.Nodup)(hk:∀i∈tIx t,i<k)
 (hi:PI X tg B (wI X P n RT Y J Z it))
 (W:∀C s₀ H₀ ex,PG (fB X scope N' C s₀ H₀ ex) tg (gT X.K t)/\(∀RT Y J q,PTs (fB X scope N' C s₀ H₀ ex) U (wTs X P n RT Y J q cond))/\∀RT Y J q,PE (fB X scope N' C s₀ H₀ ex) e (WE X P n RT Y J q elt))
 (hs:∀x,BU B X.env x=pure x):PS X (.Assign [.Name x p] (.ListComp e [⟨tg,B,U,0⟩] scope L) pos) (wS X RT Y J Z (ex P (call P n) Z (.set (.n i) (.comp k caps t it cond elt)))):=by
 unfold cD at hx;obtain⟨h1,h2,h3⟩:=gF hx;refine cO (aAP (g:=gT X.K t) (tt:=λZV H Q=>∃RT Y J q,wTs X P n RT Y J q cond ZV H Q) (te:=λZV H Q=>∃RT Y J q,WE X P n RT Y J q elt ZV H Q) CS M.calm hi (λC s₀ H₀ ex=>?_) hs M.nd (by rw[M.N];exact eq_of_beq h1) (M.loc h2) (M.st x h2)) λD ZV H t0 ⟨S,h⟩=>?_;obtain⟨h1,h2,h3⟩:=W C s₀ H₀ ex;exact⟨h1,λG s ZV H Q I ⟨RT,Y,J,q,hw⟩=>h2 RT Y J q G s ZV H Q I hw,λG s ZV H Q I ⟨RT,Y,J,q,hw⟩=>h3 RT Y J q G s ZV H Q I hw⟩;have h:=OE.from (show OE X.K RT Y J H (O.from Z (ev P (call P n) Z (.comp k caps t it cond elt)) λv=>O.from Z (bT (freeze Z v.al) v (.n i)) .next) D from h)
 exact aFu q0 hk ⟨S,h.mono λv hv u H1 t1 r1=>wJ S t1 r1 hv⟩
theorem Sx.mut{K:Fg}{ZV:L2.St}{H:Hp}(S:Sx K RT Y J Z ZV H){i:Nat}{pa pa':Bool}{ds ds':List D}{a:Addr}{B:List V}(e:Z[i]? = some (.own pa ds))(ha:ZV[i]? = some (some (.ref a)))(r:Reps K H (λb=>RT b\/exB Y J pa' b) ds' B) :
 Sx K RT Y J (Z.set i (.own pa' ds')) ZV (upd H a (.lst B)):=by
 obtain⟨a',xs,h1,h2,h3,h4,h5⟩:=S.own i pa ds e;rw[ha] at h1;cases h1;have ks:∀{ex:Addr->Prop},∀b o,H b=some o->(∀W,o=.lst W->¬ (RT b\/ex b))->(∀φ,o≠.ext φ)->upd H a (.lst B) b=some o:=λ{ex} b o q hl _=>by rw[aN λz=>by grind];exact q
 exact {
  sh:=λj U d q=>by
   rcases set_some q with⟨_,z,_⟩|⟨_,q⟩
   cases z;obtain⟨v,g1,g2⟩:=S.sh j U d q;exact⟨v,g1,g2.keep ks⟩
  own:=λj U I q=>by
   rcases set_some q with⟨rfl,z,_⟩|⟨q0,q⟩
   cases z;exact⟨a,B,ha,bY,h3,h4,r.keep ks⟩;obtain⟨b,W,g1,g2,g3,g4,g5⟩:=S.own j U I q;have L:b≠a:=λz=>by subst z;exact q0 (S.inj i j pa U ds I b e q ha g1)
   exact⟨b,W,g1,by rw[aN L];exact g2,g3,g4,g5.keep ks⟩
  trk:=λb z q=>by by_cases L:b=a;rw[L,bY] at q;cases q;rw[aN L] at q;exact S.trk b z q
  yo:=S.yo
  tk:=λb z=>by by_cases L:b=a;rw[L];exact S.tk a (by rw[h2];simp);rw[aN L] at z;exact S.tk b z
  rt:=λb z=>by by_cases L:b=a;rw[L];exact .inl ⟨B,bY⟩;unfold RtO;rw[aN L];exact S.rt b z
  inj:=λj j' U q4 I q3 b q1 q2=>by
   have get:∀{j:Nat} {U:Bool} {I:List D},(Z.set i (.own pa' ds'))[j]? = some (.own U I)->∃p2 d2,Z[j]? = some (.own p2 d2):=λ{j U I} q=>by grind
   obtain⟨_,_,z1⟩:=get q1;obtain⟨_,_,z2⟩:=get q2;exact S.inj j j' _ _ _ _ b z1 z2
  len:=by rw[Av];exact S.len
  dx:=S.dx.imp id (λj I q=>by
   rcases set_some q with⟨_,z,_⟩|⟨_,q⟩
   cases z;exact⟨q,rfl⟩) (λ_ _ _ _ _ _ e=>e) (λb W q z _=>⟨by rw[aN λw=>by rw[w,h2] at q;cases q];exact q,z⟩) (λb ks z=>Kp.seqT (λb o q n=>by rw[aN n];exact q) (λb z=>.inl ⟨xs,by rw[z];exact h2⟩) z) (λj I q=>by
   rcases set_some q with⟨_,z,_⟩|⟨_,q⟩
   cases z;exact⟨q,rfl⟩) (λ_ _ _ _ _ _ e=>e) λp W q z=>⟨by rw[aN λw=>z.2.2 i pa ds e (by rw[w];exact ha)];exact q,z.1,z.2.1,λk U I w=>by
   rcases set_some w with⟨rfl,_,_⟩|⟨_,w⟩
   exact z.2.2 i pa ds e;exact z.2.2 k U I w⟩ }
theorem Kp.upd(s:aX H H1)(h:RT a):Kp RT H (upd H1 a (.lst xs)):=λb o e q=>by rw[aN λz=>q (by rw[z];exact h)];exact s b o e
theorem nG(h:iH Z i=some (pa,ds)):Z[i]? = some (.own pa ds):=by unfold iH at h;split at h;rename_i q;cases h;exact q;cases h
theorem wK{v:Vl}{f:List D->Option (List D)}{D:Ends}(h:OE X.K RT Y J H (put Z i v f) D):∃pa ds ds',Z[i]? = some (.own pa ds)/\i∉v.al/\f ds=some ds'/\ds'.length<=lim/\iA X.K RT Y J H ((freeze Z v.al).set i (.own (pa||v.pa) ds')) D.nx:=by unfold put at h;split at h;rename_i pa ds q;have q:=fN (nG q);split at h;rename_i ds' I;split at h;rename_i B;exact⟨pa,ds,ds',q.1,q.2,I,B,h⟩;exact h.elim;exact h.elim;exact h.elim
theorem pX(h:exB Y J (pa||pb) b):exB Y J pa b:=h.imp_right λz=>⟨by grind,z.2⟩
theorem aCd(h:exB Y J (pa||pb) b):exB Y J pb b:=h.imp_right λz=>⟨by grind,z.2⟩
theorem kY(h:jL Γ i m c=some xs):∃x p ap B,c=.Call (.Attribute (.Name x p) m ap) xs [] B/\dB Γ i x=true/\(ap.endLine==B.line)=true:=by unfold jL at h;split at h;rename_i x p a ap W B;split at h;rename_i q;obtain⟨I,L,U⟩:=gF q;cases h;have e:=eq_of_beq I;subst e;exact⟨x,p,ap,B,rfl,L,U⟩;cases h;cases h
theorem fF(M:Mc X P Γ n)(B:dB Γ i x=true):PE X (.Name x p) (aJK i):=by unfold dB at B;obtain⟨h1,h2,q⟩:=gF B;exact vL (by rw[M.N];exact eq_of_beq h1) (M.vis h2) (cE q) (kO q)
theorem rW:lim<sizeLine:=by rw[Cb];decide
theorem nH{i:Nat}{al:List Nat}{pa:Bool}{ds:List D}{ZV:L2.St}{H H1:Hp}{b:Addr}{xs:List V}(S:Sx X.K RT Y J Z ZV H)(s1:aX H H1)(L:Z[i]? = some (.own pa ds))(h1:ZV[i]? = some (some (.ref b)))(h2:H b=some (.lst xs)) :
 Reps X.K H1 (λc=>rtF RT Z ZV al c\/exB Y J pa c) ds xs:=by obtain⟨b',U,q,B,W,g4,I⟩:=S.own i pa ds L;rw[h1] at q;cases q;rw[h2] at B;cases B;exact(I.grow s1).weak λc z=>z.elim (λz=>.inl z.1) .inr
theorem nJ{i:Nat}{v:Vl}{pa:Bool}{ds ds':List D}{ZV:L2.St}{H H1:Hp}{b:Addr}{B:List V}{Q:L2.St->Hp->Prop}(S:Sx X.K RT Y J Z ZV H)(s1:aX H H1)(t1:Tk X.K H1)(L:Z[i]? = some (.own pa ds))(q2:i∉v.al)(h1:ZV[i]? = some (some (.ref b)))
 (r:Reps X.K H1 (λc=>rtF RT Z ZV v.al c\/exB Y J (pa||v.pa) c) ds' B) (q:iA X.K RT Y J H ((freeze Z v.al).set i (.own (pa||v.pa) ds')) Q):Q ZV (upd H1 b (.lst B)):=by
 obtain⟨b',xs,I,g2,W,g4,g5⟩:=S.own i pa ds L;rw[h1] at I;cases I;have U:(freeze Z v.al)[i]? = some (.own pa ds):=by rw[fM,L];simp[q2]
 exact q _ ZV _ (Kp.upd s1 W) (λc z=>.inl z.1) (((S.grow s1 t1).frz v.al).mut U h1 r)
theorem aAY{v:Vl}(h:Rv X.K RT Y J Z ZV H1 v u):Rep X.K H1 (λc=>rtF RT Z ZV v.al c\/exB Y J (pa||v.pa) c) v.d u:=Rep.weak h λc z=>z.imp id aCd
theorem aOr{i:Nat}{c:E}{e a:A7}(M:Mc X P Γ n)(hc:jL Γ i "append" e=some [a])(ha:PE X a (WE X P n RT Y J Z c))(I:bE a=true):PS X (.Expr e pos) (wS X RT Y J Z (ex P (call P n) Z (.app i c))):=by
 obtain⟨x,p,ap,cp,rfl,hx,hl⟩:=kY hc;refine cO (iP (qU Bs Cz C0 kJ (fF M hx) (fC ha gN (aC I)) rfl (by rw[aC I];rfl) hl (aC I) rfl)) λD ZV H t ⟨S,h⟩=>?_;have h:=OE.from (show OE X.K RT Y J H (O.from Z (ev P (call P n) Z c) λv=>put Z i v λds=>some (ds++[v.d])) D from h)
 obtain⟨v,W,h⟩:=h.eq;obtain⟨pa,ds,ds',L,q2,q3,q4,q⟩:=wK h;cases q3;obtain⟨b,xs,h1,h2,h3,h4,h5⟩:=S.own i pa ds L;refine⟨.ref b,h1,.inl ⟨rfl,xs,SqL.of h2⟩,S,?_⟩;rw[W];intro u H1 t1 B;have U:=h5.length;refine⟨b,xs,u,rfl,rfl,B.1 _ _ h2,?_,λ_=>?_⟩;rw[lA,BK] at q4;have:=rW;omega;exact nJ S B.1 t1 L q2 h1 (((nH S B.1 L h1 h2).weak λc z=>z.imp id pX).append (.cons (aAY (B.rv S)) .nil)) q
theorem aOs{i:Nat}{c:E}{e a:A7}(M:Mc X P Γ n)(hc:jL Γ i "extend" e=some [a])(ha:PE X a (WE X P n RT Y J Z c))(U:bE a=true):PS X (.Expr e pos) (wS X RT Y J Z (ex P (call P n) Z (.ext i c))):=by
 obtain⟨x,p,ap,cp,rfl,hx,hl⟩:=kY hc;refine cO (iP (qU Bs PySem.F.slot_list_extend PySem.F.type_list_extend aCZ (fF M hx) (fC ha gN (aC U)) rfl (by rw[aC U];rfl) hl (aC U) rfl)) λD ZV H t ⟨S,h⟩=>?_;have h:=OE.from (show OE X.K RT Y J H (O.from Z (ev P (call P n) Z c) λv=>(match qY v with|some (v',ds')=>put Z i v' λds=>some (ds++ds')|none=>.bad)) D from h)
 obtain⟨v,ee,h⟩:=h.eq;unfold qY at h;cases I:v.fr with
 | false=>rw[I] at h;exact h.elim|true=>
  rw[I] at h;cases hd:v.d with
  | lst es=>rw[hd] at h;obtain⟨pa,ds,ds',W,q2,q3,q4,q⟩:=wK h;cases q3;obtain⟨b,xs,h1,h2,h3,h4,h5⟩:=S.own i pa ds W;refine⟨.ref b,h1,.inl ⟨rfl,xs,SqL.of h2⟩,S,?_⟩;rw[ee];intro u H1 t1 B;have hr:=B.2;rw[if_pos I] at hr;obtain⟨a',ys,q5,e1,e2,e3,e4,r⟩:=hr;rw[hd] at e2;cases e2;subst e1;have q0:=h5.length;have L:=r.length;refine⟨b,a',xs,ys,rfl,rfl,B.1 _ _ h2,e4,?_,λ_=>?_⟩;rw[lA] at q4;have:=rW;omega;exact nJ S B.1 t1 W q2 h1 (((nH S B.1 W h1 h2).weak λc z=>z.imp id pX).append ((gE (r.weak λb z=>.inr z)).weak λc z=>z.imp id aCd)) q|_=>rw[hd] at h;exact h.elim
theorem aIb{i:Nat}{W c:E}{x:Str}{p p2:Dy}{ix v:A7}(M:Mc X P Γ n)(hx:dB Γ i x=true)(hk:PE X ix (WE X P n RT Y J Z W))(he:PE X v (WE X P n RT Y J Z c))(q0:bE ix=true):PS X (.Assign [.Subscript (.Name x p) ix p2] v pos) (wS X RT Y J Z (ex P (call P n) Z (.setIx i W c))):=by
 refine cO (vN he (aEs (fF M hx) hk aEJ (by intro _;cases ix <;> first|rfl|cases q0)) (by cases v <;> rfl) (by cases v <;> rfl)) λD ZV H t ⟨S,h⟩=>?_;have h:=OE.from (show OE X.K RT Y J H (O.from Z (ev P (call P n) Z c) λv=>O.from Z (ev P (call P n) Z W) λkv=>(match kv.d with
  | .int k=>put Z i v λds=>(match ixN ds.length k with|some j=>some (ds.set j v.d)|none=>none)
  | _=>.bad)) D from h)
 refine wE.one S h λv u H1 B t1 S1 U=>?_;obtain⟨kv,ek,B⟩:=(OE.from B).eq;cases hd:kv.d with
 | int k=>
  rw[hd] at B;obtain⟨pa,ds,ds',q1,q2,L,q4,q⟩:=wK B;obtain⟨b,xs,h1,h2,h3,h4,h5⟩:=S.own i pa ds q1;cases hj:ixN ds.length k with
  | none=>rw[hj] at L;cases L|some j=>rw[hj] at L;cases L;refine⟨.ref b,h1,S1,?_⟩;rw[ek];intro uk H2 t2 I;refine⟨b,xs,k,j,rfl,(I.rv S1).int hd,I.1 _ _ (U.1 _ _ h2),by rw[<-h5.length,<-oI];exact hj,λ_=>?_⟩;refine nJ S (U.1.trans I.1) t2 q1 q2 h1 (((nH S (U.1.trans I.1) q1 h1 h2).weak λc z=>z.imp id pX).set j (aAY ((U.rv S).grow I.1))) q
 | _=>rw[hd] at B;exact B.elim
theorem zN{k:Option Int}(h:mZ Z i k=.ok (v,Z')):∃pa ds j d,Z[i]? = some (.own pa ds)/\ixN ds.length (k.getD (-1))=some j/\ds[j]? = some d/\v=Vl.sub ⟨.non,false,pa,[]⟩ d/\Z'=Z.set i (.own pa (ds.eraseIdx j)):=by
 unfold mZ at h;cases q:iH Z i with
 | none=>rw[q] at h;cases h|some I=>
  obtain⟨pa,ds⟩:=I;rw[q] at h;cases k with
  | none=>
   have h:(match ixN ds.length (-1) with|some j=>(match ds[j]? with|some d=>R.ok (Vl.sub ⟨.non,false,pa,[]⟩ d,Z.set i (.own pa (ds.eraseIdx j)))|none=>.bad)|none=>.bad)=R.ok (v,Z'):=h;cases B:ixN ds.length (-1) with
   | none=>rw[B] at h;cases h|some j=>
    rw[B] at h;have h:(match ds[j]? with|some d=>R.ok (Vl.sub ⟨.non,false,pa,[]⟩ d,Z.set i (.own pa (ds.eraseIdx j)))|none=>.bad)=R.ok (v,Z'):=h;cases hd:ds[j]? with
    | none=>rw[hd] at h;cases h|some d=>rw[hd] at h;cases h;exact⟨pa,ds,j,d,nG q,B,hd,rfl,rfl⟩
  | some k=>
   have h:(match ixN ds.length k with|some j=>(match ds[j]? with|some d=>R.ok (Vl.sub ⟨.non,false,pa,[]⟩ d,Z.set i (.own pa (ds.eraseIdx j)))|none=>.bad)|none=>.bad)=R.ok (v,Z'):=h;cases B:ixN ds.length k with
   | none=>rw[B] at h;cases h|some j=>
    rw[B] at h;have h:(match ds[j]? with|some d=>R.ok (Vl.sub ⟨.non,false,pa,[]⟩ d,Z.set i (.own pa (ds.eraseIdx j)))|none=>.bad)=R.ok (v,Z'):=h;cases hd:ds[j]? with
    | none=>rw[hd] at h;cases h|some d=>rw[hd] at h;cases h;exact⟨pa,ds,j,d,nG q,B,hd,rfl,rfl⟩
theorem aFG{ds:List D}{ZV:L2.St}{xs:List V}(S:Sx X.K RT Y J Z ZV H)(s1:aX H H1)(t1:Tk X.K H1)(q1:Z[i]? = some (.own pa ds))(h1:ZV[i]? = some (some (.ref b)))(h2:H b=some (.lst xs))(hd:ds[j]? = some d) :
 ∃y,xs[j]? = some y/\Kp RT H (upd H1 b (.lst (xs.eraseIdx j)))/\Sx X.K RT Y J (Z.set i (.own pa (ds.eraseIdx j))) ZV (upd H1 b (.lst (xs.eraseIdx j))) /\
  Rep X.K (upd H1 b (.lst (xs.eraseIdx j))) (λa=>RT a\/exB Y J (Vl.sub ⟨.non,false,pa,[]⟩ d).pa a) (Vl.sub ⟨.non,false,pa,[]⟩ d).d y:=by
 have B:=S.grow s1 t1;obtain⟨b',q0,I,L,g3,g4,U⟩:=B.own i pa ds q1;rw[h1] at I;cases I;rw[s1 _ _ h2] at L;cases L;obtain⟨y,hy,ry⟩:=U.get hd;refine⟨y,hy,Kp.upd s1 g3,B.mut q1 h1 (U.eraseIdx j),?_⟩;have q:Rep X.K (upd H1 b (.lst (xs.eraseIdx j))) (λa=>RT a\/exB Y J pa a) d y:=ry.keep λc o e hl _=>by rw[aN λz=>by subst z;rw[s1 _ _ h2] at e;grind];exact e
 unfold Vl.sub;by_cases W:noL d=true;rw[if_pos W];exact Rep.free d y W q;simp_all
noncomputable def aQy(X:Cx)(P:Pg)(n:Nat)(RT Y J:Addr->Prop)(Z:Sg)(i:Nat)(k:Option E):TE:=λZV H Q=>Sx X.K RT Y J Z ZV H/\RE (yR (k.map λe=>ev P (call P n) Z e)) λk=>RE (mZ Z i k) λr=>∀u H',Kp RT H H'->Sx X.K RT Y J r.2 ZV H'->Rep X.K H' (λa=>RT a\/exB Y J r.1.pa a) r.1.d u->Q u H'
theorem aLt(h:ixN m k=some j):j<m/\FF k m=some j:=by rw[oI] at h;obtain⟨h1,h2,_⟩:=vR h;exact⟨h2,h1⟩
theorem aLu(M:Mc X P Γ n)(hc:jL Γ i "pop" e=some [a])(ha:PE X a (WE X P n RT Y J Z c))(B:bE a=true):PE X e (aQy X P n RT Y J Z i (some c)):=by
 obtain⟨x,p,ap,cp,rfl,hx,hl⟩:=kY hc;refine(qU Bs Fp Fq yI (fF M hx) (fC ha gN (aC B)) rfl (by rw[aC B];rfl) hl (aC B) rfl).imp λZV H Q t ⟨S,h⟩=>?_;have h:=RE.bind' (show RE (ev P (call P n) Z c >>= λv=>(match v.d with|.int k=>R.iff (aO k) (R.ok (some k))|_=>.bad)) _ from h);obtain⟨kv,U,h⟩:=h.eq;cases q:kv.d with
 | int k=>rw[q] at h;obtain⟨hs,h⟩:=h.iff;obtain⟨⟨v,Z'⟩,ep,h⟩:=(show RE (mZ Z i (some k)) _ from h).eq;obtain⟨pa,ds,j,d,L,hj,hd,e1,e2⟩:=zN ep;obtain⟨b,xs,h1,h2,h3,h4,h5⟩:=S.own i pa ds L;refine⟨.ref b,h1,.inl ⟨rfl,xs,SqL.of h2⟩,S,?_⟩;rw[U];intro u H1 t1 I;obtain⟨y,hy,kp,S2,ry⟩:=aFG S I.1 t1 L h1 h2 hd;have hs:=eZ hs;obtain⟨g1,W⟩:=aLt hj;refine⟨b,xs,k,j,y,rfl,by rw[(I.rv S).int q],I.1 _ _ h2,by omega,by omega,by rw[<-h5.length];exact W,hy,λ_=>?_⟩;simp_all|_=>rw[q] at h;exact h.elim
theorem Sx.move{K:Fg}{ZV:L2.St}{H:Hp}(S:Sx K RT Y J Z ZV H){i j:Nat}{pa:Bool}{ds:List D}{a:Addr}(e:Z[j]? = some (.own pa ds))(q3:i≠j)(ha:ZV[j]? = some (some (.ref a))):Sx K RT Y J ((Z.set j .dead).set i (.own pa ds)) (ZV.set i (some (.ref a))) H where
 sh:=λk L d q=>by
  rcases set_some q with⟨_,z,_⟩|⟨B,q⟩
  cases z;rcases set_some q with⟨_,z,_⟩|⟨W,q⟩
  cases z;obtain⟨v,g1,g2⟩:=S.sh k L d q;grind
 own:=λk L I q=>by
  rcases set_some q with⟨rfl,z,U⟩|⟨B,q⟩
  cases z;obtain⟨b,xs,g1,g2,g3⟩:=S.own j pa ds e;rw[ha] at g1;cases g1;rw[Av] at U;exact⟨a,xs,Az (by rw[<-S.len];exact U),g2,g3⟩;rcases set_some q with⟨_,z,_⟩|⟨W,q⟩
  cases z;obtain⟨b,xs,g1,g2⟩:=S.own k L I q;exact⟨b,xs,by rw[Af B];exact g1,g2⟩
 trk:=S.trk
 yo:=S.yo
 tk:=S.tk
 rt:=S.rt
 inj:=λk k' L q4 I q0 b q1 q2 v1 v2=>by
  have get:∀{k:Nat} {L:Bool} {I:List D},((Z.set j .dead).set i (.own pa ds))[k]? = some (.own L I)->(ZV.set i (some (.ref a)))[k]? = some (some (.ref b))->(k=i/\b=a)\/(k≠i/\k≠j/\Z[k]? = some (.own L I)/\ZV[k]? = some (some (.ref b))):=λ{k L I} q v=>by
   rcases set_some q with⟨rfl,z,U⟩|⟨B,q⟩
   rw[Av] at U;rw[Az (by rw[<-S.len];exact U)] at v;cases v;exact .inl ⟨rfl,rfl⟩;rcases set_some q with⟨_,z,_⟩|⟨W,q⟩
   cases z;rw[Af B] at v;exact .inr ⟨Dj B,Dj W,q,v⟩
  rcases get q1 v1 with⟨e1,b1⟩|⟨B,m1,o1,w1⟩
  rcases get q2 v2 with⟨e2,_⟩|⟨W,m2,o2,w2⟩
  rw[e1,e2];subst b1;exact absurd (S.inj k' j _ _ _ _ b o2 e w2 ha) m2;rcases get q2 v2 with⟨e2,b2⟩|⟨W,m2,o2,w2⟩
  subst b2;exact absurd (S.inj k j _ _ _ _ b o1 e w1 ha) m1;exact S.inj k k' _ _ _ _ b o1 o2 w1 w2
 len:=by rw[Av,Av,Av];exact S.len
 dx:=S.dx.imp id (λk I q=>by
  rcases set_some q with⟨_,z,_⟩|⟨B,q⟩
  cases z;rcases set_some q with⟨_,z,_⟩|⟨W,q⟩
  cases z;exact⟨q,Af B⟩) (λ_ _ _ _ _ _ e=>e) (λ_ _ e z _=>⟨e,z⟩) (λ_ _ r=>r) (λk I q=>by
  rcases set_some q with⟨_,z,_⟩|⟨B,q⟩
  cases z;rcases set_some q with⟨_,z,_⟩|⟨W,q⟩
  cases z;exact⟨q,Af B⟩) (λ_ _ _ _ _ _ e=>e) λp xs q z=>⟨q,z.1,z.2.1,λk L I q w=>by
  rcases set_some q with⟨rfl,_,U⟩|⟨B,q⟩
  rw[Av] at U;rw[Az (by rw[<-S.len];exact U)] at w;cases w;exact z.2.2 j pa ds e ha;rcases set_some q with⟨_,v,_⟩|⟨W,q⟩
  cases v;rw[Af B] at w;exact z.2.2 k L I q w⟩
theorem aOt(M:Mc X P Γ n)(L:cD Γ i x=true)(W:dB Γ j y=true):PS X (.Assign [.Name x p] (.Name y p2) pos) (wS X RT Y J Z (ex P (call P n) Z (.mov i j))):=by
 unfold cD at L;obtain⟨h1,h2,h3⟩:=gF L;refine cO (vO M.nd (by rw[M.N];exact eq_of_beq h1) (M.loc h2) (fF M W) rfl (M.st x h2)) λD ZV H t ⟨S,h⟩=>?_;have h:OE X.K RT Y J H (match Z[j]? with
  | some (.own pa ds)=>if i=j then .bad else .next ((Z.set j .dead).set i (.own pa ds))|some (.sh pa d)=>.next (Z.set i (.sh (pa&&!noL d) d))|_=>.bad) D:=h
 cases e:Z[j]? with
 | none=>rw[e] at h;exact h.elim|some sl=>
  rw[e] at h;cases sl with
  | dead=>exact h.elim|dct _=>exact h.elim|own2 _=>exact h.elim|own pa ds=>by_cases q:i=j;have h:OE X.K RT Y J H (if i=j then .bad else .next ((Z.set j .dead).set i (.own pa ds))) D:=h;rw[if_pos q] at h;exact h.elim;have h:OE X.K RT Y J H (if i=j then .bad else .next ((Z.set j .dead).set i (.own pa ds))) D:=h;rw[if_neg q] at h;obtain⟨a,xs,B,I⟩:=S.own j pa ds e;exact⟨.ref a,B,λ_=>(h) RT _ H (Kp.refl RT H) bH (S.move e q B)⟩|sh pa d=>
   obtain⟨v,B,I⟩:=S.sh j pa d e;refine⟨v,B,λ_=>(h) RT _ H (Kp.refl RT H) bH (S.setSh ?_)⟩;cases U:noL d with
   | true=>exact Rep.free d v U I|false=>rw[Et,Dh];exact I
theorem aOu(M:Mc X P Γ n)(hx:tV Γ t tg=true)(hi:PI X tg iter (wI X P n RT Y J Z it))(hb:∀RT Z,PSs X body (wS X RT Y J Z (exs P (call P n) Z b)))(hs:∀x,BU iter X.env x=pure x) :
 PS X (.For tg iter body [] pos) (wS X RT Y J Z (ex P (call P n) Z (.for t it b))):=by
 refine cO (aEu (by rw[M.xe];exact Fh) M.calm hi (aHW M hx) (wH hb) hs) λD0 ZV H t0 ⟨S,h⟩=>?_;have h:=OE.tkE h;revert h;generalize tkE X.K D0=D;intro h
 let f:Sg->Vl->O:=λZ x=>O.from Z (bT Z x t) λZ'=>exs P (call P n) Z' b
 refine⟨S,(OE.from (show OE X.K RT Y J H (O.from Z (walk P (call P n) Z it) λxs=>cK f xs.1 (freeze Z xs.2)) D from h)).mono λxs hx J'' H1 t1 s1 ok=>?_⟩;refine⟨λi m q5 Hc=>m=xs.1.length-i/\i<=xs.1.length/\∃B U,Kp (rtF RT Z ZV xs.2) H1 Hc/\(∀b,B b->rtF RT Z ZV xs.2 b\/H1 b=none)/\Sx X.K B Y J U q5 Hc/\OE X.K B Y J Hc (cK f (xs.1.drop i) U) D,
  ⟨_,rfl,B6 _,rtF RT Z ZV xs.2,freeze Z xs.2,Kp.refl _ _,bH,((S.grow s1 t1).frz xs.2),OE.mono (Kp.same s1) (λb z=>.inl z.1) hx⟩,?_⟩
 rintro i m q5 Hc ⟨hm,hi,B,U,kp,q4,Sc,I⟩;have q6:=ok.ok (rtF RT Z ZV xs.2) (λ_ z=>z) i Hc kp;by_cases q0:i<xs.1.length;refine .inr ⟨q6.1 q0,λZ' H'=>xs.1.length-(i+1)=xs.1.length-(i+1)/\i+1<=xs.1.length/\∃B U,Kp (rtF RT Z ZV xs.2) H1 H'/\(∀b,B b->rtF RT Z ZV xs.2 b\/H1 b=none)/\Sx X.K B Y J U Z' H'/\OE X.K B Y J H' (cK f (xs.1.drop (i+1)) U) D,
  λZ' H' hN=>⟨_,by omega,hN⟩,λx H' hy=>?_⟩
 obtain⟨sm,q8,rv⟩:=q6.2.2 x H' hy xs.1[i] (Ac q0);rw[Bz q0] at I;have rep:Rep X.K H' (λa=>B a\/exB Y J xs.1[i].pa a) xs.1[i].d x:=rv.weak λa z=>by rcases z with z|z;rcases q4 a z with q|q;exact .inl (.inl ⟨q.1,λw=>q.2 (w.mono (ok.sub _ (AF q0)))⟩);exact .inr ⟨q,Sc.tk a (Sc.trk a (.inl z))⟩;exact .inl (.inr z)
 have I:OE X.K B Y J Hc (match f U xs.1[i] with
  | .next Z'=>cK f (xs.1.drop (i+1)) Z'|.cnt Z'=>cK f (xs.1.drop (i+1)) Z'|.brk Z'=>.next Z'|o=>o) D:=I
 cases q3:bT U xs.1[i] t with
 | bad=>rw[show f U xs.1[i]=.bad by show O.from U (bT U xs.1[i] t) _=_;rw[q3];rfl] at I;exact I.elim|ok Z2=>
  rw[show f U xs.1[i]=exs P (call P n) Z2 b by show O.from U (bT U xs.1[i] t) _=_;rw[q3];rfl] at I;refine aFs (Sc.grow sm (q8 Sc.tk)) (ok.nofr _ (AF q0)) rep q3 λq9 S2 _=>⟨B,Z2,S2,?_⟩
  have kS:Kp B Hc H':=Kp.same sm;have q2:∀{Z':Sg} {W:Addr->Prop} {q1:L2.St} {L:Hp},Kp B H' L->(∀b,W b->B b\/H' b=none)->Sx X.K W Y J Z' q1 L->OE X.K B Y J Hc (cK f (xs.1.drop (i+1)) Z') D ->
   (xs.1.length-(i+1)=xs.1.length-(i+1)/\i+1<=xs.1.length/\∃B U,Kp (rtF RT Z ZV xs.2) H1 L/\(∀b,B b->rtF RT Z ZV xs.2 b\/H1 b=none)/\Sx X.K B Y J U q1 L/\OE X.K B Y J L (cK f (xs.1.drop (i+1)) U) D):=λ{Z' W q1 L} k2 s2 S3 h3=>by exact⟨rfl,q0,W,Z',kp.chain q4 (kS.chain bH k2),gK kp q4 (gK kS bH s2),S3,OE.mono (kS.chain bH k2) (gK kS bH s2) h3⟩
  cases q:exs P (call P n) Z2 b with
  | next Z'=>rw[q] at I;exact λW q1 L k2 s2 S3=>q2 k2 s2 S3 I|cnt Z'=>rw[q] at I;exact λW q1 L k2 s2 S3=>q2 k2 s2 S3 I|brk Z'=>rw[q] at I;exact iA.mono kS bH (I)|ret v=>rw[q] at I;exact OE.mono kS bH I|bad=>rw[q] at I;exact I.elim
 have q7:i=xs.1.length:=by omega
 subst q7;rw[EG] at I;exact .inl ⟨q6.2.1 (Ao _),(I) B q5 Hc (Kp.refl _ _) bH Sc⟩
theorem aOv(M:Mc X P Γ n)(hc:∀RT Z,PT X e (WT X P n RT Y J Z c))(hb:∀RT Z,PSs X body (wS X RT Y J Z (exs P (call P n) Z b))):PS X (.While e body [] pos) (wS X RT Y J Z (ex P (call P n) Z (.whl c b))):=by
 refine cO (aEt (by rw[M.xe];exact Fh) (tc:=λZV H Q=>∃RT Z,WT X P n RT Y J Z c ZV H Q) (λG s ZV H Q I ⟨RT,Z,hw⟩=>hc RT Z G s ZV H Q I hw) (wH hb)) λD0 ZV H t0 ⟨S,h⟩=>?_;have h:=OE.tkE h;revert h;generalize tkE X.K D0=D;intro h;refine⟨λm q0 Hc=>∃B L,Sx X.K B Y J L q0 Hc/\OE X.K B Y J Hc (jK (λZ=>tst P (call P n) Z c) (λZ=>exs P (call P n) Z b) m L) D,⟨aBP,RT,Z,S,h⟩,?_⟩;rintro m q0 Hc ⟨B,L,Sc,ho⟩;cases m with
 | zero=>exact ho.elim|succ m=>
  have ho:=OE.from (show OE X.K B Y J Hc (O.from L (tst P (call P n) L c) λk=>if k=true then (match exs P (call P n) L b with
   | .next Z'=>jK (λZ=>tst P (call P n) Z c) (λZ=>exs P (call P n) Z b) m Z'|.cnt Z'=>jK (λZ=>tst P (call P n) Z c) (λZ=>exs P (call P n) Z b) m Z'|.brk Z'=>.next Z'|o=>o) else .next L) D from ho)
  refine⟨B,L,Sc,ho.mono λk U H1 t1 s1=>?_⟩;have kS:Kp B Hc H1:=Kp.same s1;cases k with
  | false=>rw[if_neg bN] at U;exact aKq ((U) B q0 H1 kS bH (Sc.grow s1 t1))|true=>
   rw[if_pos rfl] at U;refine aNr ⟨λq1 H'=>∃B L,Sx X.K B Y J L q1 H'/\OE X.K B Y J H' (jK (λZ=>tst P (call P n) Z c) (λZ=>exs P (call P n) Z b) m L) D,λZ' H' hN=>⟨m,C6 m,hN⟩,B,L,(Sc.grow s1 t1),?_⟩;cases q:exs P (call P n) L b with
   | next Z'=>rw[q] at U;exact λW q1 q2 k2 s2 S3=>⟨W,Z',S3,OE.mono (kS.chain bH k2) (gK kS bH s2) U⟩
   | cnt Z'=>rw[q] at U;exact λW q1 q2 k2 s2 S3=>⟨W,Z',S3,OE.mono (kS.chain bH k2) (gK kS bH s2) U⟩
   | brk Z'=>rw[q] at U;exact iA.mono kS bH (U)|ret v=>rw[q] at U;exact OE.mono kS bH U|bad=>rw[q] at U;exact U.elim
end
section
variable {X:Cx} {P:Pg} {Γ:Ct} {n:Nat} {RT Y J:Addr->Prop} {Z:Sg} {pos:Dy} {l:Nat} {K:Fg} {H:Hp} {ZV:L2.St}
theorem Sx.putDct(S:Sx K RT Y J Z ZV H)(hn:H p=none){B:List NE}{q0:List (NK×D)}(t:Tk K (upd H p (eY p B)))(q4:B.map pj=q0.map kV)(q7:∀x∈B,eI K H x.1 x.2.1)(i:Nat):Sx K (λb=>RT b\/b=p) Y J (Z.set i (.dct q0)) (ZV.set i (some (.ref p))) (upd H p (eY p B)):=by
 have s:aX H (upd H p (eY p B)):=aX.new hn;have ha:upd H p (eY p B) p=some (eY p B):=bY;have hk:=t p (by rw[ha];simp);have w:∀{pa:Bool} b,(RT b\/b=p)\/exB Y J pa b->b=p\/RT b\/exB Y J pa b:=λ{pa} b z=>by grind
 exact {
  sh:=λj pa d e=>by
   rcases set_some e with⟨_,z,_⟩|⟨I,e⟩
   cases z;obtain⟨v,h1,h2⟩:=S.sh j pa d e;exact⟨v,by rw[Af I];exact h1,((h2.out hn hk).grow s).weak w⟩
  own:=λj pa ds e=>by
   rcases set_some e with⟨_,z,_⟩|⟨I,e⟩
   cases z;obtain⟨b,ys,h1,h2,h3,h4,h5⟩:=S.own j pa ds e;exact⟨b,ys,by rw[Af I];exact h1,s _ _ h2,.inl h3,h4,((h5.out hn hk).grow s).weak w⟩
  trk:=λb z q=>by rcases z with(z|z)|z;exact S.trk b (.inl z) (s.free q);rw[z,ha] at q;cases q;exact S.trk b (.inr z) (s.free q)
  yo:=S.yo
  tk:=t
  rt:=λb z=>by rcases z with z|z;exact(S.rt b z).grow s;rw[z];exact .inr ⟨B,ha⟩
  inj:=λj j' pa' q1 ds ds' a L U e3 W=>by
   rcases set_some L with⟨_,e,_⟩|⟨n1,L⟩
   cases e;rcases set_some U with⟨_,e,_⟩|⟨n2,U⟩
   cases e;rw[Af n1] at e3;rw[Af n2] at W;exact S.inj j j' pa' q1 ds ds' a L U e3 W
  len:=by rw[Av,Av];exact S.len
  dx:={
   at':=λj ds e=>by
    rcases set_some e with⟨rfl,z,hl⟩|⟨I,e⟩
    cases z;exact⟨p,B,Az (by rw[<-S.len];exact hl),ha,.inr rfl,λz=>S.trk p (.inr (.inr z)) hn,q4,λx hx=>eI.imp (λ_ _ r=>aX.seqT s r) (q7 x hx)⟩;obtain⟨a,xs,h1,h2,h3,h4,h5,h6⟩:=S.dx.at' j ds e;exact⟨a,xs,by rw[Af I];exact h1,s _ _ h2,.inl h3,h4,h5,λx hx=>eI.imp (λ_ _ r=>aX.seqT s r) (h6 x hx)⟩
   inj:=λj j' ds ds' a L U e3 W=>by
    have fr:∀{j:Nat} {ds:List (NK×D)},Z[j]? = some (.dct ds)->ZV[j]? = some (some (.ref p))->False:=λ{j ds} e q=>by obtain⟨a',q8,h1,h2,_⟩:=S.dx.at' j ds e;rw[q] at h1;grind
    rcases set_some L with⟨rfl,e,hl⟩|⟨n1,L⟩
    grind;rw[Af n1] at e3;rcases set_some U with⟨rfl,e,hl⟩|⟨n2,U⟩
    rw[Az (by rw[<-S.len];exact hl)] at W;grind;rw[Af n2] at W;exact S.dx.inj j j' ds ds' a L U e3 W
   at2:=λj dss e=>by
    rcases set_some e with⟨_,z,_⟩|⟨I,e⟩
    cases z;obtain⟨a,bs,h1,q2,q6,q5,hw⟩:=S.dx.at2 j dss e;refine⟨a,bs,by rw[Af I];exact h1,s _ _ q2,λb hb=>?_,q5,hw.imp (λ_ _ r=>aX.seqT s r) λ_ _ _ e=>s _ _ e⟩;obtain⟨z1,z2,z3⟩:=q6 b hb;exact⟨.inl z1,z2,λk pa dd w=>by
     rcases set_some w with⟨_,v,_⟩|⟨q3,w⟩
     cases v;rw[Af q3];exact z3 k pa dd w⟩
   one:=λj j' ds ds' L U=>by
    rcases set_some L with⟨_,z,_⟩|⟨_,L⟩
    cases z;rcases set_some U with⟨_,z,_⟩|⟨_,U⟩
    cases z;exact S.dx.one j j' ds ds' L U } }
theorem aLv(M:Mc X P Γ n)(B:cD Γ i x=true):PS X (.Assign [.Name x p] (.Dict [] [] p2) pos) (wS X RT Y J Z (ex P (call P n) Z (.dnew i))):=by unfold cD at B;obtain⟨h1,h2,L⟩:=gF B;refine cO (vO (i:=i) M.nd (by rw[M.N];exact eq_of_beq h1) (M.loc h2) aEM rfl (M.st x h2)) λD ZV H t ⟨S,h⟩=>?_;exact λq I t'=>(show iA X.K RT Y J H (Z.set i (.dct [])) D.nx from h) (λb=>RT b\/b=q) _ _ (Kp.same (aX.new I)) (λb z=>z.imp id λz=>by rw[z];exact I) (S.putDct I t' rfl (λx B=>by cases B) i)
theorem Sx.mutD(S:Sx K RT Y J Z ZV H){q6 L:List (NK×D)}{xs B:List NE}(e:Z[i]? = some (.dct q6))(ha:ZV[i]? = some (some (.ref a)))(q3:H a=some (eY a xs))(q0:RT a)(q8:¬ J a)(r1:B.map pj=L.map kV)(r:∀x∈B,eI K H x.1 x.2.1) :
 Sx K RT Y J (Z.set i (.dct L)) ZV (upd H a (eY a B)):=by
 have kp:Kp (λb=>b=a) H (upd H a (eY a B)):=λb o q n=>by rw[aN n];exact q
 have hR:∀b,b=a->RtO H b:=λb z=>.inr ⟨xs,by rw[z];exact q3⟩;have hl:∀{b:Addr} {ys:List V},H b=some (.lst ys)->b≠a:=λ{b ys} q z=>by rw[z,q3] at q;cases q
 exact {
  sh:=λj pb d q=>by
   rcases set_some q with⟨_,z,_⟩|⟨_,q⟩
   cases z;obtain⟨v,g1,g2⟩:=S.sh j pb d q;exact⟨v,g1,g2.kp kp hR λb z=>.inl (by rw[z];exact q0)⟩
  own:=λj pb U q=>by
   rcases set_some q with⟨_,z,_⟩|⟨_,q⟩
   cases z;obtain⟨b,ys,g1,g2,g3,g4,g5⟩:=S.own j pb U q;exact⟨b,ys,g1,kp b _ g2 (hl g2),g3,g4,g5.kp kp hR λb z=>.inl (by rw[z];exact q0)⟩
  trk:=λb z q=>by by_cases I:b=a;rw[I,bY] at q;cases q;rw[aN I] at q;exact S.trk b z q
  yo:=S.yo
  tk:=λb z=>by by_cases I:b=a;rw[I];exact S.tk a (by rw[q3];simp);rw[aN I] at z;exact S.tk b z
  rt:=λb z=>by by_cases I:b=a;rw[I];exact .inr ⟨B,bY⟩;unfold RtO;rw[aN I];exact S.rt b z
  inj:=λj j' pa' q7 ds ds' b W e2 e3 e4=>by
   rcases set_some W with⟨_,e,_⟩|⟨n1,W⟩
   cases e;rcases set_some e2 with⟨_,e,_⟩|⟨n2,e2⟩
   cases e;exact S.inj j j' pa' q7 ds ds' b W e2 e3 e4
  len:=by rw[Av];exact S.len
  dx:={
   at':=λj ds q=>by
    rcases set_some q with⟨rfl,z,_⟩|⟨q5,q⟩
    cases z;exact⟨a,B,ha,bY,q0,q8,r1,λx hx=>eI.imp (λ_ _ z=>kp.seqT hR z) (r x hx)⟩;obtain⟨b,ys,h1,h2,h3,h4,h5,h6⟩:=S.dx.at' j ds q;have I:b≠a:=λz=>by subst z;exact q5 (S.dx.inj i j q6 ds b e q ha h1)
    exact⟨b,ys,h1,kp b _ h2 I,h3,h4,h5,λx hx=>eI.imp (λ_ _ z=>kp.seqT hR z) (h6 x hx)⟩
   inj:=λj j' U w4 b q1 q2=>by
    have get:∀{j:Nat} {U:List (NK×D)},(Z.set i (.dct L))[j]? = some (.dct U)->∃d2,Z[j]? = some (.dct d2):=λ{j U} q=>by grind
    obtain⟨_,z1⟩:=get q1;obtain⟨_,z2⟩:=get q2;exact S.dx.inj j j' _ _ b z1 z2
   at2:=λj dss q=>by
    rcases set_some q with⟨_,z,_⟩|⟨q5,q⟩
    cases z;obtain⟨a',bs,h1,q4,w3,q9,hw⟩:=S.dx.at2 j dss q;refine⟨a',bs,h1,kp _ _ q4 (hl q4),λb I=>?_,q9,hw.imp (λ_ _ z=>kp.seqT hR z) λ_ _ _ e=>kp _ _ e (hl e)⟩;obtain⟨z1,z2,z3⟩:=w3 b I;exact⟨z1,z2,λk pa U w=>by
     rcases set_some w with⟨_,v,_⟩|⟨_,w⟩
     cases v;exact z3 k pa U w⟩
   one:=λj j' ds ds' W e2=>by
    rcases set_some W with⟨_,z,_⟩|⟨_,W⟩
    cases z;rcases set_some e2 with⟨_,z,_⟩|⟨_,e2⟩
    cases z;exact S.dx.one j j' ds ds' W e2 } }
theorem aLw(ks:List (NK×D))(k:NK×D):aHC (ks.map kV) (kV k)=(tS ks k).map kV:=by
 have e:(ks.map kV).map (·.1)=ks.map (·.1):=by rw[As];rfl
 unfold aHC tS;rw[e];show(if k.1∈_ then _ else _)=_;split;rw[As,As];refine Bf λx _=>?_;grind;grind
theorem putN_mem{x:NE}(h:x∈pN xs k b v):(∃y∈xs,y.1=x.1/\y.2.1=x.2.1)\/x=(k,b,v):=by unfold pN at h;grind
theorem aIc{ex:Addr->Prop}(h:tU d=true)(r:Rep K H ex d u):u=dV d:=by cases d <;> first|exact r|cases h
theorem aOw(M:Mc X P Γ n)(B:dB Γ i x=true)(hk:PE X ix (WE X P n RT Y J Z c))(he:PE X v (WE X P n RT Y J Z e))(L:bE ix=true) :
 PS X (.Assign [.Subscript (.Name x p) ix p2] v pos) (wS X RT Y J Z (ex P (call P n) Z (.dpv i c e))):=by
 refine cO (vN he (aEs (fF M B) hk (aKs (by have:=M.units;omega)) (by intro _;cases ix <;> first|rfl|cases L)) (by cases v <;> rfl) (by cases v <;> rfl)) λD ZV H t ⟨S,h⟩=>?_;have h:=OE.from (show OE X.K RT Y J H (O.from Z (ev P (call P n) Z e) λw=>O.from Z (ev P (call P n) Z c) λv=>(match Z[i]?,aAK v.d with
  | some (.dct ks),some k=>if ks.length<lim/\tU w.d=true then .next (Z.set i (.dct (tS ks (k,w.d)))) else .bad|_,_=>.bad)) D from h)
 obtain⟨W,ew,h⟩:=h.eq;obtain⟨kv,ek,h⟩:=(OE.from h).eq;refine⟨S,?_⟩;rw[ew];intro u H1 t1 U;have S1:=S.grow U.1 t1;split at h;rename_i ks k e1 e2;split at h;rename_i hl;obtain⟨ad,xs,g1,g2,g3,g4,g5,g6⟩:=S.dx.at' i ks e1;have hu:u=dV W.d:=aIc hl.2 (U.rv S);subst hu;refine⟨.ref ad,g1,S1,?_⟩;rw[ek];intro uk H2 t2 r2;have s2:=U.1.trans r2.1;have S2:=S.grow s2 t2;obtain⟨b,rfl,hb⟩:=aEZ e2 (r2.rv S1);have I:∀x∈xs,eI X.K H2 x.1 x.2.1:=λx B=>eI.imp (λ_ _ r=>aX.seqT s2 r) (g6 x B);have q0:xs.length=ks.length:=by have:=congrArg GS g5;rwa [lM,lM] at this
 refine⟨ad,b,xs,k,rfl,rfl,s2 _ _ g2,I,hb,by have:=rW;omega,λt3=>?_⟩;refine(show iA X.K RT Y J H (Z.set i (.dct (tS ks (k,W.d)))) D.nx from h) RT _ _ (λb' o q nn=>by rw[aN λz=>nn (by rw[z];exact g3)];exact s2 _ _ q) bH ?_;refine S2.mutD e1 g1 (s2 _ _ g2) g3 g4 (by rw[aEN,g5];exact aLw ks (k,W.d)) λx B=>?_;rcases putN_mem B with z|z;grind;rw[z];exact hb;exact h.elim;exact h.elim
end
section
variable {K:Fg}
theorem aFH{ds:List D}{vs:List V}{Y:Addr->Prop}(U:∀a,Y a->H a≠none)(t:Tk K H)(r:Reps K H Y ds vs):Sx K (λ_=>False) Y (λb=>H b≠none) ((ds.map λd=>Sl.sh true d)++Am m Sl.dead) (vs.map some++Am m none) H:=by
 have len:=r.length;have get:∀{i:Nat} {s:Sl},((ds.map λd=>Sl.sh true d)++Am m Sl.dead)[i]? = some s->s=.dead\/∃d,s=.sh true d/\ds[i]? = some d:=λ{i s} e=>by grind
 exact {
  sh:=λi pa d e=>by
   rcases get e with z|⟨W,z,q⟩
   cases z;cases z;obtain⟨v,L,rv⟩:=r.get q;have hi:i<vs.length:=(Au.mp L).1;refine⟨v,?_,rv.weak λa z=>?_⟩;rw[AI (by simpa using hi),Ay,L];rfl;rcases z with z|z|⟨z,_⟩
   exact z.elim;exact z;cases z
  own:=λi pa ds' e=>by grind
  trk:=λa z=>by grind
  yo:=U
  tk:=t
  rt:=λ_ z=>z.elim
  inj:=λi j pa pa' B I a e=>by grind
  len:=by rw[lA,lA,lM,lM,AK,AK,len]
  dx:={
   at':=λi ds' e=>by grind
   inj:=λi j B I a e=>by grind
   at2:=λi ds' e=>by grind
   one:=λi j B I e=>by
    grind } }
end
section
variable {RT Y J:Addr->Prop} {Z:Sg}
theorem Sx.put2{K:Fg}{ZV:L2.St}{H H':Hp}{N:Addr->Prop}(S:Sx K RT Y J Z ZV H){i:Nat}{dss:List (List D)}{a:Addr}{bs:List Addr}
 (u:∀j U,Z[j]? = some (.own2 U)->j=i) (t:Tk K H') (hN:∀b,N b->H b=none/\∃xs,H' b=some (.lst xs))
 (kp:∀b o,H b=some o->¬ (Pt RT J Z ZV b/\∃xs,o=.lst xs)->H' b=some o) (kr:∀b xs,H b=some (.lst xs)->Pt RT J Z ZV b->∃xs,H' b=some (.lst xs))
 (hb:∀b∈a::bs,N b\/Pt RT J Z ZV b) (nd:(a::bs).Nodup) (ha:H' a=some (.lst (bs.map V.ref))) (hr:Rws K H' dss bs) :
 Sx K (λb=>RT b\/N b) Y J (Z.set i (.own2 dss)) (ZV.set i (some (.ref a))) H':=by
 have np:∀b o,H b=some o->(∀xs,o≠.lst xs)->¬ (Pt RT J Z ZV b/\∃xs,o=.lst xs):=λb o e n z=>by grind
 have kT:∀b ks,SqT K H b ks->SqT K H' b ks:=λb ks q=>by rcases q with(q|⟨o,q⟩)|q;exact .inl (.inl (kp _ _ q (np _ _ q λ_ e=>by cases e)));exact .inl (.inr ⟨o,kp _ _ q (np _ _ q λ_ e=>by cases e)⟩);exact .inr q
 have kL:∀b xs,¬ RT b->SqL K H b xs->¬ N b/\SqL K H' b xs:=λb xs n q=>by
  have np:∀o:HO,¬ (Pt RT J Z ZV b/\∃xs,o=.lst xs):=λo z=>n z.1.1;refine⟨λz=>?_,?_⟩;obtain⟨z1,ys,z2⟩:=hN b z;rcases q with(q|⟨o,q⟩)|⟨o,q3,m,q,_⟩
  rw[z1] at q;cases q;rw[z1] at q;cases q;rw[t b (by rw[z2];simp)] at q;cases q;rcases q with(q|⟨o,q⟩)|q;exact .inl (.inl (kp _ _ q (np _)));exact .inl (.inr ⟨o,kp _ _ q (np _)⟩);exact .inr q
 have kX:∀(pa:Bool) b xs,¬ (RT b\/exB Y J pa b)->SqL K H b xs->¬ ((RT b\/N b)\/exB Y J pa b)/\SqL K H' b xs:=λpa b xs n q=>by grind
 have q0:∀b,H b≠none->H' b≠none:=λb q=>by
  cases e:H b with
  | none=>grind|some o=>grind
 exact {
  sh:=λj pa d e=>by
   rcases set_some e with⟨_,z,_⟩|⟨B,e⟩
   cases z;obtain⟨v,h1,h2⟩:=S.sh j pa d e;exact⟨v,by rw[Af B];exact h1,Rep.imp kT (kX pa) d v h2⟩
  own:=λj pa ds e=>by
   rcases set_some e with⟨_,z,_⟩|⟨B,e⟩
   cases z;obtain⟨b,xs,h1,h2,h3,h4,h5⟩:=S.own j pa ds e;exact⟨b,xs,by rw[Af B];exact h1,kp _ _ h2 λz=>z.1.2.2 j pa ds e h1,.inl h3,h4,Reps.imp kT (kX pa) ds xs h5⟩
  trk:=λb z=>by rcases z with(z|z)|z;exact q0 b (S.trk b (.inl z));grind;exact q0 b (S.trk b (.inr z))
  yo:=S.yo
  tk:=t
  rt:=λb z=>by
   rcases z with z|z;rcases S.rt b z with⟨xs,e⟩|⟨xs,e⟩
   by_cases hp:Pt RT J Z ZV b;exact .inl (kr b xs e hp);exact .inl ⟨xs,kp _ _ e λw=>hp w.1⟩;exact .inr ⟨xs,kp _ _ e λw=>by grind⟩;exact .inl (hN b z).2
  inj:=λj j' pa pa' ds ds' b I L W e4=>by
   rcases set_some I with⟨_,z,_⟩|⟨h1,I⟩
   cases z;rcases set_some L with⟨_,z,_⟩|⟨h2,L⟩
   cases z;rw[Af h1] at W;rw[Af h2] at e4;exact S.inj j j' pa pa' ds ds' b I L W e4
  len:=by rw[Av,Av];exact S.len
  dx:={
   at':=λj ks e=>by
    rcases set_some e with⟨_,z,_⟩|⟨B,e⟩
    cases z;obtain⟨b,xs,h1,h2,h3,h4,h5,h6⟩:=S.dx.at' j ks e;exact⟨b,xs,by rw[Af B];exact h1,kp _ _ h2 (λw=>by grind),.inl h3,h4,h5,λx hx=>eI.imp kT (h6 x hx)⟩
   inj:=λj j' ds ds' b I L W e4=>by
    rcases set_some I with⟨_,z,_⟩|⟨h1,I⟩
    cases z;rcases set_some L with⟨_,z,_⟩|⟨h2,L⟩
    cases z;rw[Af h1] at W;rw[Af h2] at e4;exact S.dx.inj j j' ds ds' b I L W e4
   at2:=λj U e=>by
    rcases set_some e with⟨rfl,z,hl⟩|⟨B,e⟩
    cases z;refine⟨a,bs,Az (by rw[<-S.len];exact hl),ha,λb hm=>?_,nd,hr⟩;have own:∀(p:∀(k:Nat) (pa:Bool) (ds:List D),Z[k]? = some (.own pa ds)->ZV[k]?≠some (some (.ref b))) (k:Nat) (pa:Bool) (ds:List D),(Z.set i (.own2 dss))[k]? = some (.own pa ds)->(ZV.set i (some (.ref a)))[k]?≠some (some (.ref b)):=λp k pa ds e=>by
     rcases set_some e with⟨_,z,_⟩|⟨q2,e⟩
     cases z;rw[Af q2];exact p k pa ds e
    rcases hb b hm with z|z;have z1:=(hN b z).1;refine⟨.inr z,λo=>S.trk b (.inr (.inr o)) z1,own λk pa ds e v=>?_⟩;obtain⟨c,xs,h1,h2,_⟩:=S.own k pa ds e;rw[v] at h1;grind;exact⟨.inl z.1,z.2.1,own z.2.2⟩;exact absurd (u j U e).symm B
   one:=λj j' U q1 I L=>by
    have k:∀j U,(Z.set i (.own2 dss))[j]? = some (.own2 U)->j=i:=λj U e=>by grind
    rw[k j U I,k j' q1 L] } }
end
section
variable {X:Cx} {P:Pg} {Γ:Ct} {n:Nat} {RT Y J:Addr->Prop} {Z:Sg} {pos:Dy}
theorem zO{α:Type}:∀{l:List α} {i j:Nat} {a:α},l.Nodup->l[i]? = some a->l[j]? = some a->i=j
 | [],i,_,_,_,e,_=>by simp at e|x::l,0,0,_,_,_,_=>rfl|x::l,0,j+1,a,n,q,B=>by
  rw[Bg] at n;have q:x=a:=by simpa using q
  exact(n.1 (by rw[q];exact mG (i:=j) (by simpa using B))).elim
 | x::l,i+1,0,a,n,q,B=>by
  rw[Bg] at n;have B:x=a:=by simpa using B
  exact(n.1 (by rw[B];exact mG (i:=i) (by simpa using q))).elim
 | x::l,i+1,j+1,a,n,q,B=>by rw[Bg] at n;exact congrArg (·+1) (zO (i:=i) (j:=j) (a:=a) n.2 (by simpa using q) (by simpa using B))
end
section
variable {K:Fg} {RT Y J:Addr->Prop} {Z:Sg} {ZV ZV':L2.St} {H:Hp}
theorem Sx.reV(S:Sx K RT Y J Z ZV H)(L:ZV'.length=ZV.length)(h:∀(j:Nat) (s:Sl),Z[j]? = some s->s=.dead\/ZV'[j]? = ZV[j]?):Sx K RT Y J Z ZV' H where
 sh:=λj pa d e=>by rw[(h j _ e).resolve_left λz=>by cases z];exact S.sh j pa d e
 own:=λj pa d e=>by rw[(h j _ e).resolve_left λz=>by cases z];exact S.own j pa d e
 trk:=S.trk
 yo:=S.yo
 tk:=S.tk
 rt:=S.rt
 inj:=λi j pa pa' ds ds' a q B=>by rw[(h i _ q).resolve_left (λz=>by cases z),(h j _ B).resolve_left (λz=>by cases z)];exact S.inj i j pa pa' ds ds' a q B
 len:=by rw[L];exact S.len
 dx:=S.dx.imp id (λj ks e=>⟨e,(h j _ e).resolve_left λz=>by cases z⟩) (λ_ _ _ _ _ _ e=>e) (λa xs e z _=>⟨e,z⟩) (λ_ _ r=>r) (λj ks e=>⟨e,(h j _ e).resolve_left λz=>by cases z⟩) (λ_ _ _ _ _ _ e=>e) λp xs e z=>⟨e,z.1,z.2.1,λk pa ds I=>by rw[(h k _ I).resolve_left λz=>by cases z];exact z.2.2 k pa ds I⟩
theorem Sx.hide{Z':Sg}(S:Sx K RT Y J Z ZV H)(e:Z[i]? = some (.own2 dss))(ha:∀b∈a::bs,Pt RT J Z ZV b)(hb:∀b∈a::bs,∃xs,H b=some (.lst xs))(hl:Z'.length=Z.length)
 (h:∀(m:Nat) (s:Sl),Z'[m]? = some s->s=.dead\/(Z[m]? = some s/\m≠i)):Sx K (λc=>RT c/\c∉a::bs) Y J Z' ZV H where
 sh:=λj pa d q=>by obtain⟨v,U,W⟩:=S.sh j pa d ((h j _ q).resolve_left λz=>by cases z).1;exact⟨v,U,W.weak λc z=>z.imp (·.1) id⟩
 own:=λj pa ds q=>by have q:=((h j _ q).resolve_left λz=>by cases z).1;obtain⟨c,xs,U,W,g3,g4,g5⟩:=S.own j pa ds q;exact⟨c,xs,U,W,⟨g3,λz=>(ha c z).2.2 j pa ds q U⟩,g4,g5.weak λc z=>z.imp (·.1) id⟩
 trk:=λc z=>S.trk c (z.imp (·.1) id)
 yo:=S.yo
 tk:=S.tk
 rt:=λc z=>S.rt c z.1
 inj:=λj L pa pa' ds ds' c B I=>S.inj j L pa pa' ds ds' c ((h j _ B).resolve_left λz=>by cases z).1 ((h L _ I).resolve_left λz=>by cases z).1
 len:=by rw[hl];exact S.len
 dx:={
  at':=λj ks q=>by obtain⟨c,xs,U,W,g3,g4⟩:=S.dx.at' j ks ((h j _ q).resolve_left λz=>by cases z).1;grind
  inj:=λj L ks ks' c B I=>S.dx.inj j L ks ks' c ((h j _ B).resolve_left λz=>by cases z).1 ((h L _ I).resolve_left λz=>by cases z).1
  at2:=λj dd q=>by
   obtain⟨B,I⟩:=(h j _ q).resolve_left λz=>by cases z
   exact absurd (S.dx.one j i dd dss B e) I
  one:=λj L dd q0 q q'=>by
   obtain⟨B,I⟩:=(h j _ q).resolve_left λz=>by cases z
   exact absurd (S.dx.one j i dd dss B e) I }
end
theorem pick_step{f:List D->R Bool}{ds gs:List D}{r:List (List D)}(h:eX f (ds::r)=.ok gs):(f ds=.ok false/\eX f r=.ok gs)\/∃d ds' q,f ds=.ok true/\ds=d::ds'/\eX f r=.ok q/\gs=d::q:=by
 have h:(f ds >>= λb=>(match b,ds with|false,_=>eX f r|true,[]=>.bad|true,d::_=>eX f r >>= λes=>R.ok (d::es)))=.ok gs:=h;cases B:f ds with
 | bad=>rw[B] at h;cases h|ok b=>
  rw[B] at h;cases b with
  | false=>exact .inl ⟨rfl,h⟩|true=>
   cases ds with
   | nil=>cases h|cons d ds=>
    cases I:eX f r with
    | bad=>rw[I] at h;cases h|ok es=>rw[I] at h;cases h;grind
section
variable {X:Cx} {P:Pg} {Γ:Ct} {n:Nat} {RT Y J:Addr->Prop} {Z:Sg} {pos:Dy}
theorem refs_inj{bs q:List Addr}{H:Hp}{a:Addr}(h:H a=some (.lst (bs.map V.ref)))(h':H a=some (.lst (q.map V.ref))):bs=q:=by
 rw[h] at h';have:=A9 h';injection this with this
 have:=congrArg (JI λv:V=>match v with|.ref a=>a|_=>0) this;rw[As,As] at this;have f:((λv:V=>match v with|.ref a=>a|_=>0)∘V.ref)=id:=by funext a;rfl
 rw[f,GX,GX] at this;exact this
theorem rX{α:Type}{l:List α}{i:Nat}{x:α}(h:l[i]? = some x):l.set i x=l:=by apply Ez;intro j;by_cases q:i=j;subst q;rw[Az (Au.mp h).1,h];rw[Af q]
theorem aLx(I:aHD Z=true){i:Nat}:∀j q,Z[j]? = some (.own2 q)->j=i:=λj q B=>by have:=AT.mp I _ (mG B);cases this
theorem aLy{i:Nat}{x:Str}{p p2:Dy}(M:Mc X P Γ n)(I:cD Γ i x=true):PS X (.Assign [.Name x p] (.List [] p2) pos) (wS X RT Y J Z (ex P (call P n) Z (.new2 i))):=by unfold cD at I;obtain⟨h1,h2,h3⟩:=gF I;refine cO (vN (aJi (Γ:=Γ) (RT:=RT) (Y:=Y) (J:=J) (Z:=Z) (P:=P) (n:=n) rF rfl (by decide)) (pT M.nd (by rw[M.N];exact eq_of_beq h1) (M.loc h2) (M.st x h2))) λD ZV H t ⟨S,h⟩=>?_;have h:OE X.K RT Y J H (if aHD Z then .next (Z.set i (.own2 [])) else .bad) D:=h;split at h;rename_i hn;refine⟨S,?_⟩;show RE (R.ok (Vl.mk (.lst []) true false [])) _;intro u H1 t1 q;have L:=q.2;rw[if_pos rfl] at L;obtain⟨a,xs,ds,rfl,U,W,e3,e4⟩:=L;cases U;cases(e4);intro t';exact(h) _ _ _ (Kp.same q.1) (λd z=>z.imp id λz=>by rw[z];exact W) (S.put2 (aLx hn) t1 (λd z=>by rw[z];grind) (λd o B _=>q.1 _ _ B) (λd ys B _=>⟨ys,q.1 _ _ B⟩) (λd hd=>.inl (AE.mp hd)) (by simp) e3 rfl);exact h.elim
theorem aLz(M:Mc X P Γ n)(hc:jL Γ i "append" e=some [a])(ha:PE X a (WE X P n RT Y J Z c))(hp:bE a=true):PS X (.Expr e pos) (wS X RT Y J Z (ex P (call P n) Z (.app2 i c))):=by
 obtain⟨x,p,ap,cp,rfl,hx,hl⟩:=kY hc;refine cO (iP (qU Bs Cz C0 kJ (fF M hx) (fC ha gN (aC hp)) rfl (by rw[aC hp];rfl) hl (aC hp) rfl)) λD ZV H t ⟨S,h⟩=>?_;have h:=OE.from (show OE X.K RT Y J H (O.from Z (ev P (call P n) Z c) λv=>(match Z[i]?,v.fr,v.d with
  | some (.own2 dss),true,.lst ds=>if noLs ds=true/\dss.length<1000 then .next (Z.set i (.own2 (dss++[ds]))) else .bad|_,_,_=>.bad)) D from h)
 obtain⟨v,ee,h⟩:=h.eq;split at h;rename_i dss ds e1 e2 e3;split at h;rename_i hh;obtain⟨hn,q2⟩:=hh;obtain⟨b,bs,g1,W,g3,g4,g5⟩:=S.dx.at2 i dss e1;obtain⟨gl,gr⟩:=g5.get;refine⟨.ref b,g1,.inl ⟨rfl,_,SqL.of W⟩,S,?_⟩;rw[ee];intro u H1 t1 B;have rf:=B.2;rw[if_pos e2] at rf;obtain⟨q,ys,ds',rfl,f1,f2,f3,f4⟩:=rf;rw[e3] at f1;cases f1;have q0:q≠b:=λz=>by rw[z,W] at f2;cases f2
 have q3:q∉bs:=λz=>by obtain⟨zs,w⟩:=g5.at q z;rw[w] at f2;cases f2
 rw[Bg] at g4;refine⟨b,_,.ref q,rfl,rfl,B.1 _ _ W,by rw[lM,<-gl,Cb];omega,λt'=>?_⟩;have es:bs.map V.ref++[.ref q]=(bs++[q]).map V.ref:=by rw[Ax];rfl
 rw[es] at t' ⊢;have q1:∀d ks,SqT X.K H1 d ks->SqT X.K (upd H1 b (.lst ((bs++[q]).map V.ref))) d ks:=λd ks z=>Kp.seqT (λd o q' n'=>by rw[aN n'];exact q') (λd z=>.inl ⟨bs.map V.ref,by rw[z];exact B.1 _ _ W⟩) z;have S':=S.put2 (N:=λd=>d=q) (dss:=dss++[ds]) (λj dd ej=>S.dx.one j i dd dss ej e1) t' (λd z=>by rw[z];exact⟨f2,ys,by rw[aN q0];exact f3⟩)
  (λd o L z=>by
   rw[aN λw=>z ⟨by rw[w];grind,by rw[w,W] at L;grind⟩];exact B.1 _ _ L)
  (λd zs L z=>by
   by_cases w:d=b;rw[w];exact⟨_,bY⟩;rw[aN w];exact⟨zs,B.1 _ _ L⟩)
  (λd hd=>by
   grind)
  (by
   rw[Bg,List.nodup_append];grind) bY (Rws.of (by rw[lA,lA,gl];rfl) λm es cc U I=>by
   by_cases w:m<bs.length;rw[AI (by omega)] at U I;obtain⟨zs,k1,k2,k3⟩:=gr m es cc U I;exact⟨zs,by rw[aN (λz=>g4.1 (by rw[<-z];exact mG I))];exact B.1 _ _ k1,k2,Reps.noT q1 _ _ k2 (k3.grow B.1)⟩;rw[AD (by omega)] at U I;have hm:m-bs.length=0:=by grind
   rw[hm] at I;rw[show m-dss.length=0 by omega] at U;cases U;cases I;exact⟨ys,by rw[aN q0];exact f3,hn,Reps.free _ _ hn (Reps.noT q1 _ _ hn f4)⟩)
 refine(h) (λd=>RT d\/d=q) _ _ (λd o L nn=>?_) (λd z=>z.imp id λz=>by rw[z];exact f2) ?_;rw[aN λw=>nn (by rw[w];exact(g3 b Ar).1)];exact B.1 _ _ L;rw[rX g1] at S';exact S';exact h.elim;exact h.elim
theorem aLA{i:Nat}{ck:E}{x:Str}{p p1 ap cp q0:Dy}{k0:Nat}{ix:A7}(M:Mc X P Γ n)(hx:dB Γ i x=true)(hk:PE X ix (WE X P n RT Y J Z ck))(q3:bE ix=true)(hl:(ap.endLine==cp.line)=true) :
 PS X (.Expr (.Call (.Attribute (.Subscript (.Name x p) ix p1) "pop" ap) [.Constant (.int 0) k0 q0] [] cp) pos) (wS X RT Y J Z (ex P (call P n) Z (.pop2 i ck))):=by
 refine cO (iP (qU Bs Fp Fq yI (aBJ aBK (fF M hx) hk (iT q3)) (fC aAB gN (aC rfl)) rfl (by rw[aC rfl];rfl) hl (aC rfl) rfl)) λD ZV H t ⟨S,h⟩=>?_;have h:=OE.from (show OE X.K RT Y J H (O.from Z (ev P (call P n) Z ck) λkv=>(match Z[i]?,kv.d with
  | some (.own2 dss),.int k=>(match ixN dss.length k with
   | some q=>(match dss.getD q [] with
    | _::ds=>.next (Z.set i (.own2 (dss.set q ds)))|[]=>.bad)
   | none=>.bad)
  | _,_=>.bad)) D from h)
 obtain⟨kv,ek,h⟩:=h.eq;split at h;rename_i dss k e1 e2;split at h;rename_i q hq;split at h;rename_i d0 ds hr;obtain⟨ad,bs,b,xs,g1,g2,g3,g4,L,g6,g7⟩:=aLd S e1 hq;obtain⟨a',q5,I,q2,g8,g9,q1⟩:=S.dx.at2 i dss e1;rw[g1] at I;cases I;cases refs_inj g2 q2;obtain⟨gl,gr⟩:=q1.get;rw[Bg] at g9;rw[hr] at g6 g7;obtain⟨y,W,rfl,ry,q4⟩:=g7;refine⟨.ref ad,g1,S,?_⟩;rw[ek];intro uk H1 t1 r1;have s2:=r1.1;have pb:=g8 b (Al _ (mG g3));simp only[noLs,bA] at g6;refine⟨ad,bs.map V.ref,k,.ref b,rfl,(r1.rv S).int e2,SqL.of (r1.1 _ _ g2),g4,.inl ⟨rfl,_,SqL.of (r1.1 _ _ L)⟩,b,_,0,0,y,rfl,rfl,s2 _ _ L,by decide,by decide,by rw[lC];unfold FF;simp,rfl,λt'=>?_⟩;rw[show(y::W).eraseIdx 0=W from rfl] at t' ⊢;have U:Kp (λd=>d=b) H (upd H1 b (.lst W)):=λd o B n'=>by rw[aN n'];exact s2 _ _ B
 have S':=S.put2 (N:=λ_=>False) (dss:=dss.set q ds) (λj dd ej=>S.dx.one j i dd dss ej e1) t' (λd z=>z.elim)
  (λd o B z=>by
   rw[aN λw=>z ⟨by rw[w];exact pb,by rw[w,L] at B;grind⟩];exact s2 _ _ B)
  (λd zs B z=>by
   by_cases w:d=b;rw[w];exact⟨_,bY⟩;rw[aN w];exact⟨zs,s2 _ _ B⟩)
  (λd hd=>.inr (g8 d hd)) (Bg.mpr g9) (by rw[aN (Dj (λz=>g9.1 (by rw[<-z];exact mG g3)))];exact s2 _ _ g2)
  (Rws.of (by rw[Av];exact gl) λm' es cc e5 e6=>by
   by_cases w:q=m';subst w;rw[Az (aBZ hq)] at e5;cases e5;rw[g3] at e6;cases e6;exact⟨_,bY,g6.2,Reps.noT (λd ks z=>U.seqT (λd z=>.inl ⟨y::W,by rw[z];exact L⟩) z) _ _ g6.2 q4⟩;rw[Af w] at e5;obtain⟨zs,k1,k2,k3⟩:=gr m' es cc e5 e6;exact⟨zs,by rw[aN (λz=>w (zO g9.2 g3 (by rw[<-z];exact e6)))];exact s2 _ _ k1,k2,Reps.noT (λd ks z=>U.seqT (λd z=>.inl ⟨y::W,by rw[z];exact L⟩) z) _ _ k2 k3⟩)
 refine(h) (λd=>RT d\/False) _ _ (λd o B nn=>?_) (λd z=>z.imp id λz=>z.elim) ?_;rw[aN λw=>nn (by rw[w];exact pb.1)];exact s2 _ _ B;rw[rX g1] at S';exact S';exact h.elim;exact h.elim;exact h.elim
theorem aLB{j t i:Nat}{c:E}{z x:Str}{p1 p2 p3 p4:Dy}{ce e a:A7}(M:Mc X P Γ n)(hz:cD Γ t z=true)(hx:dB Γ i x=true)(hc:∀RT Z,PT X ce (WT X P n RT Y J Z c))(hm:jL Γ j "append" e=some [a])
 (ha:∀RT Z,PE X a (WE X P n RT Y J Z (.idx (.v t) (.c (.int 0))))) (q3:bE a=true):PS X (.For (.Name z p1) (.Name x p2) [.If ce [.Expr e p4] [] p3] [] pos) (wS X RT Y J Z (ex P (call P n) Z (.pick j t i c))):=by
 unfold cD at hz;obtain⟨z1,z2,z3⟩:=gF hz;obtain⟨y,p,ap,cp,rfl,hy,hl⟩:=kY hm;refine cO (aEu (by rw[M.xe];exact Fh) M.calm (aHk (fF M hx)) (pT M.nd (by rw[M.N];exact eq_of_beq z1) (M.loc z2) (M.st z z2)) (aBG (aIX (tc:=λZV H Q=>∃RT Z,WT X P n RT Y J Z c ZV H Q) (λG s ZV H Q I ⟨RT,Z,hw⟩=>hc RT Z G s ZV H Q I hw)
  (aBG (iP (qU Bs Cz C0 kJ (fF M hy) (fC (te:=λZV H Q=>∃RT Z,WE X P n RT Y J Z (.idx (.v t) (.c (.int 0))) ZV H Q) (λG s ZV H Q I ⟨RT,Z,hw⟩=>ha RT Z G s ZV H Q I hw) gN (aC q3)) rfl (by rw[aC q3];rfl) hl (aC q3) rfl))) aBF))) λD0 ZV H t0 ⟨S,h⟩=>?_
 have h:=OE.tkE h;revert h;generalize tkE X.K D0=Dn;intro h;have h:OE X.K RT Y J H (match Z[i]?,iH Z j with
  | some (.own2 dss),some (pa,es)=>O.from Z (eX (λds=>tst P (call P n) (vw Z j t i ds) c) dss) λfs=>if t≠i/\t≠j/\t<Z.length/\es.length+fs.length<=lim then .next ((Z.set t .dead).set j (.own pa (es++fs))) else .bad|_,_=>.bad) Dn:=h
 split at h;rename_i dss pa es e1 e2;have e2:=nG e2;obtain⟨fs,ef,h⟩:=(OE.from h).eq;split at h
 . rename_i hh;obtain⟨W,q0,q5,q4⟩:=hh;obtain⟨b,bs,g1,g2,g3,g4,g5⟩:=S.dx.at2 i dss e1;obtain⟨gl,_⟩:=g5.get;obtain⟨bj,xj,k1,k2,k3,k4,k5⟩:=S.own j pa es e2;refine⟨.ref b,g1,b,rfl,⟨_,SqL.of g2⟩,?_⟩
   let L:List D->Sg:=λgs=>(Z.set t .dead).set j (.own pa (es++gs))
   have cj:∀gs,(L gs)[j]? = some (.own pa (es++gs)):=λgs=>Az (by rw[Av];grind);have ci:∀gs,(L gs)[i]? = some (.own2 dss):=λgs=>by rw[Af (Dj (λw=>by rw[w,e2] at e1;cases e1)),Af W];exact e1
   have S0:Sx X.K RT Y J (L []) ZV H:=by
    have:L []=Z.set t .dead:=by show(Z.set t .dead).set j (.own pa (es++[]))=_;rw[Bu];exact rX (by rw[Af q0];exact e2)
    rw[this];exact S.forget (by rw[Av]) λm s hs=>by
     rcases set_some hs with⟨_,q,_⟩|⟨_,q⟩
     exact .inl q.symm;exact .inr q
   refine aEv (λk B H'=>∃gs rs,eX (λds=>tst P (call P n) (vw Z j t i ds) c) (dss.drop k)=.ok rs/\fs=gs++rs/\Sx X.K RT Y J (L gs) B H'/\Kp RT H H'/\Tk X.K H'/\B[i]? = some (some (.ref b))/\B[j]? = some (some (.ref bj))/\H' b=some (.lst (bs.map V.ref)))
    ⟨[],fs,ef,rfl,S0,Kp.refl _ _,t0,g1,k1,g2⟩ (λk B H' _ q=>by obtain⟨_,_,_,_,_,_,_,_,_,q⟩:=q;exact SqL.of q) (λk u B H' eu q=>?_) (λB H' q=>?_)
   obtain⟨gs,rs,q1,q2,Sc,kp,tk,v1,v2,v3⟩:=q;have hk:k<bs.length:=by simpa using (Au.mp eu).1
   have eu:u=.ref bs[k]:=by rw[Ay,Ac hk] at eu;grind
   subst eu;rw[Bz (by omega)] at q1;obtain⟨b2,q9,w1,w2,w3,w4,w5⟩:=Sc.dx.at2 i dss (ci gs);rw[v1] at w1;cases w1;cases refs_inj v3 w2;obtain⟨_,wr⟩:=w5.get;obtain⟨xs,y1,y2,y3⟩:=wr k dss[k] bs[k] (Ac (by omega)) (Ac hk);have mem:bs[k]∈b::bs:=Al _ (AF hk);have Sv:Sx X.K RT Y J (L gs) (B.set t (some (.ref bs[k]))) H':=Sc.reV (by rw[Av]) λm s hs=>by grind
   have at2:∀d∈b::bs,Pt RT J (L gs) (B.set t (some (.ref bs[k]))) d:=by obtain⟨b3,w6,u1,u2,u3,_,_⟩:=Sv.dx.at2 i dss (ci gs);rw[Af W,v1] at u1;cases u1;cases refs_inj v3 u2;exact u3
   have Sh:=(Sv.hide (Z':=((Z.set i .dead).set j .dead).set t .dead) (ci gs) at2 (λd hd=>by
    rcases A4.mp hd with w|w;rw[w];grind;exact w5.at d w) (by simp[L]) λm s hs=>by
    grind).setSh (i:=t) (pa:=false) (d:=.lst dss[k]) ⟨bs[k],xs,rfl,SqL.of y1,λw=>by
     rcases w with w|w|w;exact w.2 mem;exact(at2 _ mem).2.1 (S.yo _ w);exact(at2 _ mem).2.1 w.2,Reps.free _ _ y2 y3⟩
   rw[show((B.set t (some (V.ref bs[k]))).set t (some (V.ref bs[k])))=B.set t (some (V.ref bs[k])) by rw[IL]] at Sh;refine⟨_,vw Z j t i dss[k],Sh,?_⟩;rcases pick_step q1 with⟨f1,f2⟩|⟨d,ds',q8,f1,f2,f3,rfl⟩
   rw[f1];intro H3 t3 U;rw[if_neg bN];exact⟨gs,rs,f2,q2,Sv.grow U t3,kp.trans (Kp.same U),t3,by rw[Af W];exact v1,by rw[Af q0];exact v2,U _ _ v3⟩;rw[f1];intro H3 t3 U;rw[if_pos rfl];obtain⟨b4,x4,m1,m2,m3,m4,m5⟩:=(Sv.grow U t3).own j pa _ (cj gs);have q6:=m1;rw[Af q0,v2] at q6;cases q6;refine⟨.ref bj,m1,.inl ⟨rfl,x4,SqL.of m2⟩,_,vw Z j t i dss[k],Sh.grow U t3,?_⟩;have nd:noL d=true:=by rw[f2] at y2;simp only[noLs,bA] at y2;exact y2.1
   have q7:ev P (call P n) (vw Z j t i dss[k]) (.idx (.v t) (.c (.int 0)))=.ok (.cl d):=by
    have hv:ev P (call P n) (vw Z j t i dss[k]) (.v t)=.ok ⟨.lst dss[k],false,false&&!noL (.lst dss[k]),[]⟩:=by show dI _ _=_;unfold dI vw;rw[Az (by simpa using q5)];rfl
    show(ev P (call P n) (vw Z j t i dss[k]) (.v t) >>= λx=>ev P (call P n) (vw Z j t i dss[k]) (.c (.int 0)) >>= λy=>eK x y)=_;rw[hv];rw[f2];show(match ixN (d::ds').length 0 with|some j=>(match (d::ds')[j]? with|some d'=>R.ok (Vl.sub ⟨.lst (d::ds'),false,false&&!noL (.lst (d::ds')),[]⟩ d')|none=>.bad)|none=>.bad)=_;rw[show ixN (d::ds').length 0=some 0 by unfold ixN;rw[if_pos (by omega),if_pos (by simp)];rfl];show R.ok (Vl.sub ⟨.lst (d::ds'),false,false&&!noL (.lst (d::ds')),[]⟩ d)=_;unfold Vl.sub;rw[if_pos nd]
   rw[q7];intro u H4 t4 r4;have w8:=m5.length;have w7:(es++gs).length+1<=lim:=by rw[q2,lA,lC] at q4;rw[lA];omega
   refine⟨bj,x4,u,rfl,rfl,r4.1 _ _ m2,by have:=rW;omega,?_⟩;have S4:=((Sv.grow U t3).grow r4.1 t4).mut (cj gs) m1 (ds':=es++gs++[d]) ((m5.grow r4.1).append ⟨u,[],rfl,Rep.free d u nd ((r4.rv (Sh.grow U t3))),rfl⟩);refine⟨gs++[d],q8,f3,by rw[q2,Ba];rfl,?_,kp.trans ((Kp.same U).trans (Kp.upd r4.1 m3)),S4.tk,by rw[Af W];exact v1,by rw[Af q0];exact v2,?_⟩;have:(L gs).set j (.own pa (es++gs++[d]))=L (gs++[d]):=by rw[IL,Ba]
   rw[<-this];exact S4;rw[aN λw=>?_];exact r4.1 _ _ (U _ _ v3);exact(at2 b Ar).2.2 j pa _ (cj gs) (by rw[w];exact m1);obtain⟨gs,rs,q1,q2,Sc,kp,tk,v1,v2,v3⟩:=q;rw[lM,<-gl,EG] at q1;cases q1;rw[Bu] at q2;subst q2;exact(h) RT B H' kp bH Sc
 exact h.elim;exact h.elim
theorem aFI(M:Mc X P Γ n){i j k:Nat}{c:E}{e a b:A7}{kc:Const}{kk:Nat}{q p2:Dy}(hc:jL Γ i "append" e=some [.Subscript a (.Constant kc kk q) p2])(hk:eqC (.int k) kc=true)(hj:jL Γ j "pop" a=some [b])(hb:PE X b (WE X P n RT Y J Z c))(hp:bE b=true)(q0:i≠j):PS X (.Expr e pos) (wS X RT Y J Z (ex P (call P n) Z (.appPop i j c k))):=by
 obtain⟨x,p',ap,cp,rfl,hx,hl⟩:=kY hc;have q5:kc=.int k:=by cases kc <;> simp_all [eqC]
 subst q5;refine cO (iP (qU Bs Cz C0 kJ (fF M hx) (fC (aBJ aEI (aLu (RT:=RT) M hj hb hp) aAB (iT rfl)) gN (aC rfl)) rfl (by rw[aC rfl];rfl) hl (aC rfl) rfl)) λD ZV H t ⟨S,h⟩=>?_;have h:=OE.from (show OE X.K RT Y J H (O.from Z (yR ((some c).map λe=>ev P (call P n) Z e)) λm=>O.from Z (mZ Z j m) λ(v,Z')=>O.from Z' (aBQ v k) λw=>put Z' i w λds=>some (ds++[w.d])) D from h)
 obtain⟨m,ek,h⟩:=h.eq;obtain⟨⟨v,Z'⟩,ep,h⟩:=(OE.from h).eq;obtain⟨w4,q9,mj,d,q1,hm,hd,e1,e2⟩:=zN ep;have h:=h;unfold aBQ at h;cases hv:v.d with
 | tup L=>
  simp only[hv] at h;cases hk:L[k]? with
  | none=>simp only[hk] at h;exact h.elim|some d0=>
   simp only[hk] at h;have h:OE X.K RT Y J H (put Z' i (v.sub d0) λds=>some (ds++[(v.sub d0).d])) D:=h;obtain⟨pa,ds,ds',B,q2,q3,q4,I⟩:=wK h;cases q3;obtain⟨b',xs,W,g2,g3,g4,g5⟩:=S.own i pa ds (by rw[e2,Af (Dj q0)] at B;exact B);refine⟨.ref b',W,.inl ⟨rfl,xs,SqL.of g2⟩,S,?_⟩;rw[ek];show RE (mZ Z j m) _;rw[ep];intro u H1 kp U ru;rw[hv] at ru;obtain⟨a',ys,rfl,hT,rr⟩:=ru;obtain⟨y,hy,ry⟩:=rr.get hk;obtain⟨b2,q7,k1,k2,k3,k4,k5⟩:=U.own i pa ds B;rw[W] at k1;cases k1;have q8:=k5.length;have q6:v.al=[]:=by rw[e1];unfold Vl.sub;split <;> rfl
   have w3:=(Au.mp hy).1;refine .inr (.inl ⟨a',ys,k,y,rfl,rfl,hT,?_,b',q7,y,rfl,rfl,k2,?_,λ_=>?_⟩);unfold atI L2.ixN;rw[if_pos (by omega),if_pos (by omega)];simpa using hy;rw[lA,BK] at q4;have:=rW;omega;exact nJ U (aX.refl H1) U.tk B q2 W (((nH U (aX.refl H1) B W k2).weak λc z=>z.imp id pX).append (.cons (aAY (Rv.sub (ds:=L) (xs:=ys) (j:=k) (ry.weak λc z=>by rw[q6] at z;exact z.imp (·.1) id))) .nil)) (I.mono kp bH)
 | _=>simp only[hv] at h;exact h.elim
end
section
variable {P:Pg} {n:Nat} {Y J:Addr->Prop}
theorem aFJ(h:tV Γ (.t is) tg=true):∃es k p,tg=.Tuple es k p:=by
 cases tg with
 | Tuple es k p=>grind|_=>cases h
theorem aDC(h:tV Γ (.n i) tg=true):∃x p,tg=.Name x p/\cD Γ i x=true:=by
 cases tg with
 | Name x p=>exact⟨x,p,rfl,h⟩|_=>cases h
theorem aDD(h:bC Γ c e=true)(q:rB e=true):∃k caps t it cond elt,c=.comp k caps t it cond elt:=by
 cases c with
 | comp k caps t it cond elt=>grind|c d=>rcases(BY _ _).mp (h) with h|h;obtain⟨_,⟨_,_,rfl⟩,_⟩:=aJ h;cases q;obtain⟨_,⟨_,rfl⟩,_⟩:=aJ h;cases q
 | v i=>obtain⟨_,⟨_,rfl⟩,_⟩:=aJ h;cases q|op o a b=>obtain⟨_,⟨_,rfl⟩,_⟩:=aJ h;cases q|neg a=>obtain⟨_,⟨_,rfl⟩,_⟩:=aJ h;cases q|nt a=>obtain⟨_,⟨_,rfl⟩,_⟩:=aJ h;cases q|an a b=>obtain⟨_,rfl,_⟩:=aJ h;cases q|orr a b=>obtain⟨_,rfl,_⟩:=aJ h;cases q|ife t a b=>obtain⟨_,⟨_,rfl⟩,_⟩:=aJ h;cases q|cmp o a b=>obtain⟨_,⟨_,rfl⟩,_⟩:=aJ h;cases q|dget j a=>obtain⟨_,⟨_,rfl⟩,_⟩:=aJ h;cases q|sset a=>obtain⟨_,⟨_,_,rfl⟩,_⟩:=aJ h;cases q|cmp2 B I a b c=>obtain⟨_,⟨_,rfl⟩,_⟩:=aJ h;cases q|idx a b=>obtain⟨_,⟨_,rfl⟩,_⟩:=aJ h;cases q|sli a lo hi=>obtain⟨_,⟨_,rfl⟩,_⟩:=aJ h;cases q|tup es=>obtain⟨_,⟨_,_,rfl⟩,_⟩:=aJ h;cases q|lst es=>obtain⟨_,⟨_,rfl⟩,_⟩:=aJ h;cases q|call f es=>obtain⟨_,⟨_,_,rfl⟩,_⟩:=aJ h;cases q|bi b es=>obtain⟨_,⟨_,_,rfl⟩,_⟩:=aJ h;cases q|isi a cs=>obtain⟨_,⟨_,_,rfl⟩,_⟩:=aJ h;cases q|numset a=>obtain⟨_,⟨_,_,rfl⟩,_⟩:=aJ h;cases q|tget i a=>obtain⟨_,⟨_,_,rfl,_⟩,_⟩:=aJ h;cases q
theorem m1{f:A7->Bool}(h:(match jL Γ i m c with|some [a]=>f a|_=>false)=true):∃a,jL Γ i m c=some [a]/\f a=true:=by split at h;rename_i a q;exact⟨a,q,h⟩;cases h
abbrev QS(P:Pg)(n:Nat)(Y J:Addr->Prop)(c:S):Prop:=∀{X:Cx} {Γ:Ct},Mc X P Γ n->∀{st:Cg},gA Γ c st=true->∀(RT:Addr->Prop) (Z:Sg),PS X st (wS X RT Y J Z (ex P (call P n) Z c))
abbrev QSs(P:Pg)(n:Nat)(Y J:Addr->Prop)(c:Ss):Prop:=∀{X:Cx} {Γ:Ct},Mc X P Γ n->∀{st:List Cg},chkSs Γ c st=true->∀(RT:Addr->Prop) (Z:Sg),PSs X st (wS X RT Y J Z (exs P (call P n) Z c))
theorem aOx:QS P n Y J (.set t e):=λ{X Γ} M {st} h RT Z=>by
 unfold gA at h;obtain⟨⟨tg,v⟩,⟨p,rfl⟩,g⟩:=aJ h;clear h;obtain⟨h1,h2,h3⟩:=gF g;clear g;cases t with
 | n i=>
  obtain⟨x,p,I,hx⟩:=aDC h1;subst I;cases W:rB v with
  | false=>exact aLr M hx (sE e M h2 RT Y J Z) W|true=>obtain⟨k,caps,t,it,cond,elt,rfl⟩:=aDD h2 W;obtain⟨el,tg,q0,q1,scope,L,e2,O,g1,g2,U,g4,g5⟩:=aCa h2;subst e2;refine aDB M hx (O.scope M) O.ndc O.tk (sI it M U RT Y J Z) (λC s₀ H₀ ex=>?_) (oJ (mO U));have q:=O.mc M C s₀ H₀ ex;exact⟨aHW q g2,λRT Y J B=>sTs cond q g1 g4 RT Y J B,λRT Y J B=>sE elt q g5 RT Y J B⟩
 | t is=>obtain⟨es,k,p,I⟩:=aFJ h1;subst I;refine aLs M h1 (sE e M h2 RT Y J Z) ?_;have:(false||!vY v)=true:=h3;grind
theorem aOy:QS P n Y J (.mov i j):=λ{X Γ} M {st} h RT Z=>by unfold gA at h;obtain⟨⟨tg,v⟩,⟨p,rfl⟩,g⟩:=aJ h;clear h;obtain⟨x,⟨I,q⟩,g⟩:=aJ g;obtain⟨y,⟨L,B⟩,g⟩:=aJ g;subst q B;obtain⟨h1,h2⟩:=fO g;exact aOt M h1 h2
theorem aLC:QS P n Y J (.dnew i):=λ{X Γ} M {st} h RT Z=>by unfold gA at h;obtain⟨⟨tg,v⟩,⟨p,rfl⟩,g⟩:=aJ h;clear h;obtain⟨x,⟨I,q⟩,g⟩:=aJ g;subst q;obtain⟨h1,h2⟩:=fO g;obtain⟨_,⟨L,B⟩,_⟩:=aJ h2;subst B;exact aLv M h1
theorem aOz:QS P n Y J (.dpv i k e):=λ{X Γ} M {st} h RT Z=>by
 delta gA at h
 obtain⟨⟨tg,v⟩,⟨p,rfl⟩,g⟩:=aJ h;clear h;obtain⟨⟨o,ix⟩,⟨U,q⟩,g⟩:=aJ g;obtain⟨x,⟨W,B⟩,g⟩:=aJ g;subst q B;obtain⟨h1,h2,I,L⟩:=aFD g;exact aOw M h1 (sE k M h2 RT Y J Z) (sE e M I RT Y J Z) (aQ h2)
theorem aId:QS P n Y J (.setIx i k e):=λ{X Γ} M {st} h RT Z=>by unfold gA at h;obtain⟨⟨tg,v⟩,⟨p,rfl⟩,g⟩:=aJ h;clear h;obtain⟨⟨o,ix⟩,⟨L,q⟩,g⟩:=aJ g;obtain⟨x,⟨U,B⟩,g⟩:=aJ g;subst q B;obtain⟨h1,h2,I⟩:=gF g;exact aIb M h1 (sE k M h2 RT Y J Z) (sE e M I RT Y J Z) (aQ h2)
theorem aOA:QS P n Y J (.app i e):=λ{X Γ} M {st} h RT Z=>by unfold gA at h;obtain⟨c,⟨p,rfl⟩,g⟩:=aJ h;obtain⟨a,h1,h2⟩:=m1 g;exact aOr M h1 (sE e M h2 RT Y J Z) (aQ h2)
theorem aOB:QS P n Y J (.ext i e):=λ{X Γ} M {st} h RT Z=>by unfold gA at h;obtain⟨c,⟨p,rfl⟩,g⟩:=aJ h;obtain⟨a,h1,h2⟩:=m1 g;exact aOs M h1 (sE e M h2 RT Y J Z) (aQ h2)
theorem aOC:QS P n Y J (.ret e):=λ{X Γ} M {st} h RT Z=>by unfold gA at h;obtain⟨r,⟨p,rfl⟩,g⟩:=aJ h;clear h;obtain⟨v,q,g⟩:=aEW g;subst q;exact aOq (sE e M g RT Y J Z)
theorem aLD:QS P n Y J (.retv i):=λ{X Γ} M {st} h RT Z=>by unfold gA at h;obtain⟨r,⟨p,rfl⟩,g⟩:=aJ h;clear h;obtain⟨v,q,g⟩:=aEW g;subst q;obtain⟨x,⟨I,B⟩,g⟩:=aJ g;subst B;exact aLq M g
theorem aLE:QS P n Y J .retN:=λ{X Γ} M {st} h RT Z=>by
 unfold gA at h;obtain⟨r,⟨p,rfl⟩,g⟩:=aJ h;cases r with
 | none=>exact aLp|some _=>cases g
theorem aOD(B:QSs P n Y J a)(I:QSs P n Y J b):QS P n Y J (.iff c a b):=λ{X Γ} M {st} h RT Z=>by unfold gA at h;obtain⟨⟨t,x,y⟩,⟨p,rfl⟩,g⟩:=aJ h;obtain⟨h1,h2,q⟩:=gF g;exact aQx (sT c M h1 RT Y J Z) (B M h2) (I M q)
theorem aOE(I:QSs P n Y J b):QS P n Y J (.for t it b):=λ{X Γ} M {st} h RT Z=>by unfold gA at h;obtain⟨⟨tg,q,body⟩,⟨p,rfl⟩,g⟩:=aJ h;obtain⟨h1,h2,B⟩:=gF g;exact aOu M h1 (sI it M h2 RT Y J Z) (I M B) (oJ (mO h2))
theorem aOF(q:QSs P n Y J b):QS P n Y J (.whl c b):=λ{X Γ} M {st} h RT Z=>by unfold gA at h;obtain⟨⟨t,body⟩,⟨p,rfl⟩,g⟩:=aJ h;obtain⟨h1,h2⟩:=fO g;exact aOv M (λRT Z=>sT c M h1 RT Y J Z) (q M h2)
theorem aOG:QS P n Y J .brk:=λ{X Γ} M {st} h RT Z=>by unfold gA at h;obtain⟨_,⟨p,rfl⟩,_⟩:=aJ h;exact aOn
theorem aOH:QS P n Y J .cnt:=λ{X Γ} M {st} h RT Z=>by unfold gA at h;obtain⟨_,⟨p,rfl⟩,_⟩:=aJ h;exact aOo
theorem aLF:QS P n Y J .pass:=λ{X Γ} M {st} h RT Z=>by unfold gA at h;obtain⟨_,⟨p,rfl⟩,_⟩:=aJ h;exact aLo
theorem aQz:QS P n Y J (.ex e):=λ{X Γ} M {st} h RT Z=>by unfold gA at h;obtain⟨v,⟨p,rfl⟩,g⟩:=aJ h;obtain⟨h1,h2⟩:=fO g;exact aQw (sE e M h1 RT Y J Z) (by grind)
theorem aOI:QS P n Y J (.rse c k es):=by intro X Γ M st h RT Z;exact aOp
theorem aLG{RT:Addr->Prop}(M:Mc X P Γ n)(B:PSs X body (wS X RT Y J Z (exs P (call P n) Z b))) :
 PS X (.Try body (h0::hs) [] [] pos) (wS X RT Y J Z (ex P (call P n) Z (.tryN b))):=by
 intro G s ZV H D I h;refine wpAny_Try_except (C8 (B G s ZV H D I h) (λf s1 q=>?_) λe s1 q=>?_);cases f with
 | next=>exact Dk q|_=>exact q
 rw[M.xe] at q;exact q.elim
theorem aLH(q:QSs P n Y J b):QS P n Y J (.tryN b):=λ{X Γ} M {st} h RT Z=>by unfold gA at h;obtain⟨r,⟨hd,hs,p,rfl⟩,g⟩:=aJ h;exact aLG M (q M g RT Z)
theorem aFK:QS P n Y J (.appPop i j c k):=λ{X Γ} M {st} h RT Z=>by unfold gA at h;obtain⟨s,⟨p,rfl⟩,g⟩:=aJ h;obtain⟨a,h1,h2⟩:=m1 g;obtain⟨⟨u1,u2⟩,⟨p2,rfl⟩,U⟩:=aJ h2;obtain⟨W,B⟩:=fO U;obtain⟨kc,⟨kk,q,L⟩,h9⟩:=aJ W;subst L;obtain⟨b,h8,B⟩:=m1 B;obtain⟨B,I⟩:=fO B;exact aFI M h1 h9 h8 (sE c M B RT Y J Z) (aQ B) (by simpa using I)
theorem aLI:QS P n Y J (.new2 i):=λ{X Γ} M {st} h RT Z=>by
 unfold gA at h;obtain⟨⟨tg,v⟩,⟨p,rfl⟩,g⟩:=aJ h;clear h;obtain⟨x,⟨I,q⟩,g⟩:=aJ g;subst q;obtain⟨h1,g⟩:=fO g;obtain⟨l,⟨L,B⟩,g⟩:=aJ g;subst B;cases l with
 | nil=>exact aLy M h1|cons _ _=>cases g
theorem aLJ:QS P n Y J (.app2 i e):=λ{X Γ} M {st} h RT Z=>by unfold gA at h;obtain⟨c,⟨p,rfl⟩,g⟩:=aJ h;obtain⟨a,h1,h2⟩:=m1 g;exact aLz M h1 (sE e M h2 RT Y J Z) (aQ h2)
theorem aLK:QS P n Y J (.pop2 i k):=λ{X Γ} M {st} h RT Z=>by
 unfold gA at h;obtain⟨c,⟨p,rfl⟩,g⟩:=aJ h;clear h;obtain⟨⟨o,m,xs,l⟩,⟨ap,cp,e0,hl⟩,w⟩:=aJ g;clear g;subst e0;obtain⟨h1,h2,q,U⟩:=aFD w;clear w;have h1:=eq_of_beq h1;subst h1;rcases xs with _|⟨a,_|⟨_,_⟩⟩
 cases q;obtain⟨W,⟨k0,q0,e3⟩,h5⟩:=aJ q;subst e3;have B:W=.int 0:=by cases W <;> simp_all [eqC]
 subst B;obtain⟨⟨b,ix⟩,⟨p1,e1⟩,w⟩:=aJ U;clear U;subst e1;obtain⟨I,L⟩:=fO w;clear w;obtain⟨x,⟨p2,e2⟩,g3⟩:=aJ I;clear I;subst e2;exact aLA M g3 (sE k M L RT Y J Z) (aQ L) (hl.trans h2);cases q
theorem aLL:QS P n Y J (.pick j t i c):=λ{X Γ} M {st} h RT Z=>by
 unfold gA at h;obtain⟨⟨tg,it,body⟩,⟨p,rfl⟩,g⟩:=aJ h;clear h;obtain⟨z,⟨p1,e1⟩,U⟩:=aJ g;clear g;subst e1;obtain⟨h1,L,q⟩:=gF U;clear U;obtain⟨x,⟨p2,e2⟩,h2⟩:=aJ L;subst e2;rcases body with _|⟨b,_|⟨_,_⟩⟩
 cases q;obtain⟨⟨ce,th,el⟩,⟨p3,e3⟩,w⟩:=aJ q;clear q;subst e3;obtain⟨g1,B,I⟩:=gF w;clear w;have B:=GM.mp B;subst B;rcases th with _|⟨b',_|⟨_,_⟩⟩
 cases I;obtain⟨e,⟨p4,e4⟩,w2⟩:=aJ I;subst e4;obtain⟨a,k1,W⟩:=m1 w2;exact aLB M h1 h2 (λRT Z=>sT c M g1 RT Y J Z) k1 (λRT Z=>sE _ M W RT Y J Z) (aQ W);cases I;cases q
theorem aOJ:QSs P n Y J .nil:=λ{X Γ} M {st} h RT Z=>by
 cases st with
 | nil=>exact aOm|cons _ _=>exact nf h
theorem aLM(q:QS P n Y J c)(hs:QSs P n Y J cs):QSs P n Y J (.cons c cs):=λ{X Γ} M {st} h RT Z=>by
 cases st with
 | nil=>exact nf h|cons x xs=>obtain⟨h1,h2⟩:=fO h;exact aLn (q M h1) (hs M h2)
mutual
theorem sS:(c:S)->QS P n Y J c
 | .set _ _=>aOx|.mov _ _=>aOy|.setIx _ _ _=>aId|.dnew _=>aLC|.dpv _ _ _=>aOz|.app _ _=>aOA|.ext _ _=>aOB|.ret _=>aOC|.retv _=>aLD|.retN=>aLE|.iff _ a b=>aOD (sSs a) (sSs b)|.for _ _ b=>aOE (sSs b)|.whl _ b=>aOF (sSs b)|.brk=>aOG|.cnt=>aOH|.pass=>aLF|.ex _=>aQz|.rse _ _ _=>aOI|.tryN b=>aLH (sSs b)|.appPop _ _ _ _=>aFK|.new2 _=>aLI|.app2 _ _=>aLJ|.pop2 _ _=>aLK|.pick _ _ _ _=>aLL
theorem sSs:(c:Ss)->QSs P n Y J c
 | .nil=>aOJ|.cons c cs=>aLM (sS c) (sSs cs)
end
end
structure Tx where
 x:Str
 qual:Str
 st:Cg
 N:List Str
noncomputable def aCe(Γ:Ct)(F:Fn)(t:Tx):Bool:=
 t.N.length==F.ns&&decide (F.np<=F.ns)&&decide t.N.Nodup&&(cJ t.st).kind==.function&&!(cJ t.st).isCoroutine&&!(cJ t.st).isGenerator &&
 ((t.N.take F.np).all λx=>(cJ t.st).names.lookup x==some .local||(cJ t.st).names.lookup x==some .cell)&&((cJ t.st).names.all λp=>p.2 != .free) &&
 chkSs { Γ with N:=t.N,sc:=(cJ t.st).names,fn:=true } F.body (kM t.st)
noncomputable def oO(Γ:Ct):List Fn->List Tx->Bool
 | [],[]=>true|F::Fs,t::ts=>aCe Γ F t&&oO Γ Fs ts|_,_=>false
theorem iU:∀{q:List Fn} {ts:List Tx},oO Γ q ts=true->∀{f:Nat} {t:Tx},ts[f]? = some t->∃F,q[f]? = some F/\aCe Γ F t=true
 | [],[],_,_,_,e=>by simp at e|[],_::_,h,_,_,_=>by cases h|_::_,[],h,_,_,_=>by cases h|F::q,t::ts,h,0,t',e=>by obtain⟨h1,h2⟩:=fO (h);grind|F::q,t::ts,h,f+1,t',e=>by obtain⟨h1,h2⟩:=fO (h);obtain⟨B,I,L⟩:=iU h2 (by simpa using e);grind
section
variable {prog:A2} {w:AL} {K:Fg} {mg:Str->Option Ad} {base:Heap} {P:Pg} {Γ:Ct} {txs:List Tx}
structure Top (prog:A2) (w:AL) (K:Fg) (mg:Str->Option Ad) (P:Pg) (Γ:Ct) (txs:List Tx):Prop where
 fn:∀(f:Nat) (t:Tx),txs[f]? = some t->∃fa fd,mg t.x=some (.ref fa)/\Fun K t.x t.qual t.st fa fd/\∀F,P.fns[f]? = some F->lX K fd (t.N.take F.np) []
 fns:∀(f:Nat) (x:Str),Γ.fns[f]? = some x->∃t,txs[f]? = some t/\t.x=x
 blt:∀x∈bltNames,mg x=none
 cns:∀(x:Str) (d:D),Γ.cns.lookup x=some d->∃u v,mg x=some u/\cC v u/\∀H ex,Rep K H ex d v
 tab:∀(i:Nat) (x:Str),Γ.tbs[i]? = some x->∃a t,mg x=some (.ref a)/\P.tabs[i]? = some t/\uI prog w K a t
 chk:oO Γ P.fns txs=true
theorem aCf{k f:Nat}{F:Fn}(q:P.fns[f]? = some F){vs:List V}{H:Hp}{Q:VK}{E:XK}(h:spF K P (k+1) f vs H Q E):vs.length=F.np:=by obtain⟨ds,Y,_,r,I⟩:=h;obtain⟨x,e,_⟩:=I.eq;have e:vX P (call P k) f ds=.ok x:=e;unfold vX at e;rw[q] at e;have e:(if ds.length=F.np then _ else R.bad)=R.ok x:=e;split at e;rename_i B;rw[<-r.length];exact B;cases e
theorem aCg{t:Tx}{F:Fn}(q1:∀(f:Nat) (x:Str),Γ.fns[f]? = some x->∃fa fd ps,mg x=some (.ref fa)/\CQ K (.ref fa)=true/\lX K fd ps []/\pL prog w K mg base CX0 k fa fd ps (spF K P k f))
 (L:∀x∈bltNames,mg x=none) (U:∀(x:Str) (d:D),Γ.cns.lookup x=some d->∃u v,mg x=some u/\cC v u/\∀H ex,Rep K H ex d v) (q0:∀(i:Nat) (x:Str),Γ.tbs[i]? = some x->∃a t,mg x=some (.ref a)/\P.tabs[i]? = some t/\uI prog w K a t) (h2:Fun K t.x t.qual t.st fa fd) (hF:P.fns[f]? = some F) (hc:aCe Γ F t=true) :
 pL prog w K mg base CX0 (k+1) fa fd (t.N.take F.np) (spF K P (k+1) f):=by
 unfold aCe at hc;simp only[bA,beq_iff_eq,AO,G8,AT,BY,bne_iff_ne,ne_eq] at hc;obtain⟨⟨⟨⟨⟨⟨⟨⟨c1,c2⟩,c3⟩,c4⟩,c5⟩,c6⟩,c7⟩,c8⟩,c9⟩:=hc;have lt:(t.N.take F.np).length=F.np:=by rw[A0];omega
 have sc:pU t.N (t.N.take F.np) (cJ t.st):=⟨c4,c5,c6,c3,by rw[lt],c7,c8⟩
 refine h2.ok sc (λvs H Q E h=>by rw[lt];exact aCf hF h) λcdv A outer s H vs Q E hr h=>?_;have I:=aCf hF h;obtain⟨ds,Y,hY,r,hq⟩:=h;have M:Mc (aCW CX0 prog w K mg base t.N t.qual (cJ t.st) fa cdv A outer s H E).nox P { Γ with N:=t.N,sc:=(cJ t.st).names,fn:=true } k:={
  md:=⟨q1,L,U,q0⟩
  N:=rfl
  nd:=c3
  sc:=rfl
  calm:=rfl
  room:=hr
  xe:=rfl
  st:=λ_ _=>.inl rfl
  fk:=c4 }
 obtain⟨res,B,hq⟩:=hq.eq;have B:vX P (call P k) f ds=.ok res:=B;unfold vX at B;rw[hF] at B;have B:(if ds.length=F.np then (match exs P (call P k) ((ds.map λd=>Sl.sh true d)++Am (F.ns-F.np) Sl.dead) F.body with
  | .ret v=>R.ok (v.d,v.fr,v.pa)|.next _=>R.ok (.non,false,false)|_=>R.bad) else R.bad)=R.ok res:=B
 rw[if_pos (by rw[r.length];exact I)] at B;refine⟨_,wG (t':=λD ZV H'=>Tk K H'->wS _ (λ_=>False) Y (λb=>H b≠none) ((ds.map λd=>Sl.sh true d)++Am (F.ns-F.np) Sl.dead) (exs P (call P k) ((ds.map λd=>Sl.sh true d)++Am (F.ns-F.np) Sl.dead) F.body) D ZV H') (sSs F.body M c9 (λ_=>False) ((ds.map λd=>Sl.sh true d)++Am (F.ns-F.np) Sl.dead)) (λD ZV H' tk hw=>⟨(hw tk).1,OE.tkE (hw tk).2⟩),λtk=>⟨?_,?_⟩⟩;have e:L2.start t.N vs=vs.map some++Am (F.ns-F.np) none:=by unfold L2.start;rw[I,c1]
 rw[e];exact aFH hY tk r;have same:∀{H':Hp},Kp (λ_=>False) H H'->aX H H':=λk b o e=>k b o e id;cases q:exs P (call P k) ((ds.map λd=>Sl.sh true d)++Am (F.ns-F.np) Sl.dead) F.body with
 | next Z'=>rw[q] at B;cases(B);exact λq3 q4 H' kp sub S'=>hq .non H' S'.tk (same kp) (aKq rfl)|ret v=>
  rw[q] at B;cases(B);refine λu H' kp q2 rt=>hq u H' q2 (same kp) ?_;unfold Rr;unfold Rtv at rt;cases W:v.fr with
  | true=>rw[W,if_pos rfl] at rt;obtain⟨a,xs,ds',e1,e2,e3,e4,rr⟩:=rt;exact aNr ⟨a,xs,ds',e1,e2,J5.mp e3,e4,rr⟩|false=>rw[W,if_neg bN] at rt;exact aKq rt
 | brk Z'=>rw[q] at B;cases B|cnt Z'=>rw[q] at B;cases B|bad=>rw[q] at B;cases B
theorem aFL(T:Top prog w K mg P Γ txs):∀(k f:Nat) (x:Str),Γ.fns[f]? = some x->∃fa fd ps,mg x=some (.ref fa)/\CQ K (.ref fa)=true/\lX K fd ps []/\pL prog w K mg base CX0 k fa fd ps (spF K P k f)
 | 0,f,x,q=>by
  obtain⟨t,B,rfl⟩:=T.fns f x q;obtain⟨fa,fd,h1,h2,L⟩:=T.fn f t B;obtain⟨F,I,_⟩:=iU T.chk B;have U:∀vs H Q E,¬ spF K P 0 f vs H Q E:=λvs H Q E h=>by obtain⟨ds,Y,_,r,hr⟩:=h;exact hr
  exact⟨fa,fd,_,h1,h2.kp,L F I,λvs H Q E h=>absurd h (U vs H Q E),λA outer s H args us vs Q E _ _ _ _ h=>absurd h (U vs H Q E)⟩
 | k+1,f,x,q=>by obtain⟨t,B,rfl⟩:=T.fns f x q;obtain⟨fa,fd,h1,h2,L⟩:=T.fn f t B;obtain⟨F,I,W⟩:=iU T.chk B;exact⟨fa,fd,_,h1,h2.kp,L F I,aCg (λf x q=>aFL T k f x q) T.blt T.cns T.tab h2 I W⟩
theorem aLN(T:Top prog w K mg P Γ txs){t:Tx}{F:Fn}(L:txs[f]? = some t)(B:P.fns[f]? = some F)(h2:Fun K t.x t.qual t.st fa fd)(k:Nat):pL prog w K mg base CX0 (k+1) fa fd (t.N.take F.np) (spF K P (k+1) f):=by obtain⟨U,q,I⟩:=iU T.chk L;rw[B] at q;cases q;exact aCg (aFL T k) T.blt T.cns T.tab h2 B I
theorem aLO{ns:List Int}(L:aHA H)(q:SqL K H a (ns.map V.int))(h:∃fr pa,call P k f [.lst (ns.map D.int)]=.ok (.bl true,fr,pa)) :
 spF K P k f [.ref a] H (λv _=>v=.bl true) λ_ _ _=>False:=by
 obtain⟨fr,pa,e⟩:=h;have I:∀(ns:List Int),Reps K H (λ_=>False) (ns.map D.int) (ns.map V.int):=by
  intro ns
  induction ns with
  | nil=>exact .nil|cons i ns B=>exact .cons rfl B
 refine⟨[.lst (ns.map D.int)],λ_=>False,λ_ z=>z.elim,.cons ⟨a,_,rfl,q,id,I ns⟩ .nil,?_⟩;rw[e];intro u H' _ _ rr;unfold Rr at rr;cases fr with
 | true=>rw[if_pos rfl] at rr;grind|false=>rw[if_neg bN] at rr;exact rr
end
end Hp
end
namespace Hp
open PySem PySem.Spec PyProof.Rows L2
noncomputable def ER(w:AL)(K:Fg)(e:Ef)(p:Str×D):Prop:=e.hash=Jz w p.1/\(∃tk,e.key=.str p.1 tk)/\∃v,cC v e.val/\∀(H:Hp) (ex:Addr->Prop),Rep K H ex p.2 v
theorem uV{K:Fg}{ex:Addr->Prop}:∀xs:List Str,Reps K H ex (xs.map D.str) (xs.map V.str)
 | []=>rfl|x::xs=>⟨.str x,xs.map V.str,rfl,rfl,uV xs⟩
theorem aFM{K:Fg}{q:Array Ad}(h:K.lookup b=some ⟨.type "tuple",od,.seq q n,sl⟩)(xs:List Str)(I:q.size<=1000)(B:bJ (xs.map V.str) q.toList) :
 ∀(H:Hp) (ex:Addr->Prop),Rep K H ex (.tup (xs.map D.str)) (.ref b):=λH ex=>
 ⟨b,xs.map V.str,rfl,.inr ⟨_,q,n,h,rfl,rfl,AM I (by rw[Cb];decide),B⟩,uV xs⟩
theorem aFN{prog:A2}{w:AL}{K:Fg}:∀{es:List Ef} {t:List (Str×D)},CP (ER w K) es t->∃vs:List (Key×Ad),(∀e∈es,∃k:Key,(cI prog w).is k e.key=true/\e.hash=(cI prog w).hash k) /\
 Pairs (cI prog w) es vs/\vs.map (·.1)=t.map (λp=>(BR p.1:Key)) /\
 ∀k:Str,(t.lookup k=none/\EV vs (BR k:Key)=none)\/∃d u v,t.lookup k=some d/\EV vs (BR k:Key)=some u/\cC v u/\∀(H:Hp) (ex:Addr->Prop),Rep K H ex d v
 | _,_,.nil=>⟨[],λe q=>absurd q (by simp),.nil,rfl,λk=>.inl ⟨rfl,rfl⟩⟩
 | e::es,p::t,.cons ⟨h1,⟨tk,h2⟩,v,h3,h4⟩ r=>by
  obtain⟨vs,U,W,g3,g4⟩:=aFN (prog:=prog) r;have I:qN (BR p.1:Key) e.key=true:=by rw[h2];exact oF p.1 tk
  refine⟨(BR p.1,e.val)::vs,λL q=>?_,.cons I rfl W,by rw[mC,mC,g3],λk=>?_⟩;rcases A4.mp q with rfl|q;exact⟨BR p.1,I,h1⟩;exact U L q;by_cases B:k=p.1;subst B;refine .inr ⟨p.2,e.val,v,?_,?_,h3,h4⟩;grind;simp[EV];have n1:(p::t).lookup k=t.lookup k:=by grind
  have n2:EV ((BR p.1,e.val)::vs) (BR k:Key)=EV vs (BR k:Key):=by unfold EV;have:decide ((BR p.1:Key)=BR k)=false:=A3 λz=>B (Sum.inr.inj z).symm;rw[DS];simp only[this]
  rw[n1,n2];exact g4 k
theorem aLP{K:Fg}{es:Array Ef}{t:List (Str×D)}(hs:(a==En)=false)(h:K.lookup a=some ⟨.type "dict",none,.dict es ep,#[]⟩)(U:CP (ER w K) es.toList t)(hn:(t.map (·.1)).Nodup):uI prog w K a t:=by obtain⟨vs,q,B,I,L⟩:=aFN (prog:=prog) U;refine⟨hs,vs,λhh X=>⟨_,es,ep,X a _ h,⟨rfl,rfl,rfl⟩,rfl,λe W=>q e (by grind),B,?_⟩,L⟩;rw[I];grind
end Hp
namespace Hh
open PySem PySem.W PySem.Calls PyProof.Rows
noncomputable def go(st:FG->HR->Option (FG×HR))(ok:HR->Bool)(n:Nat):FG->HR->Option FG:=
 @Nat.rec (λ_=>FG->HR->Option FG) (λ_ _=>none) (λ_ ih s t=>match J6 t with
  | true=>some s|false=>match ok t with
   | false=>none|true=>match st s t with
    | some (s',t')=>ih s' t'|none=>none) n
theorem pD{q:String->Option C4}:∀(n:Nat) (s s':FG) (t:HR),go (J7 (IM q) p w) (IN n₀ ann) n s t=some s'->topRun q p w n₀ ann n s.abs t=some s'.abs
 | 0,_,_,_,h=>by cases h|n+1,s,s',t,h=>by
  have h:(match J6 t with
   | true=>some s|false=>match IN n₀ ann t with
    | false=>none|true=>match J7 (IM q) p w s t with
     | some (s',t')=>go (J7 (IM q) p w) (IN n₀ ann) n s' t'|none=>none)=some s':=h
  unfold topRun;cases I:J6 t with
  | true=>rw[I] at h;cases h;rfl|false=>
   rw[I] at h;cases B:IN n₀ ann t with
   | false=>rw[B] at h;cases h|true=>
    rw[B] at h;cases hs:J7 (IM q) p w s t with
    | none=>rw[hs] at h;cases h|some r=>obtain⟨L,U⟩:=r;rw[hs] at h;rw[stepT_spec hs];exact pD n _ _ _ h
noncomputable def bt(l:List Obj)(n:Nat):Nat->Nat->BT:=
 @Nat.rec (λ_=>Nat->Nat->BT) (λ_ _=>.nil) (λ_ ih a b=>match l[b]? with
  | some o=>.node o (ih (2*a) (a+b)) (ih (2*a) (2*a+b))|none=>.nil) n
noncomputable def aFO{α:Type}(p q:A2)(loose:List Str)(Xt:Ag->Bool)(Yf:Ag->α)(h0:Heap)(s:Ag):=
 ((IB (Fi p.main.body) h0 s.heap&&HS p s.heap&&Jh s&&Ji h0 s.heap),openSeen q loose (Fi p.main.body) Xt true s,Yf s)
theorem aIe{p q:A2}{I:List Str}{Xt:Ag->Bool}{α:Type}{Yf:Ag->α}{Ya:AL->α}{N B:Nat}{W:Option Ad}{L:HD->BT}{U:Life}(e:opening p=plainProg p.main.scope.names)(hN:Nat.ble 600 N=true)(f:∀s,Iq p s=some s)
 (hb:∀P,absHeap (L P) B U=BN P) (hz:∀P:HD,((BN P).isNs Bo,(BN P).objs.size,(BN P).nsMap Bo "__annotations__")=(true,B,W))
 (h:∀(w:AL) (os:Hn),(go (J7 (IM GN) p w) (IN B W) N ⟨L w.params,B,U,HU [],Gh,GO,os⟩ (J8 p)).map (λs=>aFO p q I Xt Yf (BN w.params) s.abs)=some (true,Jj q I,Ya w)):JJ p q I Xt Yf Ya N:=λw=>by
 obtain⟨⟨hh,gs,d,k,os⟩,e1,e2⟩:=Bp.mp (boot_open e hN f w);simp only[C1] at e2;obtain⟨rfl,rfl,rfl,rfl⟩:=e2;obtain⟨s,g1,g2⟩:=Bp.mp (h w os);have r:=pD N _ _ _ g1;have r:topRun GN p w B W N ⟨BN w.params,HU [],Gh,GO,os⟩ (J8 p)=some s.abs:=by rw[<-hb];exact r
 have z:=hz w.params;simp only[C1] at z;obtain⟨z1,z2,z3⟩:=z;unfold aFO at g2;simp only[C1] at g2;obtain⟨l1,l2,l3⟩:=g2;have t:J9 GN p w N ⟨BN w.params,HU [],Gh,GO,os⟩=some s.abs:=by unfold J9;dsimp only;rw[z1,z2,z3,r];show(match IB (Fi p.main.body) (BN w.params) s.abs.heap&&HS p s.abs.heap&&Jh s.abs&&Ji (BN w.params) s.abs.heap with|true=>_|false=>_)=_;rw[l1]
 unfold openEnds;rw[e1];show(J9 GN p w N _).map _=_;rw[t];exact congrArg some (JE l2 l3)
noncomputable def T0(P:HD):BT:=bt (BN P).objs.toList 5 1 0
theorem aLQ:∀P,absHeap (T0 P) 11 {}=BN P:=λP=>by kernel_rfl
theorem aIf:∀P:HD,((BN P).isNs Bo,(BN P).objs.size,(BN P).nsMap Bo "__annotations__")=(true,11,some (.ref 6)):=λP=>by kernel_rfl
abbrev aOK:=@PySem.W.Fast.tw10156331382660048174
abbrev qOk:=@PySem.W.Fast.tw6613529449190102663
abbrev aQA:=@PySem.W.Fast.tw11892475500146522536
abbrev aQB:=@PySem.W.Fast.tw14364793385576792824
abbrev aOL:=@PySem.W.Fast.tw4187177175401517315
abbrev aOM:=@PySem.W.Fast.tw5923862056798008813
noncomputable def aON{α:Type}(p q:A2)(loose:List Str)(Yf:Ag->α)(N:Nat)(w:AL)(os:Hn):=
 (go (aOK (aQA aQB) p w) (qOk 11 (some (.ref 6))) N ⟨T0 w.params,11,{},HU [],Gh,GO,os⟩ (J8 p)).map λs=>((IB (aOM p.main.body) (BN w.params) s.abs.heap&&HS p s.abs.heap&&Jh s.abs&&Ji (BN w.params) s.abs.heap),aOL q loose (aOM p.main.body) (λ_=>true) true s.abs,Yf s.abs)
theorem aLR{p q:A2}{B:List Str}{α:Type}{L:Ag->α}{I:AL->α}{N:Nat}(e:opening p=plainProg p.main.scope.names)(U:Nat.ble 600 N=true)(f:∀s,Iq p s=some s)
 (h:∀w os,aON p q B L N w os=some (true,Jj q B,I w)):JJ p q B (λ_=>true) L I N:=by refine aIe e U f aLQ aIf λw os=>?_;unfold aFO;rw[FR,Gi,FS,FT,Gj,Gk];exact h w os
end Hh
namespace Hh
open PySem PySem.W PySem.Calls PyProof.Rows L2 Hp
noncomputable def mP(h:Heap):Ap:=(Ai h.objs.size).filterMap λa=>(h.get? a).map λo=>(a,o)
theorem rY{α:Type}(f:Nat->Option α)(a:Nat):∀n,((Ai n).filterMap λi=>(f i).map λo=>(i,o)).lookup a=if a<n then f a else none
 | 0=>rfl|n+1=>by
  rw[DW,CM,List.lookup_append,rY f a n];by_cases h:a<n;rw[if_pos h,if_pos (CN h)];cases q:f a with
  | some o=>rfl|none=>
   cases B:f n with
   | none=>simp[B]|some o=>simp[B,GY,(beq_eq_false_iff_ne.mpr (AB h))]
  rw[if_neg h];by_cases e:a=n;subst e;rw[if_pos (C6 _)];cases q:f a with
  | none=>simp[q]|some o=>simp[q]
  rw[if_neg (by omega)];cases B:f n with
  | none=>simp[B]|some o=>simp[B,GY,(beq_eq_false_iff_ne.mpr e)]
theorem dZ(h:Heap)(a:Addr):(mP h).lookup a=h.get? a:=by
 unfold mP;rw[rY];by_cases q:a<h.objs.size;rw[if_pos q];rw[if_neg q];cases e:h.get? a with
 | none=>rfl|some o=>exact absurd (Aq e) q
theorem aCh{h h':Heap}(k:∀b o,h.get? b=some o->h'.get? b=some o):(mP h).In h':=λa o e=>k a o (by rw[<-dZ];exact e)
noncomputable def oP(h:Heap)(x:Str):Option (Option Ad):=match h.get? Bo with
 | some ⟨_,_,.dict es _,_⟩=>(match es.toList.find? (λe=>match e.key with|.str y _=>G9 y x|_=>false) with
  | some e=>some (some e.val)|none=>if es.toList.any (·.refKey) then none else some none)
 | _=>none
theorem aFP(v:Ad)(x:Str):v.isStr x=(match v with|.str y _=>G9 y x|_=>false):=by
 cases v with
 | str y t=>show(y==x)=G9 y x;rw[Bv,beq_iff_eq,IP]|_=>rfl
theorem iV(h:Heap)(x:Str):nsIn (mP h) Bo x=oP h x:=by unfold nsIn oP;rw[dZ];simp only[aFP];rfl
noncomputable def rZ(h:Heap)(cd:Ad):Option Str:=match cd with
 | .ref c=>(match h.get? c with
  | some ⟨_,_,.fields vs,_⟩=>(match vs.toList with|_::.str n _::_=>some n|_=>none)
  | _=>none)
 | _=>none
theorem aDE(e:rZ h cd=some q):codeIn (mP h) cd q=true:=by unfold rZ at e;unfold codeIn;split at e;rename_i c;simp only[dZ];split at e;rename_i vs _ B;rw[B];split at e;rename_i a n t r I;cases e;simp only[I,beq_self_eq_true];cases e;cases e;cases e
abbrev Pin:=Str×Str×FD×FuncBody×Da×Addr×List (Str×Addr)×Ad×Addr×Option Str
noncomputable def aAZ(h:Heap)(x:Str):Option Pin:=match oP h x with
 | some (some (.ref a))=>(match h.get? a with
  | some ⟨_,_,.func fd,_⟩=>some (fd.name,fd.qualname,fd.params,fd.body,fd.scope,fd.globals,fd.closure,fd.defaults,fd.builtins,rZ h fd.code)|_=>none)
 | _=>none
noncomputable def dR(s:Cg):Str:=match s with|.FunctionDef x _ _ _ _ _ _ _ _ _=>x|_=>⟨#[]⟩
noncomputable def aFQ(st:Cg):Pin:=(dR st,dR st,kK st,.stmts (kM st),cJ st,Bo,[],.none,FU,some (dR st))
theorem aIg{h:Heap}{st:Cg}(e:aAZ h (dR st)=some (aFQ st)):∃fa fd,nsIn (mP h) Bo (dR st)=some (some (.ref fa))/\Fun (mP h) (dR st) (dR st) st fa fd:=by unfold aAZ at e;split at e;rename_i a L;split at e;rename_i c d fd sl q;obtain⟨n,qn,ps,b,sc,g,W,df,U,doc,pm,an,B,ct,bn⟩:=fd;unfold aFQ at e;simp only[Co,C1] at e;obtain⟨rfl,rfl,rfl,rfl,rfl,rfl,rfl,rfl,rfl,I⟩:=e;refine⟨a,_,by rw[iV];exact L,⟨⟨c,d,U,doc,pm,an,B,ct,sl,rfl,by rw[dZ];exact q,aDE I⟩,?_⟩⟩;unfold keepIn;simp only[dZ,q];cases e;cases e
theorem sA{α:Type}{x:Str}{u:α}:∀{ps:List Str} {us:List α},ps.Nodup->ps.length=us.length->(x,u)∈ps.zip us->(ps.zip us).lookup x=some u
 | [],_,_,_,h=>by simp at h|p::ps,[],_,h,_=>by simp at h|p::ps,v::us,hn,hl,h=>by rw[AV] at h ⊢;obtain⟨h1,h2⟩:=Bg.mp hn;rcases A4.mp h with h|h;grind;have q:=(DQ h).1;have:(x==p)=false:=beq_eq_false_iff_ne.mpr λz=>h1 (z▸q);simp only[GY,this];exact sA h2 (by simpa using hl) h
theorem aFR{α:Type}(L:List (Str×α)):∀{ps:List Str} {us:List α},ps.length=us.length->(∀p∈ps.zip us,L.lookup p.1=some p.2)->(ps.filterMap λn=>(L.lookup n).map (n,·))=ps.zip us
 | [],_,_,_=>by simp|p::ps,[],h,_=>by simp at h|p::ps,v::us,hl,h=>by rw[AV,C3,h (p,v) (by simp),aFR L (by simpa using hl) λq B=>h q (by rw[AV];grind)];rfl
theorem aFS{α:Type}(L:List (Str×α)):∀{ps:List Str} {us:List α},ps.length=us.length->(∀p∈ps.zip us,L.lookup p.1=some p.2)->(ps.filter λn=>(L.lookup n).isNone)=[]
 | [],_,_,_=>by simp|p::ps,[],h,_=>by simp at h|p::ps,v::us,hl,h=>by rw[CZ,h (p,v) (by simp),aFS L (by simpa using hl) λq B=>h q (by rw[AV];grind)];rfl
noncomputable def kZ(a:FD)(ps:List Str):Bool:=match a with|⟨[],as,none,[],[],none,[]⟩=>decide (as.map (·.arg)=ps)&&decide ps.Nodup|_=>false
theorem sB{x q:Str}{a:FD}{b:List Cg}{sc:Da}{kV doc pm:Ad}{an:Option Addr}{cdv ct:Ad}{ps:List Str}{us:List Ad}(h:kZ a ps=true)(B:us.length=ps.length) :
 Hv (fnOf x q a b sc .none kV doc pm an cdv ct) ⟨us,[]⟩=pure (ps.zip us):=by
 unfold kZ at h;split at h;rename_i U;obtain⟨h1,h2⟩:=Bool.and_eq_true_iff.mp h;have h2:=of_decide_eq_true h2;unfold Hv;have L:∀s:Ad,s=.none->(I9 s)=pure none:=λs e=>by subst e;rfl
 simp only[mN,DR,(of_decide_eq_true h1),L,F7,pure_bind,B,Br,decide_false,Hs,EC,lN,List.drop_nil,EW,Bx,(aFS (ps.zip us) B.symm (λp I=>sA h2 B.symm I)),DI,CJ,FY,Bu,(aFR (ps.zip us) B.symm (λp I=>sA h2 B.symm I)),if_false,bF];cases h
noncomputable def zP(s:Cg):Bool:=match s with|.FunctionDef _ _ _ _ _ _ _ _ _ _=>true|_=>false
noncomputable def aFT:D->Ad->Bool
 | .int i,.int j _=>decide (i=j)|.str a,.str b _=>G9 a b|.non,.none=>true|.bl a,.bool b=>a==b|_,_=>false
noncomputable def aBa(h:Heap)(c:Str×D):Bool:=match oP h c.1 with|some (some u)=>aFT c.2 u|_=>false
noncomputable def nK:Ad->Option Str
 | .str x _=>some x|_=>none
abbrev aFU:=Int×Option Str×Option (Ad×List (Option Str))
noncomputable def pY(h:Heap)(e:Ef):aFU:=(e.hash,nK e.key,match e.val with
 | .ref b=>(match h.get? b with
  | some ⟨c,_,.seq its _,_⟩=>some (c,its.toList.map nK)|_=>none)
 | _=>none)
noncomputable def wL(h:Heap)(x:Str):Option (Bool×Ad×Option Addr×Array (Option Ad)×List aFU):=match oP h x with
 | some (some (.ref a))=>(match h.get? a with
  | some ⟨c,d,.dict es _,sl⟩=>some (a==En,c,d,sl,es.toList.map (pY h))|_=>none)
 | _=>none
noncomputable def wM(w:AL)(p:Str×List Str):aFU:=(Jz w p.1,some p.1,some (.type "tuple",p.2.map some))
noncomputable def aBb(w:AL)(t:List (Str×List Str)):Option (Bool×Ad×Option Addr×Array (Option Ad)×List aFU):=some (false,.type "dict",none,#[],t.map (wM w))
noncomputable def aDF(t:List (Str×List Str)):List (Str×D):=t.map λp=>(p.1,.tup (p.2.map D.str))
theorem aCi:∀{us:List Ad} {xs:List Str},us.map nK=xs.map some->bJ (xs.map V.str) us
 | [],[],_=>.nil|[],_::_,h=>by cases h|_::_,[],h=>by cases h|u::us,x::xs,h=>by rw[mC,mC] at h;obtain⟨h1,h2⟩:=E4 h;refine .cons ?_ (aCi h2);unfold nK at h1;split at h1;cases h1;exact⟨_,rfl⟩;cases h1
theorem aLS{p:Str×List Str}(q:pY h e=wM w p)(hl:p.2.length<=1000):ER w (mP h) e (p.1,.tup (p.2.map D.str)):=by unfold pY wM at q;simp only[C1] at q;obtain⟨q1,q2,B⟩:=q;refine⟨q1,?_,?_⟩;unfold nK at q2;grind;split at B;rename_i b W;split at B;rename_i c d q0 n sl ho;have B:=A9 B;simp only[C1] at B;obtain⟨U,I⟩:=B;subst U;have L:=congrArg GS I;rw[lM,lM] at L;exact⟨.ref b,by rw[W];rfl,aFM (by rw[dZ];exact ho) p.2 (by rw[<-B1,L];exact hl) (aCi I)⟩;cases B;cases B
theorem uW:∀{es:List Ef} {t:List (Str×List Str)},es.map (pY h)=t.map (wM w)->(∀p∈t,p.2.length<=1000)->CP (ER w (mP h)) es (aDF t)
 | [],[],_,_=>.nil|[],_::_,q,_=>by cases q|_::_,[],q,_=>by cases q|e::es,p::t,q,hl=>by rw[mC,mC] at q;obtain⟨h1,h2⟩:=E4 q;exact .cons (aLS h1 (hl p (Ar ..))) (uW h2 λI B=>hl I (Al _ B))
noncomputable def aCj(t:List (Str×List Str)):Bool:=(t.all λp=>decide (p.2.length<=1000))&&decide (t.map (·.1)).Nodup
theorem aFV(e:wL h x=aBb w t)(ok:aCj t=true):∃a,nsIn (mP h) Bo x=some (some (.ref a))/\uI prog w (mP h) a (aDF t):=by unfold aCj at ok;rw[bA,AT] at ok;unfold wL aBb at e;split at e;rename_i a I;split at e;rename_i c d es ep sl L;have e:=A9 e;simp only[C1] at e;obtain⟨q,rfl,rfl,rfl,B⟩:=e;refine⟨a,(iV h x).trans I,aLP q (by rw[dZ];exact L) (uW B λp U=>of_decide_eq_true (ok.1 p U)) ?_⟩;unfold aDF;rw[As];exact of_decide_eq_true ok.2;cases e;cases e
structure Sn where
 cns:List (Str×D)
 tbs:List (Str×List (Str×List Str))
abbrev aJq:=List (Option Pin)×List (Option (Option Ad))×Bool×List (Option (Bool×Ad×Option Addr×Array (Option Ad)×List aFU))
noncomputable def lB(p:A2)(n:Sn)(h:Heap):aJq:=
 ((p.main.body.filter zP).map (λst=>aAZ h (dR st)),bltNames.map (oP h),n.cns.all (aBa h),n.tbs.map (λq=>wL h q.1))
noncomputable def oQ(p:A2)(n:Sn)(w:AL):aJq:=
 ((p.main.body.filter zP).map (λst=>some (aFQ st)),bltNames.map (λ_=>some none),true,n.tbs.map (λq=>aBb w q.2))
noncomputable def zQ(p:A2)(i:Nat):Cg:=p.main.body.getD i (.Pass ⟨0,0,0,0⟩)
noncomputable def pR(p:A2)(c:Nat×List Str):Tx:=⟨dR (zQ p c.1),dR (zQ p c.1),zQ p c.1,c.2⟩
theorem aLT{p:A2}(h:zP (zQ p i)=true):zQ p i∈p.main.body:=by
 unfold zQ at h ⊢;rw[Ae] at h ⊢;cases e:p.main.body[i]? with
 | none=>rw[e] at h;cases h|some s=>exact mG e
theorem aIh{c:Str×D}(e:aBa h c=true):∃u v,nsIn (mP h) Bo c.1=some (some u)/\cC v u/\∀H ex,Rep (mP h) H ex c.2 v:=by unfold aBa at e;split at e;rename_i u q;obtain⟨x,d⟩:=c;have e:aFT d u=true:=e;unfold aFT at e;split at e;cases of_decide_eq_true e;exact⟨_,.int _,(iV _ _).trans q,⟨_,rfl⟩,λ_ _=>rfl⟩;cases IP.mp e;exact⟨_,.str _,(iV _ _).trans q,⟨_,rfl⟩,λ_ _=>rfl⟩;exact⟨_,.non,(iV _ _).trans q,rfl,λ_ _=>rfl⟩;cases eq_of_beq e;exact⟨_,.bl _,(iV _ _).trans q,rfl,λ_ _=>rfl⟩;cases e;cases e
theorem aLU{prog p:A2}{w:AL}{W h:Heap}{mg:Str->Option Ad}{P:Pg}{Γ:Ct}{ix:List (Nat×List Str)}{n:Sn}(S:lB p n W=oQ p n w)(k:∀b o,W.get? b=some o->h.get? b=some o)(U:h.Ns Bo mg)
 (hi:(ix.all λc=>zP (zQ p c.1))=true) (h1:Γ.fns=(ix.map (pR p)).map (·.x)) (h2:Γ.cns=n.cns) (h3:Γ.tbs=n.tbs.map (·.1)) (h4:P.tabs=n.tbs.map λq=>aDF q.2) (h5:(n.tbs.all λq=>aCj q.2)=true)
 (hb:((P.fns.zip (ix.map (pR p))).all λq=>kZ (kK q.2.st) (q.2.N.take q.1.np))=true) (chk:oO Γ P.fns (ix.map (pR p))=true) :
 Top prog w (mP W) mg P Γ (ix.map (pR p)):=by
 unfold lB oQ at S;simp only[C1] at S;obtain⟨s1,s2,s3,s4⟩:=S;have X:=aCh k;exact {
  fn:=λf t ht=>by rw[Ay] at ht;obtain⟨c,hc,rfl⟩:=Bp.mp ht;have hd:=AT.mp hi c (mG hc);obtain⟨fa,fd,L,I⟩:=aIg (E1.mp s1 _ (Cj.mpr ⟨aLT hd,hd⟩));refine⟨fa,fd,mg_of X U L,I,λF hF=>I.binds λkV doc pm an cdv ct us hl=>sB (AT.mp hb (F,pR p c) (mG (i:=f) ?_)) hl⟩;rw[Dc];grind
  fns:=λf x B=>by rw[h1,Ay] at B;grind
  blt:=λx B=>mg_none_of X U ((iV W x).trans (E1.mp s2 x B))
  cns:=λx d B=>by rw[h2] at B;obtain⟨u,v,L,I⟩:=aIh (AT.mp s3 _ (B0 B));exact⟨u,v,mg_of X U L,I⟩
  tab:=λi x B=>by rw[h3,Ay] at B;obtain⟨q,hq,rfl⟩:=Bp.mp B;have hm:=mG hq;obtain⟨a,L,I⟩:=aFV (E1.mp s4 q hm) (AT.mp h5 q hm);exact⟨a,aDF q.2,mg_of X U L,by rw[h4,Ay,hq];rfl,I⟩
  chk:=chk }
theorem aFW{l:Hi}{XP:(Str->Option Ad)->Heap->Prop}{YP:AL->Heap->Prop}{d:DefRec}{sp:Ap->Sp}(hn:l.most=some n)(q1:n<=sizeLine)(W:d.params.defaults=[])(hr:mI k EU)
 (F:∀(w:AL) (mg:Str->Option Ad) (fa:Addr) (h:Heap),YP w h->h.Ns Bo mg->mg d.name=some (.ref fa)->∃K:Ap,K.In h/\∃fd:D2,(∀(s:Ag) (u:Ad),ID s fd ⟨[u],[]⟩ [(x,u)])/\∀base:Heap,K.In base->base.Ns Bo mg->pL l.prog w K mg base CX0 k fa fd [x] (sp K))
 (q2:∀(K:Ap) (H:Hp) (a:Addr) (ns:List Int),ns.length<=n->aHA H->SqL K H a (ns.map V.int)->sp K [.ref a] H (λv _=>v=.bl true) λ_ _ _=>False):PySem.W.WalkO q loose XP YP l.row.toRowW d [] (λf vs=>HE f vs):=by refine Att.attach_call hn W λw s₀ q3 mg mb fa o pm cd doc a vs ns L Y ho hd q4 q0 U I B hg=>?_;obtain⟨K,KX,fd,hb,hF⟩:=F w mg fa _ Y L.T.g q0;exact aEK KX L.T.g L.T.b L.T.builtins L.T.nolimit hg U I (AM B q1) hr hF hb (λH hO hS=>q2 K H a ns B hO hS) λ_ _ _ z=>z
noncomputable def lst(p:A2):Cg:=p.main.body.getLastD (.Pass ⟨0,0,0,0⟩)
noncomputable def uX(p:A2):A2:={ p with main:={ p.main with body:=[lst p] } }
noncomputable def wN(p:A2):List Str:=(p.main.scope.names.map (·.1)).filter λx=>!(G9 x (dR (lst p)))
noncomputable def aLV(s:Cg):Dy:=match s with|.FunctionDef _ _ _ _ _ _ _ _ _ p=>p|_=>⟨0,0,0,0⟩
noncomputable def mQ(p:A2):DefRec:=⟨dR (lst p),kK (lst p),kM (lst p),cJ (lst p),aLV (lst p)⟩
theorem aLW{l:Hi}{P:Pg}{n:Sn}{ix:List (Nat×List Str)}{k f N:Nat}{x:Str}{sl:List Str}(W:l.row.wellSaid=true)(left:JJ l.prog (uX l.prog) (wN l.prog) (λ_=>true) (λs=>lB l.prog n s.heap) (λw=>oQ l.prog n w) N)
 (U:defOf (uX l.prog) l.name=some (mQ l.prog,[])) (hp:l.prog.theDef l.name=some ((mQ l.prog).params,(mQ l.prog).body,(mQ l.prog).scope)) (hk:kwWritten? (mQ l.prog).params.kwonlyargs (mQ l.prog).params.kw_defaults=some []) (q3:(!l.writes||([]:WRecords).isEmpty)=true)
 (ok:(chainsOk (uX l.prog)&&opensWell l.prog&&(frees l.row.toRowW&&l.row.within.isEmpty))=true) (hb:l.prog.bare) (hw:l.row.toRowW.promised) (hn:l.most=some 63) (q0:(mQ l.prog).params.defaults=[])
 (hi:(ix.all λc=>zP (zQ l.prog c.1))=true) (L:((P.fns.zip (ix.map (pR l.prog))).all λq=>kZ (kK q.2.st) (q.2.N.take q.1.np))=true) (chk:oO ⟨[],[],(ix.map (pR l.prog)).map (·.x),n.cns,true,n.tbs.map (·.1)⟩ P.fns (ix.map (pR l.prog))=true)
 (h4:P.tabs=n.tbs.map λq=>aDF q.2) (h5:(n.tbs.all λq=>aCj q.2)=true) (hr:mI (k+1) EU) (hx:(ix.map (pR l.prog))[f]? = some ⟨dR (lst l.prog),dR (lst l.prog),lst l.prog,x::sl⟩) (q2:(P.fns[f]?).map (·.np)=some 1)
 (pure:∀ns:List Int,ns.length<=63->∃fr pa,Hp.call P (k+1) f [.lst (ns.map D.int)]=.ok (.bl true,fr,pa)):l.row.Holds:=by refine holds_open (YP:=λw h=>∃B,lB l.prog n B=oQ l.prog n w/\∀b o,B.get? b=some o->h.get? b=some o) left (λw s e=>⟨s.heap,e,λ_ _ z=>z⟩) (λw h h' ⟨B,e,k⟩ k'=>⟨B,e,λb o z=>k' b o (k b o z)⟩) (λ_ _=>trivial) (λ_ _ _ _ _=>trivial) U hp hk (λ_ _=>recFacts_nil rfl) q3 W ok hb hw ?_;obtain⟨F,hF,I⟩:=Bp.mp q2;refine aFW (x:=x) hn (by decide) q0 hr (λw mg fa h ⟨B,e,kk⟩ G' q1=>?_) λK H a ns hl hO hS=>aLO hO hS (pure ns hl);have T:=aLU (prog:=l.prog) (Γ:=⟨[],[],(ix.map (pR l.prog)).map (·.x),n.cns,true,n.tbs.map (·.1)⟩) e kk G' hi rfl rfl rfl h4 h5 L chk;obtain⟨q4,fd,g1,g2,g3⟩:=T.fn f _ hx;cases(q1.symm.trans g1);refine⟨mP B,aCh kk,fd,λs u=>?_,λbase _ _=>?_⟩;obtain⟨oc,od,kV,doc,pm,an,cdv,ct,osl,rfl,lk,q5⟩:=g2.ex;refine .of_eq ((sB (ps:=[x]) ?_ rfl).trans rfl);have:=AT.mp L (F,_) (mG (Dc.mpr ⟨hF,hx⟩));rw[I] at this;exact this;have:=aLN (base:=base) T hx hF g2 k;rw[I] at this;exact this
end Hh
namespace Hp
open PySem (Str Operator CmpOp)
section
variable {P:Pg} {W:Caller} {Z:Sg}
@[simp] theorem aA {α q:Type} (a:α) (f:α->R q):((R.ok a:R α) >>= f)=f a:=id rfl
@[simp] theorem nN {α:Type} (x:R α):R.iff true x=x:=id rfl
@[simp] theorem aRk {α:Type} (x:α):R.of (some x)=.ok x:=id rfl
@[simp] theorem cF {α:Type} (a:α) (f:α->O):O.from Z (.ok a) f=f a:=id rfl
@[simp] theorem aLX (f:Sg->O):(O.next Z).on f=f Z:=id rfl
@[simp] theorem aFX (v:Vl) (f:Sg->O):(O.ret v).on f=.ret v:=id rfl
@[simp] theorem aE (d:D):ev P W Z (.c d)=.ok (.cl d):=id rfl
@[simp] theorem zR (i:Nat):ev P W Z (.v i)=dI Z i:=id rfl
@[simp] theorem aOO (o:Operator) (a b:E):ev P W Z (.op o a b)=(ev P W Z a >>= λx=>ev P W Z b >>= λy=>opD o x y):=id rfl
@[simp] theorem aLY (a:E):ev P W Z (.neg a)=(ev P W Z a >>= λx=>match x.d with|.int i=>.ok (.cl (.int (-i)))|_=>.bad):=id rfl
@[simp] theorem aOP (a:E):ev P W Z (.nt a)=(ev P W Z a >>= λx=>jJ x >>= λk=>.ok (.cl (.bl (!k)))):=id rfl
@[simp] theorem aOQ (a b:E):ev P W Z (.an a b)=(ev P W Z a >>= λx=>match x.d with|.bl true=>ev P W Z b|.bl false=>.ok (.cl (.bl false))|_=>.bad):=id rfl
@[simp] theorem aLZ (a b:E):ev P W Z (.orr a b)=(ev P W Z a >>= λx=>match x.d with|.bl true=>.ok (.cl (.bl true))|.bl false=>ev P W Z b|_=>.bad):=id rfl
@[simp] theorem aMa (t a b:E):ev P W Z (.ife t a b)=(tst P W Z t >>= λx=>if x then ev P W Z a else ev P W Z b):=id rfl
@[simp] theorem aMb (o:CmpOp) (a b:E):ev P W Z (.cmp o a b)=(ev P W Z a >>= λx=>ev P W Z b >>= λy=>match cZ o x.d y.d with|some k=>.ok (.cl (.bl k))|none=>.bad):=id rfl
@[simp] theorem aPA (o o':CmpOp) (a b c:E):ev P W Z (.cmp2 o o' a b c)=(ev P W Z a >>= λx=>ev P W Z b >>= λy=>match cZ o x.d y.d with
 | some true=>ev P W Z c >>= λz=>(match cZ o' y.d z.d with|some k=>.ok (.cl (.bl k))|none=>.bad)
 | some false=>.ok (.cl (.bl false))|none=>.bad):=id rfl
@[simp] theorem sC (a b:E):ev P W Z (.idx a b)=(ev P W Z a >>= λx=>ev P W Z b >>= λy=>eK x y):=id rfl
@[simp] theorem sD (es:Es):ev P W Z (.tup es)=(evs P W Z es >>= λvs=>.ok (aBO vs)):=id rfl
@[simp] theorem aMc (es:Es):ev P W Z (.lst es)=(evs P W Z es >>= λvs=>.ok (uG vs)):=id rfl
@[simp] theorem gG (f:Nat) (es:Es):ev P W Z (.call f es)=(evs P W Z es >>= λvs=>W f (vs.map (·.d)) >>= λr=>.ok (lO vs r)):=id rfl
@[simp] theorem aJr (b:Bi) (es:Es):ev P W Z (.bi b es)=(evs P W Z es >>= λvs=>biD b vs):=id rfl
@[simp] theorem aQC (a:E) (cs:List Cl):ev P W Z (.isi a cs)=(ev P W Z a >>= λx=>match isI cs P x.d with|some k=>.ok (.cl (.bl k))|none=>.bad):=id rfl
@[simp] theorem pZ (a:E) (h:E):ev P W Z (.sli a .nil (.cons h .nil))=(ev P W Z a >>= λx=>ev P W Z h >>= λh=>match h.d with|.int h=>.iff (aO h) (eC x none (some h))|_=>.bad):=by
 show(ev P W Z a >>= λx=>evs P W Z .nil >>= λl=>evs P W Z (.cons h .nil) >>= λh=>_)=_;cases ev P W Z a with
 | ok x=>show((ev P W Z h >>= λx=>evs P W Z .nil >>= λxs=>R.ok (x::xs)) >>= λh=>_)=_;cases ev P W Z h <;> rfl|bad=>rfl
theorem lD(k:Nat)(caps:List Nat)(t:T)(it:It)(cond:Es)(elt:E):ev P W Z (.comp k caps t it cond elt)=(walk P W Z it >>= λxs=>
 fD (λx=>bT (Am k .dead++caps.map λi=>((freeze Z xs.2)[i]?).getD .dead) x t >>= λq=>tsts P W q cond >>= λk=>if k then (ev P W q elt >>= λy=>.ok (some y)) else .ok none) xs.1 >>= λvs=>
 .iff (decide (vs.length<=lim)) (.ok (fE k caps xs.2 vs))):=rfl
@[simp] theorem aMM (a:E):ev P W Z (.numset a)=(ev P W Z a >>= λx=>match x.d with
 | .lst ds=>(match gO ds with|some ks=>.iff (decide (ds.length<=1000)) (.ok (.cl (.int (qW ks).length)))|none=>.bad)
 | _=>.bad):=id rfl
@[simp] theorem cN:evs P W Z .nil=.ok []:=id rfl
@[simp] theorem aM (e:E) (es:Es):evs P W Z (.cons e es)=(ev P W Z e >>= λx=>evs P W Z es >>= λxs=>.ok (x::xs)):=id rfl
@[simp] theorem sF (a:E):tst P W Z (.nt a)=(tst P W Z a >>= λx=>.ok (!x)):=id rfl
@[simp] theorem aMd (a b:E):tst P W Z (.an a b)=(tst P W Z a >>= λx=>if x then tst P W Z b else .ok false):=id rfl
@[simp] theorem aCk (a b:E):tst P W Z (.orr a b)=(tst P W Z a >>= λx=>if x then .ok true else tst P W Z b):=id rfl
@[simp] theorem aRi (d:D):tst P W Z (.c d)=jJ (.cl d):=id rfl
@[simp] theorem aOR (i:Nat):tst P W Z (.v i)=(dI Z i >>= λx=>jJ x):=id rfl
@[simp] theorem aCl (o:CmpOp) (a b:E):tst P W Z (.cmp o a b)=(ev P W Z a >>= λx=>ev P W Z b >>= λy=>match cZ o x.d y.d with|some k=>.ok k|none=>.bad):=id rfl
@[simp] theorem sG (o o':CmpOp) (a b c:E):tst P W Z (.cmp2 o o' a b c)=(ev P W Z a >>= λx=>ev P W Z b >>= λy=>match cZ o x.d y.d with
 | some true=>ev P W Z c >>= λz=>(match cZ o' y.d z.d with|some k=>.ok k|none=>.bad)
 | some false=>.ok false|none=>.bad):=id rfl
@[simp] theorem gP (f:Nat) (es:Es):tst P W Z (.call f es)=(evs P W Z es >>= λvs=>W f (vs.map (·.d)) >>= λr=>jJ (lO vs r)):=id rfl
@[simp] theorem aPB (a:E) (cs:List Cl):tst P W Z (.isi a cs)=(ev P W Z a >>= λx=>match isI cs P x.d with|some k=>.ok k|none=>.bad):=id rfl
@[simp] theorem aPC (a b:E):tst P W Z (.idx a b)=(ev P W Z a >>= λx=>ev P W Z b >>= λy=>eK x y >>= λz=>jJ z):=id rfl
@[simp] theorem aFY:tsts P W Z .nil=.ok true:=id rfl
@[simp] theorem uY (e:E) (es:Es):tsts P W Z (.cons e es)=(tst P W Z e >>= λx=>if x then tsts P W Z es else .ok false):=id rfl
@[simp] theorem aFZ (a:E):walk P W Z (.dwn a)=(ev P W Z a >>= λx=>match x.d with
 | .int i=>.iff (aO i) (.ok ((lY i).map .cl,[]))|_=>.bad):=id rfl
@[simp] theorem aDG (i j:Nat) (e:E) (k:Nat):ex P W Z (.appPop i j e k)=O.from Z (yR (some (ev P W Z e))) λm=>O.from Z (mZ Z j m) λ(v,Z')=>O.from Z' (aBQ v k) λw=>aEP Z' i w:=id rfl
@[simp] theorem zS (a b:E):walk P W Z (.rng a b)=(ev P W Z a >>= λx=>ev P W Z b >>= λy=>match x.d,y.d with|.int i,.int j=>.iff (aO i&&aO j) (.ok ((hW i j).map .cl,[]))|_,_=>.bad):=id rfl
@[simp] theorem bL (e:E):walk P W Z (.seq e)=(ev P W Z e >>= λx=>match x.d with
 | .lst ds=>.ok (items x ds,x.al)|.tup ds=>.ok (items x ds,x.al)|.str a=>.iff (decide (a.length<=lim)) (.ok (a.cps.toList.map λn=>.cl (.str ⟨#[n]⟩),[]))|_=>.bad):=id rfl
@[simp] theorem jT (a b:E):walk P W Z (.zip a b)=(ev P W Z a >>= λx=>ev P W Z b >>= λy=>match yQ x.d,yQ y.d with
 | some as,some bs=>.ok (items ⟨.non,false,x.pa||y.pa,x.al++y.al⟩ (fZ as bs),x.al++y.al)|_,_=>.bad):=id rfl
@[simp] theorem iB (t:T) (e:E):ex P W Z (.set t e)=O.from Z (ev P W Z e) λv=>O.from Z (bT (freeze Z v.al) v t) .next:=id rfl
@[simp] theorem aMe (i:Nat) (e:E):ex P W Z (.app i e)=O.from Z (ev P W Z e) λv=>put Z i v λds=>some (ds++[v.d]):=id rfl
@[simp] theorem aGa (i:Nat) (e:E):ex P W Z (.ext i e)=O.from Z (ev P W Z e) λv=>match qY v with|some (v',ds')=>put Z i v' λds=>some (ds++ds')|none=>.bad:=id rfl
@[simp] theorem zT (i:Nat) (k e:E):ex P W Z (.setIx i k e)=O.from Z (ev P W Z e) λv=>O.from Z (ev P W Z k) λq=>match q.d with
 | .int k=>put Z i v λds=>(match ixN ds.length k with|some j=>some (ds.set j v.d)|none=>none)
 | _=>.bad:=id rfl
@[simp] theorem wP (e:E):ex P W Z (.ret e)=O.from Z (ev P W Z e) .ret:=id rfl
@[simp] theorem jU (c:E) (a b:Ss):ex P W Z (.iff c a b)=O.from Z (tst P W Z c) λk=>if k then exs P W Z a else exs P W Z b:=id rfl
theorem aBc(t:T)(it:It)(b:Ss):ex P W Z (.for t it b)=O.from Z (walk P W Z it) λxs=>cK (λZ x=>O.from Z (bT Z x t) λZ'=>exs P W Z' b) xs.1 (freeze Z xs.2):=rfl
@[simp] theorem aQD (i j:Nat):ex P W Z (.mov i j)=(match Z[j]? with
 | some (.own pa ds)=>if i=j then .bad else .next ((Z.set j .dead).set i (.own pa ds))|some (.sh pa d)=>.next (Z.set i (.sh (pa&&!noL d) d))|_=>.bad):=id rfl
@[simp] theorem aPD (i:Nat):ex P W Z (.retv i)=(match Z[i]? with|some (.own pa ds)=>.ret ⟨.lst ds,true,pa,[]⟩|some (.own2 dss)=>.ret ⟨.lst (dss.map .lst),true,false,[]⟩|_=>O.from Z (dI Z i) .ret):=id rfl
@[simp] theorem qB:exs P W Z .nil=.next Z:=id rfl
@[simp] theorem eA (s:S) (ss:Ss):exs P W Z (.cons s ss)=(ex P W Z s).on λZ'=>exs P W Z' ss:=id rfl
end
theorem aI{P:Pg}{F:Fn}{ds:List D}(q:P.fns[f]? = some F)(B:ds.length=F.np){v:Vl}
 (h:exs P W ((ds.map λd=>Sl.sh true d)++Am (F.ns-F.np) Sl.dead) F.body=.ret v):vX P W f ds=.ok (v.d,v.fr,v.pa):=by unfold vX;rw[q];simp only[B,if_true,h]
theorem zU{f:Sg->Vl->O}:∀(xs:List Vl) (I:Nat->Sg->Prop) (Z:Sg),I 0 Z->(∀(i:Nat) (h:i<xs.length) (Z:Sg),I i Z->∃Z',f Z xs[i]=.next Z'/\I (i+1) Z')->∃Z',cK f xs Z=.next Z'/\I xs.length Z'
 | [],I,Z,h0,_=>⟨Z,rfl,h0⟩
 | x::xs,I,Z,h0,hs=>by
  obtain⟨B,q,h1⟩:=hs 0 (by simp) Z h0;obtain⟨L,U,h2⟩:=zU xs (λi=>I (i+1)) B h1 λi h Z W=>by have:=hs (i+1) (by simpa using h) Z W;simpa using this
  refine⟨L,?_,by simpa using h2⟩;have q:f Z x=.next B:=by simpa using q
  unfold cK;rw[q];exact U
theorem sH{f:Vl->R (Option Vl)}{g:Vl->Vl}:∀{xs:List Vl},(∀x∈xs,f x=.ok (some (g x)))->fD f xs=.ok (xs.map g)
 | [],_=>rfl|x::xs,h=>by show(f x >>= λy=>fD f xs >>= λq=>(match y with|some y=>R.ok (y::q)|none=>R.ok q))=_;rw[(h x Ar),(sH λy B=>h y (Al _ B))];rfl
theorem aMf(n:Nat):(hW 0 (n:Int)).map Vl.cl=(Ai n).map λ(k:Nat)=>Vl.cl (.int (k:Int)):=by unfold hW;rw[As];simp
theorem nO{caps:List Nat}{xs:List Vl}(g:Vl->Vl)(L:walk P W Z it=.ok (xs,al))(I:xs.length<=lim)
 (B:∀x∈xs,∃q,bT (Am k .dead++caps.map λi=>((freeze Z al)[i]?).getD .dead) x t=.ok q/\ev P W q elt=.ok (g x)):ev P W Z (.comp k caps t it .nil elt)=.ok (fE k caps al (xs.map g)):=by
 rw[lD,L,aA,sH (g:=g) λx U=>by
  obtain⟨q,e1,e2⟩:=B x U;simp_all]
 rw[aA,(Ak (by rw[lM];exact I)),nN]
theorem cT{xs:List Vl}(I:Nat->Sg->Prop)(U:walk P W Z it=.ok (xs,al))(B:I 0 (freeze Z al))
 (hs:∀(i:Nat) (h:i<xs.length) (Z:Sg),I i Z->∃q Z',bT Z xs[i] t=.ok q/\exs P W q b=.next Z'/\I (i+1) Z'):∃Z',ex P W Z (.for t it b)=.next Z'/\I xs.length Z':=by rw[aBc,U];refine zU xs I _ B λi h Z L=>?_;obtain⟨q,Z',e1,e2,h'⟩:=hs i h Z L;simp_all
theorem aIi:aO 0=true:=by decide
theorem iW{n:Nat}(q:n<=1000000):aO (n:Int)=true:=by unfold aO;rw[bA,AO,AO];grind
theorem bM{P:Pg}{W:Caller}{Z:Sg}{a:E}{v:Vl}{n:Nat}(h:ev P W Z a=.ok v)(hd:v.d=.int n)(q:n<=1000000):walk P W Z (.rng (.c (.int 0)) a)=.ok ((Ai n).map λ(k:Nat)=>Vl.cl (.int (k:Int)),[]):=by rw[zS,h,aE,aA,aA,hd,<-aMf];show R.iff (aO 0&&aO (n:Int)) _=_;rw[aIi,iW q];rfl
theorem uZ{vs:List Vl}(h:noLs (vs.map (·.d))=true):fE k caps al vs=⟨.lst (vs.map (·.d)),true,false,[]⟩:=by unfold fE;rw[if_pos h]
end Hp
namespace HpS
open Hp PySem
noncomputable def box(b:Str×Int):D:=.tup [.str b.1,.int b.2]
noncomputable def aF(bs:List (Str×Int)):List D:=bs.map box
noncomputable def aR(is:List Int):D:=.tup (is.map D.int)
structure aIj (bs:List (Str×Int)):Prop where
 few:bs.length<=5
 one:∀b∈bs,1<=b.2/\b.2<=7
 room:(bs.map λb=>b.2+1).foldl (·*·) 1<=24
noncomputable def jG(bs:List (Str×Int)):Int:=(bs.map λb=>b.2+1).foldl (·*·) 1
theorem jV:∀is:List Int,noLs (is.map D.int)=true
 | []=>rfl|i::is=>by simp[noLs,noL,jV is]
@[simp] theorem aS (is:List Int):noL (aR is)=true:=by simp[aR,noL,jV]
@[simp] theorem nP (b:Str×Int):noL (box b)=true:=by simp[box,noL,noLs]
theorem jW:∀ss:List (List Int),noLs (ss.map aR)=true
 | []=>rfl|s::ss=>by simp[noLs,jW ss]
theorem zV(bs:List (Str×Int)):items v (aF bs)=bs.map λb=>Vl.cl (box b):=by simp[items,aF,Vl.sub,D9]
theorem wQ:∀(xs:List Int) (a:Int),1<=a->(∀x∈xs,1<=x)->a<=xs.foldl (·*·) a
 | [],a,_,_=>Int.le_refl _|x::xs,a,ha,h=>by
  have q:=h x Ar;have h1:a<=a*x:=by have:=Int.mul_le_mul_of_nonneg_left q (show 0<=a by omega);omega
  exact Fa h1 (wQ xs (a*x) (by omega) λy B=>h y (Al _ B))
theorem wR(bs:List (Str×Int))(h:∀b∈bs,1<=b.2)(i:Nat):1<=jG (bs.take i)/\jG (bs.take i)<=jG bs:=by
 have pos:∀(l:List (Str×Int)),(∀b∈l,1<=b.2)->∀x∈l.map (λb=>b.2+1),1<=x:=λl B x I=>by grind
 have e:bs=bs.take i++bs.drop i:=(DE i bs).symm;have h1:1<=jG (bs.take i):=wQ _ 1 (by omega) (pos _ λb q=>h b (Cq q));refine⟨h1,?_⟩;have:jG bs=((bs.drop i).map λb=>b.2+1).foldl (·*·) (jG (bs.take i)):=by
  unfold jG
  conv=>lhs;rw[e,Ax,CO]
 rw[this];exact wQ _ _ h1 (pos _ λb q=>h b (List.mem_of_mem_drop q))
theorem aDH{bs:List (Str×Int)}(h:i<bs.length):jG (bs.take (i+1))=jG (bs.take i)*(bs[i].2+1):=by rw[BG h];unfold jG;rw[Ax,CO];rfl
noncomputable def wU:Fn:=⟨1,6,
 (.cons (.set (.n 1) (.lst (.cons (.tup .nil) .nil)))
 (.cons (.for (.t [2,3]) (.seq (.v 0))
  (.cons (.set (.n 4) (.lst .nil))
  (.cons (.for (.n 5) (.seq (.v 1))
   (.cons (.ext 4 (.comp 1 [5] (.n 0) (.rng (.c (.int 0)) (.op .Add (.v 3) (.c (.int 1)))) .nil (.op .Add (.v 1) (.tup (.cons (.v 0) .nil)))))
   .nil))
  (.cons (.mov 1 4)
  .nil))))
 (.cons (.retv 1)
 .nil)))⟩
noncomputable def eP(b:List Int)(top:Int):List (List Int):=(Ai (top+1).toNat).map λ(h:Nat)=>b++[(h:Int)]
noncomputable def jX(found:List (List Int))(top:Int):List (List Int):=found.flatMap λb=>eP b top
noncomputable def standsL(bs:List (Str×Int)):List (List Int):=bs.foldl (λfound b=>jX found b.2) [[]]
theorem gH{bs:List (Str×Int)}(h:i<bs.length):standsL (bs.take (i+1))=jX (standsL (bs.take i)) bs[i].2:=by rw[BG h];unfold standsL;rw[CO];rfl
theorem aBd(found:List (List Int))(top:Int):(jX found top).length=found.length*(top+1).toNat:=by
 induction found with
 | nil=>simp[jX]|cons b r q=>unfold jX at q ⊢;rw[DA,lA,q,lC,Nat.succ_mul];simp[eP];omega
theorem aBe{bs:List (Str×Int)}(h:aIj bs):∀i,i<=bs.length->((standsL (bs.take i)).length:Int)=jG (bs.take i)/\∀s∈standsL (bs.take i),s.length=i
 | 0,_=>by simp[standsL,jG]|i+1,hi=>by
  have q:i<bs.length:=by omega
  obtain⟨h1,h2⟩:=aBe h i (by omega);obtain⟨I,L⟩:=h.one bs[i] (AF q);rw[gH q,aDH q,aBd];refine⟨?_,λs hs=>?_⟩;rw[Int.natCast_mul,h1,C5 (by omega)];obtain⟨b,B,hs⟩:=ED.mp hs;obtain⟨k,_,rfl⟩:=A8.mp hs;rw[lA,h2 b B];rfl
theorem aJs{bs:List (Str×Int)}(h:aIj bs)(i:Nat)(hi:i<=bs.length):(standsL (bs.take i)).length<=24:=by have h1:=(aBe h i hi).1;have h2:=(wR bs (λb q=>(h.one b q).1) i).2;have B:jG bs<=24:=h.room;omega
theorem pJ{found:List (List Int)}(h:j<found.length):(found.take (j+1)).flatMap (λb=>eP b top)=(found.take j).flatMap (λb=>eP b top)++eP found[j] top:=by rw[BG h,FL];simp
theorem qC{found:List (List Int)}(j:Nat):((found.take j).flatMap λb=>eP b top).length<=(jX found top).length:=by
 have e:found=found.take j++found.drop j:=(DE j found).symm;unfold jX
 conv=>rhs;rw[e,FL,lA]
 omega
theorem wV(ss:List (List Int)):items v (ss.map aR)=ss.map λs=>Vl.cl (aR s):=by simp[items,Vl.sub,D9]
theorem aGb(n:Nat){b:List Int}(ht:1<=top)(B:top<=7)(U:b.length<=10) :
 ev P (call P n) [s0,s1,s2,.sh false (.int top),s4,.sh false (aR b)] (.comp 1 [5] (.n 0) (.rng (.c (.int 0)) (.op .Add (.v 3) (.c (.int 1)))) .nil (.op .Add (.v 1) (.tup (.cons (.v 0) .nil))))=.ok ⟨.lst ((eP b top).map aR),true,false,[]⟩:=by
 have I:walk P (call P n) [s0,s1,s2,.sh false (.int top),s4,.sh false (aR b)] (.rng (.c (.int 0)) (.op .Add (.v 3) (.c (.int 1))))=.ok ((Ai (top+1).toNat).map λ(k:Nat)=>Vl.cl (.int (k:Int)),[]):=by refine bM (v:=.cl (.int (top+1))) ?_ ?_ (by omega);simp[dI,Sl.val,opD,Vl.cl,noL];show D.int (top+1)=D.int ((top+1).toNat:Int);rw[C5 (by omega)]
 rw[nO (λv=>match v.d with|.int k=>.cl (aR (b++[k]))|_=>.cl .non) I];have e:(((Ai (top+1).toNat).map λ(k:Nat)=>Vl.cl (.int (k:Int))).map λv=>(match v.d with|.int k=>Vl.cl (aR (b++[k]))|_=>Vl.cl .non)).map (·.d)=(eP b top).map aR:=by simp[eP,Vl.cl,D9]
 rw[uZ (by rw[e];exact jW _),e];simp only[lM,AG];unfold lim;omega;intro y L;obtain⟨k,W,rfl⟩:=A8.mp L;have q:b.length+1<=lim:=by unfold lim;omega
 refine⟨[.sh false (.int k),.sh false (aR b)],?_,?_⟩;simp[bT,Vl.cl,Vl.slot,freeze];simp[dI,Sl.val,Vl.cl,opD,aBO,dX,bZ,aR,noL,q,jV]
theorem aDI{P:Pg}(hF:P.fns[f]? = some wU)(n:Nat)(h:aIj bs):call P (n+1) f [.lst (aF bs)]=.ok (.lst ((standsL bs).map aR),true,false):=by
 obtain⟨Z',e,hI⟩:=cT (P:=P) (W:=call P n) (Z:=[.sh true (.lst (aF bs)),.own false [.tup []],.dead,.dead,.dead,.dead]) (t:=.t [2,3]) (it:=.seq (.v 0))
  (b:=.cons (.set (.n 4) (.lst .nil)) (.cons (.for (.n 5) (.seq (.v 1)) (.cons (.ext 4 (.comp 1 [5] (.n 0) (.rng (.c (.int 0)) (.op .Add (.v 3) (.c (.int 1)))) .nil (.op .Add (.v 1) (.tup (.cons (.v 0) .nil))))) .nil)) (.cons (.mov 1 4) .nil)))
  (xs:=bs.map λb=>Vl.cl (box b)) (al:=[])
  (λi Z=>∃s2 s3 s4 B,Z=[.sh true (.lst (aF bs)),.own false ((standsL (bs.take i)).map aR),s2,s3,s4,B])
  (by simp[dI,Sl.val,zV]) ⟨_,_,_,_,rfl⟩ (λi hi Z L=>by
   obtain⟨s2,s3,s4,B,rfl⟩:=L;have q:i<bs.length:=by simpa using hi
   obtain⟨g2,g3⟩:=h.one bs[i] (AF q);have U:=aJs h (i+1) q;rw[gH q] at U;obtain⟨_,q0⟩:=aBe h i (by omega);have q4:=h.few;obtain⟨Z2,e2,hJ⟩:=cT (P:=P) (W:=call P n) (Z:=[.sh true (.lst (aF bs)),.own false ((standsL (bs.take i)).map aR),.sh false (.str bs[i].1),.sh false (.int bs[i].2),.own false [],B]) (t:=.n 5) (it:=.seq (.v 1))
    (b:=.cons (.ext 4 (.comp 1 [5] (.n 0) (.rng (.c (.int 0)) (.op .Add (.v 3) (.c (.int 1)))) .nil (.op .Add (.v 1) (.tup (.cons (.v 0) .nil))))) .nil)
    (xs:=(standsL (bs.take i)).map λs=>Vl.cl (aR s)) (al:=[1])
    (λj Z=>∃B,Z=[.sh true (.lst (aF bs)),.sh false (.lst ((standsL (bs.take i)).map aR)),.sh false (.str bs[i].1),.sh false (.int bs[i].2),.own false ((((standsL (bs.take i)).take j).flatMap λb=>eP b bs[i].2).map aR),B])
    (by simp[dI,Sl.val,wV]) ⟨_,by simp[freeze,Sl.freeze];rfl⟩ (λj hj Z L=>by
     obtain⟨B,rfl⟩:=L;have I:j<(standsL (bs.take i)).length:=by simpa using hj
     have hb:(standsL (bs.take i))[j].length<=10:=by rw[q0 _ (AF I)];omega
     have hc:=aGb (P:=P) n (s0:=.sh true (.lst (aF bs))) (s1:=.sh false (.lst ((standsL (bs.take i)).map aR))) (s2:=.sh false (.str bs[i].1)) (s4:=.own false ((((standsL (bs.take i)).take j).flatMap λb=>eP b bs[i].2).map aR)) (b:=(standsL (bs.take i))[j]) g2 g3 hb;have q2:=qC (found:=standsL (bs.take i)) (top:=bs[i].2) (j+1);rw[pJ I,lA] at q2;have q1:((((standsL (bs.take i)).take j).flatMap λb=>eP b bs[i].2).map aR++(eP (standsL (bs.take i))[j] bs[i].2).map aR).length<=lim:=by rw[lA,lM,lM];unfold lim;omega
     refine⟨[.sh true (.lst (aF bs)),.sh false (.lst ((standsL (bs.take i)).map aR)),.sh false (.str bs[i].1),.sh false (.int bs[i].2),.own false ((((standsL (bs.take i)).take j).flatMap λb=>eP b bs[i].2).map aR),.sh false (aR (standsL (bs.take i))[j])],
      [.sh true (.lst (aF bs)),.sh false (.lst ((standsL (bs.take i)).map aR)),.sh false (.str bs[i].1),.sh false (.int bs[i].2),.own false ((((standsL (bs.take i)).take (j+1)).flatMap λb=>eP b bs[i].2).map aR),.sh false (aR (standsL (bs.take i))[j])],?_,?_,⟨_,rfl⟩⟩
     simp[bT,Vl.cl,Vl.slot];rw[eA,aGa,hc,cF];show(match qY ⟨.lst ((eP (standsL (bs.take i))[j] bs[i].2).map aR),true,false,[]⟩ with|some (v',ds')=>put _ 4 v' λds=>some (ds++ds')|none=>.bad).on _=_;simp only[qY,jW,if_true];unfold put;simp only[freeze,iH,gS,gZ];rw[if_pos q1];simp[pJ I])
   obtain⟨q3,rfl⟩:=hJ;refine⟨[.sh true (.lst (aF bs)),.own false ((standsL (bs.take i)).map aR),.sh false (.str bs[i].1),.sh false (.int bs[i].2),s4,B],[.sh true (.lst (aF bs)),.own false ((standsL (bs.take (i+1))).map aR),.sh false (.str bs[i].1),.sh false (.int bs[i].2),.dead,q3],?_,?_,⟨_,_,_,_,rfl⟩⟩;simp[bT,box,Vl.cl,Vl.sub,noL,Vl.slot];have et:(standsL (bs.take i)).take ((standsL (bs.take i)).map λs=>Vl.cl (aR s)).length=standsL (bs.take i):=by simp
   rw[et] at e2;simp[uG,dX,bZ,bT,freeze,Vl.slot,e2,gH q,jX])
 obtain⟨s2,s3,s4,B,rfl⟩:=hI;have et:bs.take (bs.map λb=>Vl.cl (box b)).length=bs:=by simp
 rw[et] at e;refine aI (F:=wU) hF rfl (v:=⟨.lst ((standsL bs).map aR),true,false,[]⟩) ?_;simp[wU,uG,aBO,dX,bZ,bT,freeze,Vl.slot,e]
end HpS
namespace Hp
open PySem (Str)
@[simp] theorem aPE (d:D):(⟨d,false,false,[]⟩:Vl)=.cl d:=id rfl
@[simp] theorem iJ (d:D):(Vl.cl d).d=d:=id rfl
@[simp] theorem aRj (d:D):(Vl.cl d).fr=false:=id rfl
@[simp] theorem aJt (d:D):(Vl.cl d).pa=false:=id rfl
@[simp] theorem sJ (d:D):(Vl.cl d).al=[]:=id rfl
@[simp] theorem lE (d:D):(Vl.cl d).slot=.sh false d:=by cases d <;> rfl
@[simp] theorem aIk (ds:List D) (pa:Bool) (al:List Nat):(⟨.lst ds,true,pa,al⟩:Vl).slot=.own pa ds:=id rfl
@[simp] theorem dS (i:Nat) (d:D):Sl.val i (.sh false d)=.ok (.cl d):=id rfl
@[simp] theorem aCm (i:Nat) (pa:Bool) (k:Int):Sl.val i (.sh pa (.int k))=.ok (.cl (.int k)):=by cases pa <;> rfl
@[simp] theorem aPF (i:Nat) (pa:Bool) (k:Str):Sl.val i (.sh pa (.str k))=.ok (.cl (.str k)):=by cases pa <;> rfl
@[simp] theorem aQE (i:Nat) (pa:Bool) (k:Bool):Sl.val i (.sh pa (.bl k))=.ok (.cl (.bl k)):=by cases pa <;> rfl
@[simp] theorem aPG (i:Nat) (pa:Bool):Sl.val i (.sh pa .non)=.ok (.cl .non):=by cases pa <;> rfl
@[simp] theorem aIl (i:Nat) (ds:List D):Sl.val i (.sh true (.lst ds))=.ok ⟨.lst ds,false,true,[]⟩:=id rfl
theorem gY(i:Nat)(pa:Bool)(h:noL d=true):Sl.val i (.sh pa d)=.ok (.cl d):=by unfold Sl.val;simp[h]
@[simp] theorem aCn (i:Nat) (pa:Bool) (ds:List D):Sl.val i (.own pa ds)=.ok ⟨.lst ds,false,pa,[i]⟩:=id rfl
@[simp] theorem aCo (Z:Sg) (v:Vl) (i:Nat):bT Z v (.n i)=.ok (Z.set i v.slot):=id rfl
@[simp] theorem hG (Z:Sg):freeze Z []=Z:=id rfl
@[simp] theorem aGc (b:Bool):jJ (.cl (.bl b))=.ok b:=id rfl
@[simp] theorem aBf (args:List Vl) (d:D):lO args (d,false,false)=.cl d:=id rfl
@[simp] theorem aQF (args:List Vl) (d:D):lO args (d,true,false)=⟨d,true,false,[]⟩:=id rfl
@[simp] theorem aGd (a b:D):cZ .Eq a b=eqD a b:=id rfl
@[simp] theorem aBg (a b:D):cZ .NotEq a b=(eqD a b).map (!·):=id rfl
@[simp] theorem aQG (a b:Int):cZ .Lt (.int a) (.int b)=some (decide (a<b)):=id rfl
@[simp] theorem aQH (a b:Int):cZ .Gt (.int a) (.int b)=some (decide (b<a)):=id rfl
@[simp] theorem aMg (a b:Int):cZ .LtE (.int a) (.int b)=some (decide (a<=b)):=id rfl
@[simp] theorem aCp (a b:Int):eqD (.int a) (.int b)=some (a==b):=id rfl
@[simp] theorem aIm (a b:Str):eqD (.str a) (.str b)=some (a==b):=id rfl
@[simp] theorem aQI (a b:Bool):eqD (.bl a) (.bl b)=some (a==b):=id rfl
@[simp] theorem aPH (P:Pg) (k:Int):isI [.tInt] P (.int k)=some true:=id rfl
@[simp] theorem aOS (P:Pg) (k:Int):isI [.tBool] P (.int k)=some false:=id rfl
@[simp] theorem aPI (P:Pg) (k:Str):isI [.tStr] P (.str k)=some true:=id rfl
@[simp] theorem aPJ (P:Pg) (k:List D):isI [.tTuple] P (.tup k)=some true:=id rfl
@[simp] theorem aPK (P:Pg) (k:List D):isI [.tList] P (.lst k)=some true:=id rfl
@[simp] theorem aQJ (P:Pg) (k:Bool):isI [.tBool] P (.bl k)=some true:=id rfl
@[simp] theorem add_int (i j:Int):opD .Add (.cl (.int i)) (.cl (.int j))=.ok (.cl (.int (i+j))):=id rfl
@[simp] theorem sub_int (i j:Int):opD .Sub (.cl (.int i)) (.cl (.int j))=.ok (.cl (.int (i-j))):=id rfl
theorem mul_int(h:iF i j=true):opD .Mult (.cl (.int i)) (.cl (.int j))=.ok (.cl (.int (i*j))):=by show R.iff (iF i j) _=_;rw[h];rfl
theorem qD(h:yP j=true):opD .FloorDiv (.cl (.int i)) (.cl (.int j))=.ok (.cl (.int (i / j))):=by show R.iff (yP j) _=_;rw[h];rfl
theorem aCq(h:0<j):opD .Mod (.cl (.int i)) (.cl (.int j))=.ok (.cl (.int (i % j))):=by show R.iff (decide (0<j)) _=_;rw[Ak h];rfl
@[simp] theorem lF (ds:List D) (fr pa:Bool) (al:List Nat):biD .len [⟨.lst ds,fr,pa,al⟩]=.ok (.cl (.int ds.length)):=id rfl
@[simp] theorem lG (ds:List D):biD .len [.cl (.tup ds)]=.ok (.cl (.int ds.length)):=id rfl
@[simp] theorem aOT (ds:List D):biD .len [.cl (.lst ds)]=.ok (.cl (.int ds.length)):=id rfl
end Hp
namespace HpS
open Hp PySem
section
variable {P:Pg} {W:Caller} {Z Z':Sg}
theorem cs(h:ex P W Z s=.next Z')(r:exs P W Z' ss=o):exs P W Z (.cons s ss)=o:=by rw[eA,h,aLX,r]
theorem aV(h:ev P W Z e=.ok (.cl d)):ex P W Z (.set (.n i) e)=.next (Z.set i (.sh false d)):=by rw[iB,h,cF,sJ,hG,aCo,cF,lE]
theorem bB(h:ev P W Z e=.ok v):exs P W Z (.cons (.ret e) ss)=.ret v:=by rw[eA,wP,h];rfl
theorem bR(h:tst P W Z c=.ok false):ex P W Z (.iff c a .nil)=.next Z:=by rw[jU,h];rfl
theorem eQ(h:tst P W Z c=.ok true)(r:exs P W Z a=.ret v):exs P W Z (.cons (.iff c a b) ss)=.ret v:=by rw[eA,jU,h,cF,if_pos rfl,r];rfl
theorem aZ(h:ev P W Z a=.ok x)(k:ev P W Z b=.ok y)(e:eK x y=.ok z):ev P W Z (.idx a b)=.ok z:=by rw[sC,h,aA,k,aA,e]
theorem cQ(h:ev P W Z a=.ok (.cl (.str w)))(q:(w==x)=b):tst P W Z (.cmp .Eq a (.c (.str x)))=.ok b:=by rw[aCl,h,aA,aE,aA,iJ,iJ,aGd,aIm,q]
theorem bK{x y z:Vl}(h1:ev P W Z a=.ok x)(h2:ev P W Z b=.ok y)(q:ev P W Z c=.ok z)(B:W f [x.d,y.d,z.d]=.ok (d,false,false)):ev P W Z (.call f (.cons a (.cons b (.cons c .nil))))=.ok (.cl d):=by simp_all
theorem v0_(h:noL d=true):ev P W (.sh true d::r) (.v 0)=.ok (.cl d):=gY 0 true h
theorem v1_(h:noL d=true):ev P W (s::.sh true d::r) (.v 1)=.ok (.cl d):=gY 1 true h
theorem v2_(h:noL d=true):ev P W (s::t::.sh true d::r) (.v 2)=.ok (.cl d):=gY 2 true h
theorem vA(h:tst P W Z t=.ok k)(r:(if k then ev P W Z a else ev P W Z b)=.ok v):ev P W Z (.ife t a b)=.ok v:=by rw[aMa,h,aA,r]
theorem aMh(h:ev P W Z a=.ok (.cl (.bl k))):ev P W Z (.nt a)=.ok (.cl (.bl !k)):=by rw[aOP,h];rfl
theorem aGe(h1:ev P W Z a=.ok (.cl (.bl x)))(h2:ev P W Z b=.ok (.cl (.bl y))):ev P W Z (.an a b)=.ok (.cl (.bl (x&&y))):=by rw[aOQ,h1,aA];cases x;rfl;exact h2
theorem aOU(h1:ev P W Z a=.ok (.cl (.bl x)))(h2:ev P W Z b=.ok (.cl (.bl y))):ev P W Z (.orr a b)=.ok (.cl (.bl (x||y))):=by rw[aLZ,h1,aA];cases x;exact h2;rfl
theorem eF(h:ev P W Z a=.ok x)(k:ev P W Z b=.ok y)(e:opD o x y=.ok z):ev P W Z (.op o a b)=.ok z:=by rw[aOO,h,aA,k,aA,e]
theorem mD{x y:Vl}(h:ev P W Z a=.ok x)(g:ev P W Z b=.ok y)(e:cZ o x.d y.d=some k):ev P W Z (.cmp o a b)=.ok (.cl (.bl k)):=by rw[aMb,h,aA,g,aA,e]
theorem dT(h:ev P W Z a=.ok x)(e:biD b [x]=.ok z):ev P W Z (.bi b (.cons a .nil))=.ok z:=by simp_all
end
end HpS
namespace Hp
open PySem (Str)
theorem bQ{α:Type}{g:α->D}(q:∀t,noL (g t)=true):∀ts:List α,noLs (ts.map g)=true
 | []=>rfl|t::ts=>by rw[mC,noLs,q t,bQ q ts];rfl
theorem jY{α:Type}{F:Vl->R (Option Vl)}{f:α->Vl}{g:α->D}{p:α->Bool}:∀{ts:List α},(∀t∈ts,F (f t)=.ok (if p t then some (.cl (g t)) else none))->fD F (ts.map f)=.ok ((ts.filter p).map λt=>.cl (g t))
 | [],_=>rfl|t::ts,h=>by
  have h1:=h t Ar;have h2:=jY (F:=F) (f:=f) (g:=g) (p:=p) (ts:=ts) λy I=>h y (Al _ I);show(F (f t) >>= λy=>fD F (ts.map f) >>= λB=>(match y with|some y=>R.ok (y::B)|none=>R.ok B))=_;rw[h1,h2];cases q:p t with
  | true=>rw[EH q];rfl|false=>rw[EI (by rw[q];grind)];rfl
theorem wW{α:Type}{g:α->D}(q:∀t,noL (g t)=true){k:Nat}{caps al:List Nat}(ts:List α):fE k caps al (ts.map λt=>Vl.cl (g t))=⟨.lst (ts.map g),true,false,[]⟩:=by
 have e:(ts.map λt=>Vl.cl (g t)).map (·.d)=ts.map g:=by rw[As];rfl
 rw[uZ (by rw[e];exact bQ q ts),e]
theorem fG{P:Pg}{W:Caller}{Z:Sg}{k:Nat}{caps al:List Nat}{T:T}{it:It}{elt:E}{α:Type}{ts:List α}(f:α->Vl)(g:α->D)(ng:∀t,noL (g t)=true)(hw:walk P W Z it=.ok (ts.map f,al))(U:ts.length<=lim)
 (I:∀t∈ts,∃q,bT (Am k .dead++caps.map λi=>((freeze Z al)[i]?).getD .dead) (f t) T=.ok q/\ev P W q elt=.ok (.cl (g t))):ev P W Z (.comp k caps T it .nil elt)=.ok ⟨.lst (ts.map g),true,false,[]⟩:=by
 rw[lD,hw,aA,jY (f:=f) (g:=g) (p:=λ_=>true) λt ht=>by
  obtain⟨q,e1,e2⟩:=I t ht;simp_all]
 have L:ts.filter (λ_=>true)=ts:=FM.mpr λ_ _=>rfl;have B:decide ((ts.map λt=>Vl.cl (g t)).length<=lim)=true:=Ak (by rw[lM];exact U);rw[aA,L,B,nN,wW ng]
theorem aBh{P:Pg}{W:Caller}{Z:Sg}{k:Nat}{caps al:List Nat}{T:T}{it:It}{c elt:E}{α:Type}{ts:List α}(f:α->Vl)(g:α->D)(p:α->Bool)(ng:∀t,noL (g t)=true)(hw:walk P W Z it=.ok (ts.map f,al))(hl:ts.length<=lim)
 (hb:∀t∈ts,∃q,bT (Am k .dead++caps.map λi=>((freeze Z al)[i]?).getD .dead) (f t) T=.ok q/\tst P W q c=.ok (p t)/\ev P W q elt=.ok (.cl (g t))):ev P W Z (.comp k caps T it (.cons c .nil) elt)=.ok ⟨.lst ((ts.filter p).map g),true,false,[]⟩:=by
 rw[lD,hw,aA,jY (f:=f) (g:=g) (p:=p) λt ht=>by
  obtain⟨q,I,L,U⟩:=hb t ht;show(bT _ (f t) T >>= λq=>_)=_;rw[I];show(tsts P W q (.cons c .nil) >>= λk=>if k then (ev P W q elt >>= λy=>R.ok (some y)) else R.ok none)=_;rw[uY,L,aA];cases hp:p t with
  | true=>rw[if_pos rfl,aFY,aA,if_pos rfl,U];rfl|false=>rfl]
 have B:decide (((ts.filter p).map λt=>Vl.cl (g t)).length<=lim)=true:=Ak (by rw[lM];grind);rw[aA,B,nN,wW ng]
theorem cU{α:Type}{v:Vl}{g:α->D}(q:∀t,noL (g t)=true)(ts:List α):items v (ts.map g)=ts.map λt=>Vl.cl (g t):=by unfold items;rw[As];refine Bf λt _=>?_;show Vl.sub v (g t)=_;unfold Vl.sub;rw[if_pos (q t)]
theorem iX(q:noL a=true)(B:noL b=true):noL (.tup [a,b])=true:=by simp[noL,noLs,q,B]
end Hp
namespace Hp
open PySem (Str Operator CmpOp)
section
variable {P:Pg} {W:Caller} {Z:Sg}
@[simp] theorem aPL (a l:E):ev P W Z (.sli a (.cons l .nil) .nil)=(ev P W Z a >>= λx=>ev P W Z l >>= λl=>match l.d with|.int l=>.iff (aO l) (eC x (some l) none)|_=>.bad):=by
 show(ev P W Z a >>= λx=>evs P W Z (.cons l .nil) >>= λl=>evs P W Z .nil >>= λh=>_)=_;cases ev P W Z a with
 | ok x=>
  show((ev P W Z l >>= λx=>evs P W Z .nil >>= λxs=>R.ok (x::xs)) >>= λl=>_)=(ev P W Z l >>= λl=>_)
  cases ev P W Z l <;> rfl
 | bad=>rfl
@[simp] theorem aPM (a l h:E):ev P W Z (.sli a (.cons l .nil) (.cons h .nil))=(ev P W Z a >>= λx=>ev P W Z l >>= λl=>ev P W Z h >>= λh=>match l.d,h.d with|.int l,.int h=>.iff (aO l&&aO h) (eC x (some l) (some h))|_,_=>.bad):=by
 show(ev P W Z a >>= λx=>evs P W Z (.cons l .nil) >>= λl=>evs P W Z (.cons h .nil) >>= λh=>_)=_;cases ev P W Z a with
 | ok x=>
  show((ev P W Z l >>= λx=>evs P W Z .nil >>= λxs=>R.ok (x::xs)) >>= λl=>_)=(ev P W Z l >>= λl=>_)
  cases ev P W Z l with
  | ok l=>
   show((ev P W Z h >>= λx=>evs P W Z .nil >>= λxs=>R.ok (x::xs)) >>= λh=>_)=(ev P W Z h >>= λh=>_)
   cases ev P W Z h <;> rfl
  | bad=>rfl
 | bad=>rfl
end
theorem fA:∀is:List Int,noLs (is.map D.int)=true
 | []=>rfl|i::is=>by simp[noLs,noL,fA is]
theorem gI(h:k<n):ixN n (k:Int)=some k:=by unfold ixN;rw[if_pos (Int.natCast_nonneg k),if_pos (by omega)];simp
theorem aIn{v:Vl}{is:List Int}(B:v.d=.lst (is.map D.int))(h:k<is.length):eK v (.cl (.int (k:Int)))=.ok (.cl (.int (is.getD k 0))):=by
 unfold eK;rw[B];have q:(is.map D.int).length=is.length:=by simp
 have e:(is.map D.int)[k]? = some (.int (is.getD k 0)):=by simp[h]
 simp only[iJ,q,gI h,e,Vl.sub,noL,if_true]
noncomputable def wX:Fn:=⟨2,5,
 (.cons (.set (.n 2) (.lst .nil))
 (.cons (.set (.n 3) (.op .Add (.op .Mod (.v 0) (.c (.int 2147483647))) (.c (.int 48271))))
 (.cons (.for (.n 4) (.rng (.c (.int 0)) (.op .Add (.v 1) (.c (.int 1))))
  (.cons (.set (.n 3) (.op .Mod (.op .Add (.op .Add (.op .Mult (.v 3) (.v 3)) (.op .Mult (.c (.int 48271)) (.v 3))) (.v 4)) (.c (.int 2147483647))))
  (.cons (.app 2 (.v 3))
  .nil)))
 (.cons (.ret (.sli (.v 2) (.cons (.c (.int 1)) .nil) .nil))
 .nil))))⟩
noncomputable def num(c:Int):Nat->Int
 | 0=>c % 2147483647+48271|k+1=>(num c k*num c k+48271*num c k+(k:Int)) % 2147483647
theorem aIo(c:Int):∀k,0<=num c k/\num c k<2147531918
 | 0=>by have q:0<=c % 2147483647:=DX _ (by decide);have h1:c % 2147483647<2147483647:=Ds _ (by decide);unfold num;omega|k+1=>by unfold num;have q:=DX (num c k*num c k+48271*num c k+(k:Int)) (show(2147483647:Int)≠0 by decide);have h1:=Ds (num c k*num c k+48271*num c k+(k:Int)) (show(0:Int)<2147483647 by decide);omega
noncomputable def jH(c:Int)(m:Nat):List Int:=(Ai m).map λi=>num c (i+2)
theorem eB(c:Int)(m:Nat):(jH c m).length=m:=by simp[jH]
theorem eG{P:Pg}{f:Nat}(hF:P.fns[f]? = some wX)(n:Nat)(c:Int){m:Nat}(hm:m<=1000):call P (n+1) f [.int c,.int m]=.ok (.lst ((jH c m).map D.int),true,false):=by
 have W:∀i:Int,opD .Mod (.cl (.int i)) (.cl (.int 2147483647))=.ok (.cl (.int (i % 2147483647))):=λi=>aCq (by decide);have hw:walk P (call P n) [.sh true (.int c),.sh true (.int m),.own false [],.sh false (.int (num c 0)),.dead] (.rng (.c (.int 0)) (.op .Add (.v 1) (.c (.int 1))))=.ok ((Ai (m+1)).map λ(k:Nat)=>Vl.cl (.int (k:Int)),[]):=by refine bM (v:=.cl (.int ((m+1:Nat):Int))) ?_ rfl (by omega);simp[dI]
 obtain⟨Z',e,hI⟩:=cT (t:=.n 4) (b:=(.cons (.set (.n 3) (.op .Mod (.op .Add (.op .Add (.op .Mult (.v 3) (.v 3)) (.op .Mult (.c (.int 48271)) (.v 3))) (.v 4)) (.c (.int 2147483647))))
  (.cons (.app 2 (.v 3))
  .nil)))
   (λk Z=>∃s4,Z=[.sh true (.int c),.sh true (.int m),.own false ((Ai k).map λi=>.int (num c (i+1))),.sh false (.int (num c k)),s4]) hw ⟨_,rfl⟩ (λk hk Z U=>by
    obtain⟨s4,rfl⟩:=U;have q0:k<m+1:=by simpa using hk
    obtain⟨r0,r1⟩:=aIo c k;have m1:opD .Mult (.cl (.int (num c k))) (.cl (.int (num c k)))=.ok (.cl (.int (num c k*num c k))):=mul_int (by
     simp only[iF,BY,bA,AO];right;omega)
    have m2:opD .Mult (.cl (.int 48271)) (.cl (.int (num c k)))=.ok (.cl (.int (48271*num c k))):=mul_int (by
     simp only[iF,BY,bA,AO];right;omega)
    have B:k+1<=lim:=by unfold lim;omega
    have L:(Ai (k+1)).map (λi=>D.int (num c (i+1)))=(Ai k).map (λi=>D.int (num c (i+1)))++[.int (num c (k+1))]:=by rw[DW];simp
    refine⟨[.sh true (.int c),.sh true (.int m),.own false ((Ai k).map λi=>.int (num c (i+1))),.sh false (.int (num c k)),.sh false (.int k)],
     [.sh true (.int c),.sh true (.int m),.own false ((Ai (k+1)).map λi=>.int (num c (i+1))),.sh false (.int (num c (k+1))),.sh false (.int k)],?_,?_,⟨_,rfl⟩⟩
    simp;rw[L];simp[dI,m1,m2,W,put,iH,B,num])
 obtain⟨s4,rfl⟩:=hI;have et:((Ai (m+1)).map λ(k:Nat)=>Vl.cl (.int (k:Int))).length=m+1:=by simp
 rw[et] at e;have I:noLs ((Ai (m+1)).map λi=>D.int (num c (i+1)))=true:=by
  have:(Ai (m+1)).map (λi=>D.int (num c (i+1)))=((Ai (m+1)).map λi=>num c (i+1)).map D.int:=by simp
  rw[this];exact fA _
 have q:cut ((Ai (m+1)).map λi=>D.int (num c (i+1))) (some 1) none=(jH c m).map D.int:=by
  unfold cut sIx;simp only[lM,AG];have e1:min (1:Int).toNat (m+1)=1:=by simp
  rw[if_neg (by decide),e1,BE (by simp),CC];simp[jH,D9]
 have s1:aO 1=true:=by decide
 refine aI (F:=wX) hF rfl (v:=⟨.lst ((jH c m).map D.int),true,false,[]⟩) ?_;have e:ex P (call P n) [.sh true (.int c),.sh true (.int m),.own false [],.sh false (.int (c % 2147483647+48271)),.dead] _=_:=e;simp[wX,dI,W,uG,dX,bZ,e,s1,eC,I,q]
end Hp
namespace HpS
open Hp PySem
inductive Sm where
 | num (n:Int)|box (k:Nat)|aft (k:Nat)|two (p:Bool) (a b:Sm)
noncomputable def aDJ(p:Bool):Str:=if p then "plus" else "minus"
noncomputable def Sm.d:Sm->D
 | .num n=>.tup [.str "number",.int n]|.box k=>.tup [.str "box",.int k]|.aft k=>.tup [.str "after",.int k]|.two p a b=>.tup [.str (aDJ p),a.d,b.d]
noncomputable def Sm.sz:Sm->Nat
 | .two _ a b=>1+a.sz+b.sz|_=>1
noncomputable def Sm.val(ah be:List Int):Sm->Int
 | .num n=>n|.box k=>ah.getD k 0|.aft k=>be.getD k 0|.two p a b=>if p then a.val ah be+b.val ah be else a.val ah be-b.val ah be
noncomputable def Sm.wf(c:Nat)(pl:Bool):Sm->Prop
 | .num n=>0<=n/\n<=99|.box k=>k<c|.aft k=>k<c/\pl=false|.two _ a b=>a.wf c pl/\b.wf c pl
theorem Sm.noL:∀s:Sm,Hp.noL s.d=true
 | .num _=>rfl|.box _=>rfl|.aft _=>rfl|.two _ a b=>by simp[Sm.d,Hp.noL,noLs,a.noL,b.noL]
theorem dD(h:Hp.noL d=true):Vl.sub v d=.cl d:=by unfold Vl.sub;rw[if_pos h]
theorem fP(x:D)(r:List D)(h:Hp.noL x=true):eK (.cl (.tup (x::r))) (.cl (.int 0))=.ok (.cl x):=by have:ixN (x::r).length 0=some 0:=gI (k:=0) (by simp);unfold eK;simp only[iJ,this,gZ,dD h]
theorem gQ(x y:D)(r:List D)(h:Hp.noL y=true):eK (.cl (.tup (x::y::r))) (.cl (.int 1))=.ok (.cl y):=by have:ixN (x::y::r).length 1=some 1:=gI (k:=1) (by simp);unfold eK;simp only[iJ,this,gZ,gS,dD h]
theorem aBi(x y z:D)(r:List D)(h:Hp.noL z=true):eK (.cl (.tup (x::y::z::r))) (.cl (.int 2))=.ok (.cl z):=by have:ixN (x::y::z::r).length 2=some 2:=gI (k:=2) (by simp);unfold eK;simp only[iJ,this,gZ,gS,dD h]
theorem nQ{is:List Int}(h:k<is.length):eK (.cl (aR is)) (.cl (.int (k:Int)))=.ok (.cl (.int (is.getD k 0))):=by
 unfold eK aR;have q:(is.map D.int).length=is.length:=by simp
 have e:(is.map D.int)[k]? = some (.int (is.getD k 0)):=by simp[h]
 simp only[iJ,q,gI h,e,Vl.sub,Hp.noL,if_true]
noncomputable def oR(f:Nat):Fn:=⟨3,6,
 (.cons (.set (.n 3) (.idx (.v 0) (.c (.int 0))))
 (.cons (.iff (.cmp .Eq (.v 3) (.c (.str "number")))
  (.cons (.ret (.idx (.v 0) (.c (.int 1))))
  .nil)
  .nil)
 (.cons (.iff (.cmp .Eq (.v 3) (.c (.str "box")))
  (.cons (.ret (.idx (.v 1) (.idx (.v 0) (.c (.int 1)))))
  .nil)
  .nil)
 (.cons (.iff (.cmp .Eq (.v 3) (.c (.str "after")))
  (.cons (.ret (.idx (.v 2) (.idx (.v 0) (.c (.int 1)))))
  .nil)
  .nil)
 (.cons (.set (.n 4) (.call f (.cons (.idx (.v 0) (.c (.int 1))) (.cons (.v 1) (.cons (.v 2) .nil)))))
 (.cons (.set (.n 5) (.call f (.cons (.idx (.v 0) (.c (.int 2))) (.cons (.v 1) (.cons (.v 2) .nil)))))
 (.cons (.ret (.ife (.cmp .Eq (.v 3) (.c (.str "plus"))) (.op .Add (.v 4) (.v 5)) (.op .Sub (.v 4) (.v 5))))
 .nil)))))))⟩
theorem aQK:(("number" : Str) == "number")=true:=by decide +kernel
theorem aQL:(("box" : Str) == "number")=false:=by decide +kernel
theorem aQM:(("box" : Str) == "box")=true:=by decide +kernel
theorem aQN:(("after" : Str) == "number")=false:=by decide +kernel
theorem aQO:(("after" : Str) == "box")=false:=by decide +kernel
theorem aQP:(("after" : Str) == "after")=true:=by decide +kernel
theorem aQQ:∀p,(aDJ p == "number")=false:=by decide +kernel
theorem aOV:∀p,(aDJ p == "box")=false:=by decide +kernel
theorem aOW:∀p,(aDJ p == "after")=false:=by decide +kernel
theorem aQR:∀p,(aDJ p == "plus")=p:=by decide +kernel
theorem jZ{P:Pg}(B:P.fns[f]? = some (oR f)){ah be:List Int}(U:ah.length=c)(W:be.length=c)(I:Hp.noL bd=true)(q:pl=false->bd=aR be) :
 ∀(s:Sm) (n:Nat),s.wf c pl->call P (n+s.sz) f [s.d,aR ah,bd]=.ok (.int (s.val ah be),false,false)
 | .num k,n,w=>by refine aI (F:=oR f) B rfl (v:=.cl (.int k)) ?_;exact cs (aV (aZ (v0_ rfl) rfl (fP _ _ rfl))) (eQ (cQ rfl aQK) (bB (aZ (v0_ rfl) rfl (gQ _ _ _ rfl))))|.box k,n,w=>by have w:k<c:=w;refine aI (F:=oR f) B rfl (v:=.cl (.int (ah.getD k 0))) ?_;exact cs (aV (aZ (v0_ rfl) rfl (fP _ _ rfl))) (cs (bR (cQ rfl aQL)) (eQ (cQ rfl aQM) (bB (aZ (v1_ (aS _)) (aZ (v0_ rfl) rfl (gQ _ _ _ rfl)) (nQ (by omega))))))|.aft k,n,w=>by obtain⟨w1,w2⟩:k<c/\pl=false:=w;have e:=q w2;subst e;refine aI (F:=oR f) B rfl (v:=.cl (.int (be.getD k 0))) ?_;exact cs (aV (aZ (v0_ rfl) rfl (fP _ _ rfl))) (cs (bR (cQ rfl aQN)) (cs (bR (cQ rfl aQO)) (eQ (cQ rfl aQP) (bB (aZ (v2_ (aS _)) (aZ (v0_ rfl) rfl (gQ _ _ _ rfl)) (nQ (by omega)))))))|.two p a b,n,w=>by
  obtain⟨w1,w2⟩:a.wf c pl/\b.wf c pl:=w;have L:=jZ B U W I q a (n+b.sz) w1;have c2:=jZ B U W I q b (n+a.sz) w2;rw[show n+b.sz+a.sz=n+a.sz+b.sz by omega] at L;have e:n+Sm.sz (.two p a b)=n+a.sz+b.sz+1:=by show n+(1+a.sz+b.sz)=_;omega
  rw[e];refine aI (F:=oR f) B rfl (v:=.cl (.int (Sm.val ah be (.two p a b)))) ?_;refine cs (aV (aZ (v0_ (Sm.noL _)) rfl (fP _ _ rfl))) (cs (bR (cQ rfl (aQQ p))) (cs (bR (cQ rfl (aOV p))) (cs (bR (cQ rfl (aOW p))) (cs (aV (bK (aZ (v0_ (Sm.noL _)) rfl (gQ _ _ _ a.noL)) (v1_ (aS _)) (v2_ I) L)) (cs (aV (bK (aZ (v0_ (Sm.noL _)) rfl (aBi _ _ _ _ b.noL)) (v1_ (aS _)) (v2_ I) c2)) (bB (vA (cQ rfl (aQR p)) ?_)))))));cases p <;> rfl
inductive Cn where
 | yes|cmp (i:Bool) (a b:Sm)|nt (c:Cn)|two (p:Bool) (a b:Cn)
noncomputable def wY(i:Bool):Str:=if i then "is" else "less"
noncomputable def sK(p:Bool):Str:=if p then "both" else "either"
noncomputable def Cn.d:Cn->D
 | .yes=>.tup [.str "yes"]|.cmp i a b=>.tup [.str (wY i),a.d,b.d]|.nt c=>.tup [.str "not",c.d]|.two p a b=>.tup [.str (sK p),a.d,b.d]
noncomputable def Cn.sz:Cn->Nat
 | .yes=>1|.cmp _ a b=>1+a.sz+b.sz|.nt c=>1+c.sz|.two _ a b=>1+a.sz+b.sz
noncomputable def Cn.hold(ah be:List Int):Cn->Bool
 | .yes=>true|.cmp i a b=>if i then a.val ah be==b.val ah be else decide (a.val ah be<b.val ah be)|.nt c=>!c.hold ah be|.two p a b=>if p then a.hold ah be&&b.hold ah be else a.hold ah be||b.hold ah be
noncomputable def Cn.wf(c:Nat)(pl:Bool):Cn->Prop
 | .yes=>True|.cmp _ a b=>a.wf c pl/\b.wf c pl|.nt x=>x.wf c pl|.two _ a b=>a.wf c pl/\b.wf c pl
theorem Cn.noL:∀s:Cn,Hp.noL s.d=true
 | .yes=>rfl|.cmp _ a b=>by simp[Cn.d,Hp.noL,noLs,a.noL,b.noL]|.nt c=>by simp[Cn.d,Hp.noL,noLs,c.noL]|.two _ a b=>by simp[Cn.d,Hp.noL,noLs,a.noL,b.noL]
noncomputable def sL(v f:Nat):Fn:=⟨3,6,
 (.cons (.set (.n 3) (.idx (.v 0) (.c (.int 0))))
 (.cons (.iff (.cmp .Eq (.v 3) (.c (.str "yes")))
  (.cons (.ret (.c (.bl true)))
  .nil)
  .nil)
 (.cons (.iff (.cmp .Eq (.v 3) (.c (.str "not")))
  (.cons (.ret (.nt (.call f (.cons (.idx (.v 0) (.c (.int 1))) (.cons (.v 1) (.cons (.v 2) .nil))))))
  .nil)
  .nil)
 (.cons (.iff (.cmp .Eq (.v 3) (.c (.str "both")))
  (.cons (.ret (.an (.call f (.cons (.idx (.v 0) (.c (.int 1))) (.cons (.v 1) (.cons (.v 2) .nil)))) (.call f (.cons (.idx (.v 0) (.c (.int 2))) (.cons (.v 1) (.cons (.v 2) .nil))))))
  .nil)
  .nil)
 (.cons (.iff (.cmp .Eq (.v 3) (.c (.str "either")))
  (.cons (.ret (.orr (.call f (.cons (.idx (.v 0) (.c (.int 1))) (.cons (.v 1) (.cons (.v 2) .nil)))) (.call f (.cons (.idx (.v 0) (.c (.int 2))) (.cons (.v 1) (.cons (.v 2) .nil))))))
  .nil)
  .nil)
 (.cons (.set (.n 4) (.call v (.cons (.idx (.v 0) (.c (.int 1))) (.cons (.v 1) (.cons (.v 2) .nil)))))
 (.cons (.set (.n 5) (.call v (.cons (.idx (.v 0) (.c (.int 2))) (.cons (.v 1) (.cons (.v 2) .nil)))))
 (.cons (.ret (.ife (.cmp .Eq (.v 3) (.c (.str "is"))) (.cmp .Eq (.v 4) (.v 5)) (.cmp .Lt (.v 4) (.v 5))))
 .nil))))))))⟩
theorem aQS:(("yes" : Str) == "yes")=true:=by grind
theorem aQT:(("not" : Str) == "yes")=false:=by decide +kernel
theorem aQU:(("not" : Str) == "not")=true:=by grind
theorem aQV:∀p,(wY p == "yes")=false:=by decide +kernel
theorem aQW:∀p,(wY p == "not")=false:=by decide +kernel
theorem aQX:∀p,(wY p == "both")=false:=by decide +kernel
theorem aQY:∀p,(wY p == "either")=false:=by decide +kernel
theorem aQZ:∀p,(wY p == "is")=p:=by decide +kernel
theorem aRa:∀p,(sK p == "yes")=false:=by decide +kernel
theorem aRb:∀p,(sK p == "not")=false:=by decide +kernel
theorem aOX:∀p,(sK p == "both")=p:=by decide +kernel
theorem aRc:∀p,(sK p == "either")=!p:=by decide +kernel
theorem Sm.sz_pos:∀s:Sm,1<=s.sz
 | .num _=>Ao _|.box _=>Ao _|.aft _=>Ao _
 | .two _ a b=>by show 1<=1+a.sz+b.sz;omega
theorem Cn.sz_pos:∀s:Cn,1<=s.sz
 | .yes=>Ao _|.cmp _ a b=>by show 1<=1+a.sz+b.sz;omega|.nt c=>by show 1<=1+c.sz;omega|.two _ a b=>by show 1<=1+a.sz+b.sz;omega
theorem nR{P:Pg}(U:P.fns[v]? = some (oR v))(L:P.fns[f]? = some (sL v f)){ah be:List Int}(W:ah.length=c)(hb:be.length=c)(q:Hp.noL bd=true)(B:pl=false->bd=aR be) :
 ∀(s:Cn) (n:Nat),s.wf c pl->call P (n+s.sz) f [s.d,aR ah,bd]=.ok (.bl (s.hold ah be),false,false)
 | .yes,n,w=>by refine aI (F:=sL v f) L rfl (v:=.cl (.bl true)) ?_;exact cs (aV (aZ (v0_ rfl) rfl (fP _ _ rfl))) (eQ (cQ rfl aQS) (bB rfl))|.cmp i a b,n,w=>by
  obtain⟨w1,w2⟩:a.wf c pl/\b.wf c pl:=w;have I:=jZ U W hb q B a (n+b.sz) w1;have c2:=jZ U W hb q B b (n+a.sz) w2;rw[show n+b.sz+a.sz=n+a.sz+b.sz by omega] at I;have e:n+Cn.sz (.cmp i a b)=n+a.sz+b.sz+1:=by show n+(1+a.sz+b.sz)=_;omega
  rw[e];refine aI (F:=sL v f) L rfl (v:=.cl (.bl (Cn.hold ah be (.cmp i a b)))) ?_;refine cs (aV (aZ (v0_ (Cn.noL _)) rfl (fP _ _ rfl))) (cs (bR (cQ rfl (aQV i))) (cs (bR (cQ rfl (aQW i))) (cs (bR (cQ rfl (aQX i))) (cs (bR (cQ rfl (aQY i))) (cs (aV (bK (aZ (v0_ (Cn.noL _)) rfl (gQ _ _ _ a.noL)) (v1_ (aS _)) (v2_ q) I)) (cs (aV (bK (aZ (v0_ (Cn.noL _)) rfl (aBi _ _ _ _ b.noL)) (v1_ (aS _)) (v2_ q) c2)) (bB (vA (cQ rfl (aQZ i)) ?_))))))));cases i <;> rfl
 | .nt x,n,w=>by
  have I:=nR U L W hb q B x n w;have e:n+Cn.sz (.nt x)=n+x.sz+1:=by show n+(1+x.sz)=_;omega
  rw[e];refine aI (F:=sL v f) L rfl (v:=.cl (.bl (Cn.hold ah be (.nt x)))) ?_;exact cs (aV (aZ (v0_ (Cn.noL _)) rfl (fP _ _ rfl))) (cs (bR (cQ rfl aQT)) (eQ (cQ rfl aQU) (bB (aMh (bK (aZ (v0_ (Cn.noL _)) rfl (gQ _ _ _ x.noL)) (v1_ (aS _)) (v2_ q) I)))))
 | .two p a b,n,w=>by
  obtain⟨w1,w2⟩:a.wf c pl/\b.wf c pl:=w;have I:=nR U L W hb q B a (n+b.sz) w1;have c2:=nR U L W hb q B b (n+a.sz) w2;rw[show n+b.sz+a.sz=n+a.sz+b.sz by omega] at I;have e:n+Cn.sz (.two p a b)=n+a.sz+b.sz+1:=by show n+(1+a.sz+b.sz)=_;omega
  rw[e];refine aI (F:=sL v f) L rfl (v:=.cl (.bl (Cn.hold ah be (.two p a b)))) ?_;refine cs (aV (aZ (v0_ (Cn.noL _)) rfl (fP _ _ rfl))) (cs (bR (cQ rfl (aRa p))) (cs (bR (cQ rfl (aRb p))) ?_));cases p with
  | true=>exact eQ (cQ rfl (aOX true)) (bB (aGe (bK (aZ (v0_ (Cn.noL _)) rfl (gQ _ _ _ a.noL)) (v1_ (aS _)) (v2_ q) I) (bK (aZ (v0_ (Cn.noL _)) rfl (aBi _ _ _ _ b.noL)) (v1_ (aS _)) (v2_ q) c2)))|false=>exact cs (bR (cQ rfl (aOX false))) (eQ (cQ rfl (aRc false)) (bB (aOU (bK (aZ (v0_ (Cn.noL _)) rfl (gQ _ _ _ a.noL)) (v1_ (aS _)) (v2_ q) I) (bK (aZ (v0_ (Cn.noL _)) rfl (aBi _ _ _ _ b.noL)) (v1_ (aS _)) (v2_ q) c2))))
end HpS
namespace K68
section
variable {α:Type} {ap:α->α->Bool} {hd:α->Nat}
inductive Tr (ap:α->α->Bool):List α->List α->Prop
 | nil:Tr ap [] []
 | cons {x:α} {R C D:List α}:(∀c∈C,ap c x=true)->Tr ap R (C++D)->Tr ap (x::R) (C++x::D)
theorem spl:∀{C D A B:List α} {m:α},C++D=A++m::B->(∃q,C=A++m::q/\B=q++D)\/(∃I,D=I++m::B/\A=C++I)
 | [],D,A,B,m,h=>.inr ⟨A,h,rfl⟩|c::C,D,[],B,m,h=>by cases h;exact .inl ⟨C,rfl,rfl⟩|c::C,D,a::A,B,m,h=>by
  injection h with h1 h2
  subst h1;rcases spl h2 with⟨q,rfl,rfl⟩|⟨I,rfl,rfl⟩
  exact .inl ⟨q,rfl,rfl⟩;exact .inr ⟨I,rfl,rfl⟩
theorem spl3{C D A B:List α}{x m:α}(h:C++x::D=A++m::B):(∃I,C=A++m::I/\B=I++x::D)\/(A=C/\m=x/\B=D)\/(∃q,D=q++m::B/\A=C++x::q):=by
 rcases spl h with⟨I,h1,h2⟩|⟨q,h1,h2⟩
 exact .inl ⟨I,h1,h2⟩;cases q with
 | nil=>grind|cons y q=>grind
theorem Tr.left{L M:List α}(e:Tr ap L M):∀{A:List α} {m:α} {B:List α},L=A++m::B->(∀a∈A,ap a m=true)->∃q I,M=q++m::I/\(∀a∈q,ap a m=true)/\Tr ap (A++B) (q++I):=by
 induction e with
 | nil=>simp_all|@cons x R C D hC e ih=>
  intro A m B h hA;cases A with
  | nil=>injection h with h1 h2;subst h1 h2;exact⟨C,D,rfl,hC,e⟩
  | cons a A=>
   injection h with h1 h2
   subst h1;obtain⟨q,I,h3,h4,W⟩:=ih h2 λa z=>hA a (Al _ z);rcases spl h3 with⟨U,rfl,rfl⟩|⟨D1,rfl,rfl⟩
   refine⟨q,U++x::D,by simp,h4,?_⟩;have:=Tr.cons (C:=q++U) (λc z=>hC c (by grind)) (by simpa using W);simpa using this;refine⟨C++x::D1,I,by simp,λa z=>?_,?_⟩;grind;have:=Tr.cons hC (by simpa using W);simpa using this
theorem Tr.right(sy:∀a b,ap a b=ap b a){L M:List α}(e:Tr ap L M):∀{A:List α} {m:α} {B:List α},M=A++m::B->(∀a∈A,ap a m=true)->∃q I,L=q++m::I/\(∀a∈q,ap a m=true)/\Tr ap (q++I) (A++B):=by
 induction e with
 | nil=>intro A m B h;cases A <;> cases h|@cons x R C D hC e ih=>
  intro A m B h hA;rcases spl3 h with⟨W,rfl,rfl⟩|⟨rfl,rfl,rfl⟩|⟨D1,rfl,rfl⟩
  obtain⟨q,I,rfl,h4,U⟩:=ih (B:=W++D) (by simp) hA;refine⟨x::q,I,rfl,λa z=>?_,?_⟩;grind;have:=Tr.cons (C:=A++W) (λc z=>hC c (by grind)) (by simpa using U);simpa using this;exact⟨[],R,rfl,λa z=>absurd z AJ,e⟩;obtain⟨q,I,rfl,h4,U⟩:=ih (A:=C++D1) (B:=B) (by simp) λa z=>hA a (by grind);refine⟨x::q,I,rfl,λa z=>?_,?_⟩;grind;have:=Tr.cons hC (by simpa using U);simpa using this
theorem Tr.len{L M:List α}(e:Tr ap L M):L.length=M.length:=by
 induction e with
 | nil=>rfl|cons _ _ q=>simp at q ⊢;omega
theorem Tr.both(q:∀a b,ap a b=ap b a):∀(n:Nat) {N L M:List α},N.length=n->Tr ap N L->Tr ap N M->Tr ap L M
 | 0,N,L,M,hn,e,f=>by cases BB.mp hn;cases e;grind|n+1,N,L,M,hn,e,f=>by
  cases L with
  | nil=>rw[e.len] at hn;cases hn|cons x R=>obtain⟨A,B,rfl,h1,h2⟩:=e.right q rfl λ_ z=>absurd z AJ;obtain⟨W,B',rfl,I,U⟩:=f.left rfl h1;exact .cons I (both q n (by simp at hn ⊢;omega) h2 U)
theorem sM{h:Nat}{C:List α}(q:∀c∈C,hd c≠h):C.filter (λc=>hd c==h)=[]:=DB.mpr λc z=>by simpa using q c z
theorem Tr.fil(B:∀a b,ap a b=true->hd a≠hd b){L M:List α}(e:Tr ap L M)(h:Nat):L.filter (λc=>hd c==h)=M.filter λc=>hd c==h:=by
 induction e with
 | nil=>rfl|@cons x R C D hC e ih=>
  rw[Eu] at ih ⊢;by_cases q:hd x=h;have z:C.filter (λc=>hd c==h)=[]:=sM λc z=>by rw[<-q];exact B c x (hC c z)
  rw[z] at ih ⊢;simp[ q,ih];grind
variable {key:α->Nat×Nat}
noncomputable def lt2(a b:Nat×Nat):Bool:=decide (a.1<b.1)||(a.1==b.1&&decide (a.2<b.2))
noncomputable def dF(ap:α->α->Bool)(L:List α)(i:Nat):Bool:=match L[i]? with|some x=>(L.take i).all λt=>ap x t|none=>false
noncomputable def lU(ap:α->α->Bool)(key:α->Nat×Nat)(L:List α):Nat->Nat->Nat->Nat
 | 0,_,b=>b|k+1,i,b=>lU ap key L k (i+1) (match L[i]?,L[b]? with|some x,some y=>if lt2 (key x) (key y)&&dF ap L i then i else b|_,_=>b)
noncomputable def pick(ap:α->α->Bool)(key:α->Nat×Nat)(L:List α):Nat:=lU ap key L (L.length-1) 1 0
noncomputable def norm(ap:α->α->Bool)(key:α->Nat×Nat):Nat->List α->List α
 | 0,_=>[]
 | n+1,L=>match L[pick ap key L]? with|some x=>x::norm ap key n (L.eraseIdx (pick ap key L))|none=>[]
theorem aCr(a:Nat×Nat):lt2 a a=false:=by unfold lt2;simp
theorem aMi{a b c:Nat×Nat}(h:lt2 a b=true)(h':lt2 b c=true):lt2 a c=true:=by unfold lt2 at*;simp at*;omega
theorem aIp{a b:Nat×Nat}(h:lt2 a b=false)(h':lt2 b a=false):a=b:=by obtain⟨q,B⟩:=a;obtain⟨I,L⟩:=b;unfold lt2 at*;simp at *;omega
theorem wZ{L:List α}:∀(k i b:Nat),b<i->i+k=L.length->dF ap L b=true->(∀j x y,j<i->L[j]? = some x->L[b]? = some y->dF ap L j=true->lt2 (key x) (key y)=false) ->
 lU ap key L k i b<L.length/\dF ap L (lU ap key L k i b)=true/\∀j x y,L[j]? = some x->L[lU ap key L k i b]? = some y->dF ap L j=true->lt2 (key x) (key y)=false
 | 0,i,b,hb,hk,f,q=>⟨by show b<_;omega,f,λj x y U W=>q j x y (by have:=(Au.mp U).1;omega) U W⟩
 | k+1,i,b,hb,hk,f,q=>by
  obtain⟨x,U⟩:∃x,L[i]? = some x:=⟨_,Ac (by omega)⟩
  obtain⟨y,W⟩:∃y,L[b]? = some y:=⟨_,Ac (by omega)⟩
  show lU ap key L k (i+1) (match L[i]?,L[b]? with|some x,some y=>if lt2 (key x) (key y)&&dF ap L i then i else b|_,_=>b)<_/\dF ap L (lU ap key L k (i+1) (match L[i]?,L[b]? with|some x,some y=>if lt2 (key x) (key y)&&dF ap L i then i else b|_,_=>b))=true/\∀j x y,_->L[lU ap key L k (i+1) (match L[i]?,L[b]? with|some x,some y=>if lt2 (key x) (key y)&&dF ap L i then i else b|_,_=>b)]? = some y->_;rw[U,W];show lU ap key L k (i+1) (if lt2 (key x) (key y)&&dF ap L i then i else b)<_/\dF ap L (lU ap key L k (i+1) (if lt2 (key x) (key y)&&dF ap L i then i else b))=true/\∀j x' y',_->L[lU ap key L k (i+1) (if lt2 (key x) (key y)&&dF ap L i then i else b)]? = some y'->_;by_cases c:(lt2 (key x) (key y)&&dF ap L i)=true;rw[if_pos c];rw[bA] at c;refine wZ k (i+1) i (by omega) (by omega) c.2 λj x' y' hj B I fj=>?_;rw[U] at I;cases I;by_cases e:j=i;subst e;rw[U] at B;cases B;exact aCr _;have:=q j x' y (by omega) B W fj;cases z:lt2 (key x') (key x) with
  | false=>rfl|true=>rw[aMi z c.1] at this;exact this
  rw[if_neg c];refine wZ k (i+1) b (by omega) (by omega) f λj x' y' hj B I fj=>?_;rw[W] at I;grind
theorem qF{L:List α}(h:0<L.length):pick ap key L<L.length/\dF ap L (pick ap key L)=true/\∀j x y,L[j]? = some x->L[pick ap key L]? = some y->dF ap L j=true->lt2 (key x) (key y)=false:=by
 refine wZ (L.length-1) 1 0 (by omega) (by omega) ?_ λj x y I B q _=>?_;unfold dF;rw[Ac h];rfl;have:j=0:=by omega
 subst this;rw[B] at q;cases q;exact aCr _
theorem iY(q:∀a b,ap a b=ap b a){L:List α}{i:Nat}{x:α}(h:L[i]? = some x):dF ap L i=true↔∀a∈L.take i,ap a x=true:=by unfold dF;rw[h];grind
theorem sN{L:List α}{i:Nat}{x:α}(h:L[i]? = some x):L=L.take i++x::L.drop (i+1)/\L.eraseIdx i=L.take i++L.drop (i+1):=by obtain⟨hi,rfl⟩:=Au.mp h;refine⟨?_,List.eraseIdx_eq_take_drop_succ _ _⟩;rw[<-Bz hi,DE]
theorem aDK(ne:∀a b,ap a b=true->hd a≠hd b){A B L U:List α}{m I:α}(e:A++m::B=L++I::U)(h:∀a∈A,ap a m=true)(h':∀a∈L,ap a I=true)(q:hd m=hd I):A=L/\m=I/\B=U:=by
 rcases spl3 e with⟨W,rfl,rfl⟩|⟨rfl,rfl,rfl⟩|⟨D1,rfl,rfl⟩
 grind;grind;grind
theorem Tr.norm(I:∀a b,ap a b=ap b a):∀(n:Nat) {L:List α},L.length=n->Tr ap (norm ap key n L) L
 | 0,L,h=>by cases BB.mp h;exact .nil|n+1,L,h=>by
  obtain⟨h1,h2,_⟩:=qF (L:=L) (by omega);obtain⟨x,q⟩:∃x,L[pick ap key L]? = some x:=⟨_,Ac h1⟩
  obtain⟨s1,s2⟩:=sN q;have e:K68.norm ap key (n+1) L=x::K68.norm ap key n (L.eraseIdx (pick ap key L)):=by show(match L[pick ap key L]? with|some x=>x::K68.norm ap key n (L.eraseIdx (pick ap key L))|none=>[])=_;rw[q]
  rw[e];have B:=Tr.norm I n (by rw[BF h1];omega);rw[s2] at B ⊢;have:=Tr.cons ((iY I q).mp h2) B;rwa [<-s1] at this
theorem aCs(I:∀a b,ap a b=ap b a)(ne:∀a b,ap a b=true->hd a≠hd b)(kh:∀a,(key a).1=hd a):∀(n:Nat) {L M:List α},L.length=n->Tr ap L M->norm ap key n L=norm ap key n M
 | 0,_,_,_,_=>rfl|n+1,L,M,h,e=>by
  have hM:=e.len;obtain⟨h1,h2,h3⟩:=qF (L:=L) (by omega);obtain⟨g1,g2,g3⟩:=qF (L:=M) (by omega);obtain⟨x,U⟩:∃x,L[pick ap key L]? = some x:=⟨_,Ac h1⟩
  obtain⟨y,W⟩:∃y,M[pick ap key M]? = some y:=⟨_,Ac g1⟩
  obtain⟨s1,s2⟩:=sN U;obtain⟨t1,t2⟩:=sN W;have fy:=(iY I W).mp g2;obtain⟨A,B,a1,a2,a3⟩:=e.left s1 ((iY I U).mp h2);obtain⟨C,D,c1,c2,c3⟩:=e.right I t1 fy;have put:∀{L A B:List α} {m:α},L=A++m::B->(∀a∈A,ap a m=true)->L[A.length]? = some m/\dF ap L A.length=true:=λ{L A B m} q f=>by
   have z:L[A.length]? = some m:=by rw[q];simp
   refine⟨z,(iY I z).mpr ?_⟩;rw[q];simpa using f
  obtain⟨p1,p2⟩:=put a1 a2;obtain⟨q1,q2⟩:=put c1 c2;obtain⟨rfl,rfl,rfl⟩:=aDK ne (a1.symm.trans t1) a2 fy (by rw[<-kh,<-kh,(aIp (g3 _ _ _ p1 W p2) (h3 _ _ _ q1 U q2))]);have e1:K68.norm ap key (n+1) L=x::K68.norm ap key n (L.eraseIdx (pick ap key L)):=by show(match L[pick ap key L]? with|some x=>x::K68.norm ap key n (L.eraseIdx (pick ap key L))|none=>[])=_;rw[U]
  have e2:K68.norm ap key (n+1) M=x::K68.norm ap key n (M.eraseIdx (pick ap key M)):=by show(match M[pick ap key M]? with|some x=>x::K68.norm ap key n (M.eraseIdx (pick ap key M))|none=>[])=_;rw[W]
  rw[e1,e2];refine congrArg (x::·) (aCs I ne kh n (by rw[BF h1];omega) ?_);rw[s2,t2];exact a3
noncomputable def fl(hd:α->Nat)(h:Nat)(L:List α):List α:=L.filter λc=>hd c==h
theorem eH(h:Nat)(x:α)(L:List α):fl hd h (x::L)=if hd x=h then x::fl hd h L else fl hd h L:=by unfold fl;rw[CZ];grind
noncomputable def cR(hd:α->Nat):List α->Nat->Nat->Nat
 | [],_,_=>0|y::M,h,c=>if hd y=h then (match c with|0=>0|c+1=>cR hd M h c+1) else cR hd M h c+1
noncomputable def lab(hd:α->Nat)(L:List α)(i:Nat):Nat×Nat:=match L[i]? with|some y=>(hd y,(fl hd (hd y) (L.take i)).length)|none=>(0,0)
theorem sO{h:Nat}:∀{M:List α} {c:Nat} {y:α},(fl hd h M)[c]? = some y->M[cR hd M h c]? = some y/\(fl hd h (M.take (cR hd M h c))).length=c/\hd y=h
 | [],c,y,q=>by cases q|z::M,c,y,q=>by
  rw[eH] at q;by_cases e:hd z=h;rw[if_pos e] at q;cases c with
  | zero=>cases q;unfold cR;rw[if_pos e];exact⟨rfl,rfl,e⟩|succ c=>obtain⟨h1,h2,B⟩:=sO q;unfold cR;rw[if_pos e];refine⟨h1,?_,B⟩;show(fl hd h (z::M.take (cR hd M h c))).length=c+1;rw[eH,if_pos e,lC,h2]
  rw[if_neg e] at q;obtain⟨h1,h2,B⟩:=sO q;unfold cR;rw[if_neg e];refine⟨h1,?_,B⟩;show(fl hd h (z::M.take (cR hd M h c))).length=c;rw[eH,if_neg e,h2]
theorem lH:∀{L:List α} {i:Nat} {y:α},L[i]? = some y->(fl hd (hd y) L)[(fl hd (hd y) (L.take i)).length]? = some y/\cR hd L (hd y) (fl hd (hd y) (L.take i)).length=i
 | [],i,y,q=>by cases q|z::L,0,y,q=>by cases q;rw[eH,if_pos rfl];refine⟨rfl,?_⟩;show cR hd (z::L) (hd z) 0=0;unfold cR;rw[if_pos rfl]|z::L,i+1,y,q=>by obtain⟨h1,h2⟩:=lH (L:=L) q;rw[eH,show(z::L).take (i+1)=z::L.take i from rfl,eH];by_cases e:hd z=hd y;rw[if_pos e,if_pos e];refine⟨h1,?_⟩;unfold cR;rw[if_pos e];grind;rw[if_neg e,if_neg e];refine⟨h1,?_⟩;unfold cR;rw[if_neg e,h2]
theorem iZ{L:List α}{i:Nat}{y:α}(h:L[i]? = some y):lab hd L i=(hd y,(fl hd (hd y) (L.take i)).length):=by unfold lab;rw[h]
noncomputable def sft(n s:Nat):Nat:=if s<n then s else s+1
theorem aBj{x:α}{h:Nat}(q:hd x≠h):∀(C D:List α) (c:Nat),cR hd (C++x::D) h c=sft C.length (cR hd (C++D) h c)
 | [],D,c=>by show(if hd x=h then (match c with|0=>0|c+1=>cR hd D h c+1) else cR hd D h c+1)=_;rw[if_neg q];rfl|y::C,D,c=>by
  show cR hd (y::(C++x::D)) h c=sft (C.length+1) (cR hd (y::(C++D)) h c);unfold cR;by_cases e:hd y=h;rw[if_pos e,if_pos e];cases c with
  | zero=>rfl|succ c=>show cR hd (C++x::D) h c+1=sft (C.length+1) (cR hd (C++D) h c+1);rw[aBj q C D c];unfold sft;split <;> split <;> omega
  rw[if_neg e,if_neg e,aBj q C D c];unfold sft;split <;> split <;> omega
theorem xA{x:α}:∀(C D:List α) (c:Nat),(∀a∈C,hd a≠hd x)->cR hd (C++x::D) (hd x) 0=C.length/\cR hd (C++x::D) (hd x) (c+1)=sft C.length (cR hd (C++D) (hd x) c)
 | [],D,c,q=>by refine⟨?_,?_⟩;show(if hd x=hd x then 0 else cR hd D (hd x) 0+1)=_;rw[if_pos rfl];rfl;show(if hd x=hd x then cR hd D (hd x) c+1 else cR hd D (hd x) (c+1)+1)=_;rw[if_pos rfl];rfl|y::C,D,c,q=>by obtain⟨h1,h2⟩:=xA C D c λa z=>q a (Al _ z);have e:=q y Ar;refine⟨?_,?_⟩;show cR hd (y::(C++x::D)) _ _=C.length+1;unfold cR;rw[if_neg e,h1];show cR hd (y::(C++x::D)) _ _=sft (C.length+1) (cR hd (y::(C++D)) _ _);unfold cR;rw[if_neg e,if_neg e,h2];unfold sft;split <;> split <;> omega
theorem xB{x:α}{R C D:List α}(q:∀a∈C,hd a≠hd x){i:Nat}{y:α}(h:R[i]? = some y):cR hd (C++x::D) (lab hd (x::R) (i+1)).1 (lab hd (x::R) (i+1)).2=sft C.length (cR hd (C++D) (lab hd R i).1 (lab hd R i).2):=by rw[iZ h,iZ (i:=i+1) h,show(x::R).take (i+1)=x::R.take i from rfl];rw[eH];by_cases e:hd x=hd y;rw[if_pos e,<-e];exact(xA C D _ q).2;rw[if_neg e];exact aBj e C D _
noncomputable def aMj(ap:α->α->Bool)(hd:α->Nat)(L M:List α):Prop:=∀i j x y,i<j->L[i]? = some x->L[j]? = some y->ap x y=false->cR hd M (lab hd L i).1 (lab hd L i).2<=cR hd M (lab hd L j).1 (lab hd L j).2
theorem Tr.kept(sy:∀a b,ap a b=ap b a)(ne:∀a b,ap a b=true->hd a≠hd b){L M:List α}(e:Tr ap L M):aMj ap hd L M:=by
 induction e with
 | nil=>intro i j x y _ h;cases h|@cons x R C D hC e ih=>
  have q:∀a∈C,hd a≠hd x:=λa z=>ne a x (hC a z);intro i j u v q0 U W B;cases j with
  | zero=>grind|succ j=>
   rw[xB q (i:=j) W];cases i with
   | zero=>
    cases U;rw[show lab hd (x::R) 0=(hd x,0) from rfl];rw[(xA C D 0 q).1];have I:R[j]? = some v:=W;have g:=(lH (hd:=hd) I).1;rw[show fl hd (hd v) R=fl hd (hd v) (C++D) from e.fil ne _] at g;obtain⟨g1,_,_⟩:=sO g;rw[iZ I];unfold sft;split
    . next lt=>rw[AI lt] at g1;have:=hC v (mG g1);rw[sy,this] at B;cases B
    omega
   | succ i=>rw[xB q (i:=i) U];have:=ih i j u v (by omega) U W B;unfold sft;split <;> split <;> omega
theorem zW{h:Nat}{x:α}:∀{M S:List α},fl hd h M=x::S->∃C D,M=C++x::D/\(∀c∈C,hd c≠h)/\fl hd h D=S
 | [],S,q=>by cases q|y::M,S,q=>by rw[eH] at q;by_cases e:hd y=h;rw[if_pos e] at q;cases q;exact⟨[],M,rfl,λ_ z=>absurd z AJ,rfl⟩;rw[if_neg e] at q;obtain⟨C,D,rfl,h1,h2⟩:=zW q;grind
theorem aCt(sy:∀a b,ap a b=ap b a):∀{L M:List α},(∀h,fl hd h L=fl hd h M)->aMj ap hd L M->Tr ap L M
 | [],M,f,_=>by
  cases M with
  | nil=>exact .nil|cons y M=>have:=f (hd y);rw[eH,if_pos rfl] at this;cases this
 | x::R,M,f,k=>by
  have U:=f (hd x);rw[eH,if_pos rfl] at U;obtain⟨C,D,rfl,q,_⟩:=zW U.symm;have hC:∀c∈C,ap c x=true:=λc hc=>by
   obtain⟨n,hn,rfl⟩:=DN.mp hc;have hM:(C++x::D)[n]? = some C[n]:=by rw[AI hn,Ac hn]
   obtain⟨W,g2⟩:=lH hM;rw[<-f] at W;obtain⟨B,p2,_⟩:=sO W;cases hi:cR hd (x::R) (hd C[n]) (fl hd (hd C[n]) ((C++x::D).take n)).length with
   | zero=>rw[hi] at B;grind|succ i=>
    rw[hi] at B p2;cases ha:ap C[n] x with
    | true=>rfl|false=>have:=k 0 (i+1) x C[n] (by omega) rfl B (by rw[sy];exact ha);rw[iZ B,p2,g2,show lab hd (x::R) 0=(hd x,0) from rfl,(xA C D 0 q).1] at this;omega
  refine .cons hC (aCt sy (λh=>?_) λi j u v q0 hu hv I=>?_);have:=f h;unfold fl at this ⊢;rw[Eu] at this ⊢;rw[CZ,CZ] at this;by_cases e:hd x=h;have z:C.filter (λc=>hd c==h)=[]:=sM λc z=>by rw[<-e];exact q c z
  rw[z] at this ⊢;simpa[e] using this;simpa[e] using this;have:=k (i+1) (j+1) u v (by omega) hu hv I;rw[xB q hu,xB q hv] at this;unfold sft at this;split at this <;> split at this <;> omega
noncomputable def Coh(mk:(Nat->Nat)->Nat×Nat->α)(nx:α->Nat)(key:α->Nat×Nat):(Nat->Nat)->List α->Prop
 | _,[]=>True|p,x::L=>x=mk p (key x)/\Coh mk nx key (λh=>if h=(key x).1 then nx x else p h) L
theorem aGf{mk:(Nat->Nat)->Nat×Nat->α}{nx:α->Nat}:∀{L M:List α} {p:Nat->Nat},Coh mk nx key p L->Coh mk nx key p M->L.map key=M.map key->L=M
 | [],[],_,_,_,_=>rfl|[],_::_,_,_,_,e=>by cases e|_::_,[],_,_,_,e=>by cases e|x::L,y::M,p,h1,h2,e=>by
  injection e with e1 e2
  have:x=y:=by rw[h1.1,h2.1,e1]
  subst this;rw[aGf h1.2 h2.2 e2]
noncomputable def aOY(mk:Nat->Nat×Nat->α)(nx:α->Nat)(key:α->Nat×Nat):Nat->List α->Prop
 | _,[]=>True|p,x::L=>x=mk p (key x)/\aOY mk nx key (nx x) L
theorem aBk{mk:Nat->Nat×Nat->α}{nx:α->Nat}(B:∀a,(key a).1=hd a):∀{L:List α} {p:Nat->Nat},Coh (λp k=>mk (p k.1) k) nx key p L↔∀h,aOY mk nx key (p h) (fl hd h L)
 | [],p=>⟨λ_ _=>trivial,λ_=>trivial⟩
 | x::L,p=>by have U:=aBk (mk:=mk) (nx:=nx) B (L:=L) (p:=λh=>if h=(key x).1 then nx x else p h);constructor;rintro ⟨h1,h2⟩ h;have:=U.mp h2 h;rw[eH];by_cases e:hd x=h;rw[if_pos e];rw[if_pos (by rw[B,e])] at this;exact⟨by have h1:x=mk (p (key x).1) (key x):=h1;rwa [B,e] at h1,this⟩;grind;intro q;have I:=q (hd x);rw[eH,if_pos rfl] at I;refine⟨by have:=I.1;rw[<-B] at this;exact this,U.mpr λh=>?_⟩;by_cases e:h=(key x).1;rw[if_pos e,e,B];exact I.2;rw[if_neg e];have:=q h;rwa [eH,if_neg (by rw[<-B];grind)] at this
end
end K68
namespace Hp
abbrev Sl.F:=Sl.sh false
abbrev Sl.T:=Sl.sh true
abbrev Sl.O:=Sl.own false
abbrev Sl.x:=Sl.dead
abbrev D.i:=D.int
abbrev Es.k:=Es.cons
abbrev Es.z:=Es.nil
abbrev Ss.k:=Ss.cons
abbrev Ss.z:=Ss.nil
end Hp
namespace K68
open Hp
abbrev eC0:E:=.c (.i 0)
abbrev eC1:E:=.c (.i 1)
abbrev eC2:E:=.c (.i 2)
abbrev eC3:E:=.c (.i 3)
abbrev eC4:E:=.c (.i 4)
abbrev eC5:E:=.c (.i 5)
abbrev eC6:E:=.c (.i 6)
abbrev eC7:E:=.c (.i 7)
abbrev eC8:E:=.c (.i 8)
abbrev eC9:E:=.c (.i 9)
abbrev aDL:E:=.c (.i 10)
abbrev zX:E:=.c (.i 11)
abbrev aGg:E:=.c (.i 12)
abbrev aOZ:E:=.c (.i 13)
abbrev aGh:E:=.c (.i 14)
abbrev aRd:E:=.c (.i 21)
abbrev aPa:E:=.c (.i 24)
abbrev aPb:E:=.c (.i 30)
abbrev aRe:E:=.c (.i 40)
abbrev aRf:E:=.c (.i 99)
abbrev aMk:E:=.c (.i 1000)
abbrev aCu:E:=.c (.i 48271)
abbrev nS:E:=.c (.i 2147483647)
abbrev eV0:E:=.v 0
abbrev eV1:E:=.v 1
abbrev eV2:E:=.v 2
abbrev eV3:E:=.v 3
abbrev eV4:E:=.v 4
abbrev eV5:E:=.v 5
abbrev eV6:E:=.v 6
abbrev eV7:E:=.v 7
abbrev eV8:E:=.v 8
abbrev eV9:E:=.v 9
abbrev mR:E:=.v 10
abbrev nT:E:=.v 11
abbrev zY:E:=.v 12
abbrev aRg:E:=.v 13
abbrev eCn:E:=.c .non
abbrev eL1(a:E):Es:=.k a .z
abbrev eL2(a b:E):Es:=.k a (.k b .z)
abbrev eL3(a b c:E):Es:=.k a (.k b (.k c .z))
abbrev eL4(a b c d:E):Es:=.k a (.k b (.k c (.k d .z)))
abbrev eL5(a b c d e:E):Es:=.k a (.k b (.k c (.k d (.k e .z))))
noncomputable def f0:Hp.Fn:=⟨3,6,
 (.k (.set (.n 3) (.idx eV0 eC0))
 (.k (.iff (.cmp .Eq eV3 (.c (.str "number")))
  (.k (.ret (.idx eV0 eC1))
  .z)
  .z)
 (.k (.iff (.cmp .Eq eV3 (.c (.str "box")))
  (.k (.ret (.idx eV1 (.idx eV0 eC1)))
  .z)
  .z)
 (.k (.iff (.cmp .Eq eV3 (.c (.str "after")))
  (.k (.ret (.idx eV2 (.idx eV0 eC1)))
  .z)
  .z)
 (.k (.set (.n 4) (.call 0 (eL3 (.idx eV0 eC1) eV1 eV2)))
 (.k (.set (.n 5) (.call 0 (eL3 (.idx eV0 eC2) eV1 eV2)))
 (.k (.ret (.ife (.cmp .Eq eV3 (.c (.str "plus"))) (.op .Add eV4 eV5) (.op .Sub eV4 eV5)))
 .z)))))))⟩
noncomputable def f1:Hp.Fn:=⟨3,6,
 (.k (.set (.n 3) (.idx eV0 eC0))
 (.k (.iff (.cmp .Eq eV3 (.c (.str "yes")))
  (.k (.ret (.c (.bl true)))
  .z)
  .z)
 (.k (.iff (.cmp .Eq eV3 (.c (.str "not")))
  (.k (.ret (.nt (.call 1 (eL3 (.idx eV0 eC1) eV1 eV2))))
  .z)
  .z)
 (.k (.iff (.cmp .Eq eV3 (.c (.str "both")))
  (.k (.ret (.an (.call 1 (eL3 (.idx eV0 eC1) eV1 eV2)) (.call 1 (eL3 (.idx eV0 eC2) eV1 eV2))))
  .z)
  .z)
 (.k (.iff (.cmp .Eq eV3 (.c (.str "either")))
  (.k (.ret (.orr (.call 1 (eL3 (.idx eV0 eC1) eV1 eV2)) (.call 1 (eL3 (.idx eV0 eC2) eV1 eV2))))
  .z)
  .z)
 (.k (.set (.n 4) (.call 0 (eL3 (.idx eV0 eC1) eV1 eV2)))
 (.k (.set (.n 5) (.call 0 (eL3 (.idx eV0 eC2) eV1 eV2)))
 (.k (.ret (.ife (.cmp .Eq eV3 (.c (.str "is"))) (.cmp .Eq eV4 eV5) (.cmp .Lt eV4 eV5)))
 .z))))))))⟩
noncomputable def f2:Hp.Fn:=⟨3,7,
 (.k (.iff (.nt (.call 1 (eL3 (.idx eV1 eC0) eV2 eCn)))
  (.k (.ret eCn)
  .z)
  .z)
 (.k (.set (.n 3) (.bi .list (eL1 eV2)))
 (.k (.for (.t [4,5]) (.seq (.idx eV1 eC1))
  (.k (.set (.n 6) (.call 0 (eL3 eV5 eV2 eCn)))
  (.k (.iff (.nt (.cmp2 .LtE .LtE eC0 eV6 (.idx (.idx eV0 eV4) eC1)))
   (.k (.ret eCn)
   .z)
   .z)
  (.k (.setIx 3 eV4 eV6)
  .z))))
 (.k (.ret (.bi .tuple (eL1 eV3)))
 .z))))⟩
noncomputable def f3:Hp.Fn:=⟨1,2,
 (.k (.iff (.orr (.nt (.isi eV0 [.tList])) (.nt (.cmp2 .LtE .LtE eC1 (.bi .len (eL1 eV0)) eC5)))
  (.k (.rse 4 false (eL1 (.c (.str "boxes are a list of one to five tuples (name, top)"))))
  .z)
  .z)
 (.k (.set (.n 1) (.comp 1 [] (.n 0) (.seq eV0) .z (.call 4 (eL1 eV0))))
 (.k (.iff (.cmp .Lt (.numset (.comp 2 [] (.t [0,1]) (.seq eV1) .z eV0)) (.bi .len (eL1 eV1)))
  (.k (.rse 4 false (eL1 (.c (.str "no two boxes have the same name"))))
  .z)
  .z)
 (.k (.iff (.cmp .Gt (.call 6 (eL1 eV1)) aPa)
  (.k (.rse 2 false (eL1 (.c (.str "boxes have at most twenty-four stands"))))
  .z)
  .z)
 (.k (.retv 1)
 .z)))))⟩
noncomputable def f4:Hp.Fn:=⟨1,1,
 (.k (.iff (.orr (.nt (.isi eV0 [.tTuple])) (.cmp .NotEq (.bi .len (eL1 eV0)) eC2))
  (.k (.rse 4 false (eL1 (.c (.str "a box is a tuple (name, top)"))))
  .z)
  .z)
 (.k (.iff (.nt (.call 5 (eL1 (.idx eV0 eC0))))
  (.k (.rse 4 false (eL1 (.c (.str "a box's name is a text of one to eight small letters"))))
  .z)
  .z)
 (.k (.iff (.nt (.call 15 (eL3 (.idx eV0 eC1) eC1 eC7)))
  (.k (.rse 4 false (eL1 (.c (.str "a box's top is a whole number from 1 to 7"))))
  .z)
  .z)
 (.k (.ret (.tup (eL2 (.idx eV0 eC0) (.idx eV0 eC1))))
 .z))))⟩
noncomputable def f5:Hp.Fn:=⟨1,1,
 (.k (.iff (.orr (.nt (.isi eV0 [.tStr])) (.nt (.cmp2 .LtE .LtE eC1 (.bi .len (eL1 eV0)) eC8)))
  (.k (.ret (.c (.bl false)))
  .z)
  .z)
 (.k (.ret (.bi .all (eL1 (.comp 1 [] (.n 0) (.seq eV0) .z (.cmp .In eV0 (.c (.str "abcdefghijklmnopqrstuvwxyz")))))))
 .z))⟩
noncomputable def f6:Hp.Fn:=⟨1,4,
 (.k (.set (.n 1) eC1)
 (.k (.for (.t [2,3]) (.seq eV0)
  (.k (.set (.n 1) (.op .Mult eV1 (.op .Add eV3 eC1)))
  .z))
 (.k (.retv 1)
 .z)))⟩
noncomputable def f7:Hp.Fn:=⟨1,6,
 (.k (.set (.n 1) (.lst (eL1 (.tup .z))))
 (.k (.for (.t [2,3]) (.seq eV0)
  (.k (.set (.n 4) (.lst .z))
  (.k (.for (.n 5) (.seq eV1)
   (.k (.ext 4 (.comp 1 [5] (.n 0) (.rng eC0 (.op .Add eV3 eC1)) .z (.op .Add eV1 (.tup (eL1 eV0)))))
   .z))
  (.k (.mov 1 4)
  .z))))
 (.k (.retv 1)
 .z)))⟩
noncomputable def f8:Hp.Fn:=⟨2,2,
 (.k (.iff (.orr (.nt (.isi eV1 [.tTuple])) (.cmp .NotEq (.bi .len (eL1 eV1)) (.bi .len (eL1 eV0))))
  (.k (.ret (.c (.bl false)))
  .z)
  .z)
 (.k (.ret (.bi .all (eL1 (.comp 2 [] (.t [0,1]) (.zip eV0 eV1) .z (.call 15 (eL3 eV1 eC0 (.idx eV0 eC1)))))))
 .z))⟩
noncomputable def f9:Hp.Fn:=⟨2,2,
 (.k (.ret (.comp 1 [1] (.n 0) (.seq (.call 7 (eL1 eV0))) (eL1 (.call 1 (eL3 eV1 eV0 eCn))) eV0))
 .z)⟩
noncomputable def f10:Hp.Fn:=⟨1,1,
 (.k (.ret (.sset (.comp 1 [] (.n 0) (.seq (.call 11 (eL1 eV0))) (eL1 (.cmp .Eq (.idx eV0 eC0) (.c (.str "box")))) (.idx eV0 eC1))))
 .z)⟩
noncomputable def f11:Hp.Fn:=⟨1,3,
 (.k (.set (.n 1) (.lst (eL1 eV0)))
 (.k (.for (.n 2) (.seq (.sli eV0 (eL1 eC1) .z))
  (.k (.iff (.isi eV2 [.tTuple])
   (.k (.ext 1 (.call 11 (eL1 eV2)))
   .z)
   .z)
  .z))
 (.k (.retv 1)
 .z)))⟩
noncomputable def f12:Hp.Fn:=⟨1,4,
 (.k (.set (.n 1) (.call 10 (eL1 (.idx eV0 eC0))))
 (.k (.for (.t [2,3]) (.seq (.idx eV0 eC1))
  (.k (.ext 1 (.call 10 (eL1 eV3)))
  .z))
 (.k (.ret (.sset eV1))
 .z)))⟩
noncomputable def f13:Hp.Fn:=⟨1,1,
 (.k (.ret (.comp 2 [] (.t [0,1]) (.seq (.idx eV0 eC1)) .z eV0))
 .z)⟩
noncomputable def f14:Hp.Fn:=⟨1,1,
 (.k (.ret (.an (.isi eV0 [.tInt]) (.nt (.isi eV0 [.tBool]))))
 .z)⟩
noncomputable def f15:Hp.Fn:=⟨3,3,
 (.k (.ret (.an (.call 14 (eL1 eV0)) (.cmp2 .LtE .LtE eV1 eV0 eV2)))
 .z)⟩
noncomputable def f16:Hp.Fn:=⟨3,3,
 (.k (.ex (.call 18 (eL5 eV0 (.c (.str "sum")) eV1 eV2 eC0)))
 (.k (.retv 1)
 .z))⟩
noncomputable def f17:Hp.Fn:=⟨3,3,
 (.k (.ex (.call 18 (eL5 eV0 (.c (.str "cond")) eV1 eV2 eC0)))
 (.k (.retv 1)
 .z))⟩
noncomputable def f18:Hp.Fn:=⟨5,8,
 (.k (.iff (.cmp .Eq eV4 aRe)
  (.k (.rse 2 false (eL1 (.c (.str "a condition or sum has at most forty parts"))))
  .z)
  .z)
 (.k (.set (.n 4) (.op .Add eV4 eC1))
 (.k (.set (.n 5) (.call 19 (eL3 eV1 eV2 eV3)))
 (.k (.for (.t [6,7]) (.zip eV5 (.sli eV2 (eL1 eC1) .z))
  (.k (.iff (.orr (.cmp .Eq eV6 (.c (.str "sum"))) (.cmp .Eq eV6 (.c (.str "cond"))))
   (.k (.set (.n 4) (.call 18 (eL5 eV0 eV6 eV7 eV3 eV4)))
   .z)
   (.k (.ex (.call 20 (eL3 eV0 eV6 eV7)))
   .z))
  .z))
 (.k (.retv 4)
 .z)))))⟩
noncomputable def f19:Hp.Fn:=⟨3,5,
 (.k (.iff (.orr (.nt (.isi eV1 [.tTuple])) (.orr (.cmp .Eq (.bi .len (eL1 eV1)) eC0) (.nt (.isi (.idx eV1 eC0) [.tStr]))))
  (.k (.rse 1 false (eL1 (.c (.str "a part is a tuple that begins with a word"))))
  .z)
  .z)
 (.k (.set (.n 3) (.idx eV1 eC0))
 (.k (.set (.n 4) (.ife (.cmp .Eq eV0 (.c (.str "sum"))) (.tget 0 eV3) (.tget 1 eV3)))
 (.k (.iff (.orr (.cmp .Is eV4 eCn) (.cmp .NotEq (.bi .len (eL1 eV1)) (.op .Add (.bi .len (eL1 eV4)) eC1)))
  (.k (.rse 1 false (eL1 (.c (.str "a part has a word that is due there, and as many things as go with it"))))
  .z)
  .z)
 (.k (.iff (.an eV2 (.cmp .Eq eV3 (.c (.str "after"))))
  (.k (.rse 1 false (eL1 (.c (.str "no after stands where a plain one is due"))))
  .z)
  .z)
 (.k (.retv 4)
 .z))))))⟩
noncomputable def f20:Hp.Fn:=⟨3,4,
 (.k (.set (.n 3) (.ife (.cmp .Eq eV1 (.c (.str "number"))) aRf (.op .Sub (.bi .len (eL1 eV0)) eC1)))
 (.k (.iff (.nt (.call 15 (eL3 eV2 eC0 eV3)))
  (.k (.rse 1 false (eL1 (.c (.str "a number is a whole one from 0 to 99, a box the number of one"))))
  .z)
  .z)
 .z))⟩
noncomputable def f21:Hp.Fn:=⟨2,2,
 (.k (.iff (.orr (.nt (.isi eV1 [.tList])) (.cmp .Gt (.bi .len (eL1 eV1)) eC8))
  (.k (.rse 3 false (eL1 (.c (.str "a hand is a list of none to eight rows"))))
  .z)
  .z)
 (.k (.ret (.comp 1 [0,1] (.n 0) (.seq eV1) .z (.call 22 (eL3 eV1 eV0 (.bi .len (eL1 eV2))))))
 .z))⟩
noncomputable def f22:Hp.Fn:=⟨3,3,
 (.k (.iff (.orr (.nt (.isi eV1 [.tList])) (.nt (.cmp2 .LtE .LtE eC1 (.bi .len (eL1 eV1)) eC4)))
  (.k (.rse 3 false (eL1 (.c (.str "a row is a list of one to four ways"))))
  .z)
  .z)
 (.k (.ret (.comp 1 [0,2] (.n 0) (.seq eV1) .z (.call 23 (eL3 eV1 eV0 eV2))))
 .z))⟩
noncomputable def f23:Hp.Fn:=⟨3,3,
 (.k (.iff (.orr (.nt (.isi eV1 [.tTuple])) (.cmp .NotEq (.bi .len (eL1 eV1)) eC3))
  (.k (.rse 3 false (eL1 (.c (.str "a way is a tuple (guard, puts, next)"))))
  .z)
  .z)
 (.k (.ex (.call 24 (eL2 eV0 (.idx eV1 eC0))))
 (.k (.ex (.call 25 (eL2 eV0 (.idx eV1 eC1))))
 (.k (.iff (.nt (.call 15 (eL3 (.idx eV1 eC2) eC0 eV2)))
  (.k (.rse 3 false (eL1 (.c (.str "a way's next is a place of the hand"))))
  .z)
  .z)
 (.k (.retv 1)
 .z)))))⟩
noncomputable def f24:Hp.Fn:=⟨2,2,
 (.k (.tryN (.k (.ex (.call 17 (eL3 eV0 eV1 (.c (.bl true)))))
  .z))
 .z)⟩
noncomputable def f25:Hp.Fn:=⟨2,4,
 (.k (.iff (.nt (.isi eV1 [.tTuple]))
  (.k (.rse 3 false (eL1 (.c (.str "puts are a tuple"))))
  .z)
  .z)
 (.k (.set (.n 2) eC0)
 (.k (.for (.n 3) (.seq eV1)
  (.k (.ex (.call 26 (eL3 eV0 eV3 eV2)))
  (.k (.set (.n 2) (.op .Add (.idx eV3 eC0) eC1))
  .z)))
 .z)))⟩
noncomputable def f26:Hp.Fn:=⟨3,3,
 (.k (.iff (.orr (.nt (.isi eV1 [.tTuple])) (.cmp .NotEq (.bi .len (eL1 eV1)) eC2))
  (.k (.rse 3 false (eL1 (.c (.str "a put is a tuple (box, sum)"))))
  .z)
  .z)
 (.k (.iff (.nt (.call 15 (eL3 (.idx eV1 eC0) eV2 (.op .Sub (.bi .len (eL1 eV0)) eC1))))
  (.k (.rse 3 false (eL1 (.c (.str "puts are of the boxes' numbers, rising, each once"))))
  .z)
  .z)
 (.k (.tryN (.k (.ex (.call 16 (eL3 eV0 (.idx eV1 eC1) (.c (.bl true)))))
  .z))
 .z)))⟩
noncomputable def f27:Hp.Fn:=⟨5,10,
 (.k (.set (.n 5) (.call 3 (eL1 eV0)))
 (.k (.set (.n 6) (.call 29 (eL3 eV5 eV1 (.c (.bl true)))))
 (.k (.set (.n 7) (.call 31 (eL2 eV5 eV2)))
 (.k (.set (.n 8) (.call 30 (eL4 eV5 eV3 (.bi .len (eL1 eV7)) (.c (.bl false)))))
 (.k (.set (.n 9) (.call 32 (eL3 eV5 eV4 eV7)))
 (.k (.iff (.cmp .Gt (.call 34 (eL2 eV5 eV7)) aMk)
  (.k (.rse 2 false (eL1 (.c (.str "stands and places of a house make at most a thousand states"))))
  .z)
  .z)
 (.k (.ret (.tup (eL5 eV5 eV6 eV7 eV8 eV9)))
 .z)))))))⟩
noncomputable def f28:Hp.Fn:=⟨2,2,
 (.k (.ret (.ife (.cmp2 .LtE .Lt eC0 eV1 (.bi .len (eL1 eV0))) (.idx eV0 eV1) (.lst .z)))
 .z)⟩
noncomputable def f29:Hp.Fn:=⟨3,3,
 (.k (.tryN (.k (.ret (.call 17 (eL3 eV0 eV1 eV2)))
  .z))
 .z)⟩
noncomputable def f30:Hp.Fn:=⟨4,4,
 (.k (.iff (.orr (.nt (.isi eV1 [.tList])) (.cmp .NotEq (.bi .len (eL1 eV1)) eV2))
  (.k (.rse 5 false (eL1 (.c (.str "there is a promise for each hand, and a note for each of its places"))))
  .z)
  .z)
 (.k (.ret (.comp 1 [0,3] (.n 0) (.seq eV1) .z (.call 29 (eL3 eV1 eV0 eV2))))
 .z))⟩
noncomputable def f31:Hp.Fn:=⟨2,2,
 (.k (.iff (.orr (.nt (.isi eV1 [.tList])) (.nt (.cmp2 .LtE .LtE eC1 (.bi .len (eL1 eV1)) eC3)))
  (.k (.rse 5 false (eL1 (.c (.str "a house has a list of one to three hands"))))
  .z)
  .z)
 (.k (.tryN (.k (.ret (.comp 1 [0] (.n 0) (.seq eV1) .z (.call 21 (eL2 eV1 eV0))))
  .z))
 .z))⟩
noncomputable def f32:Hp.Fn:=⟨3,3,
 (.k (.iff (.orr (.nt (.isi eV1 [.tList])) (.cmp .NotEq (.bi .len (eL1 eV1)) (.bi .len (eL1 eV2))))
  (.k (.rse 5 false (eL1 (.c (.str "there is a list of notes for each hand"))))
  .z)
  .z)
 (.k (.ret (.comp 2 [0] (.t [0,1]) (.zip eV1 eV2) .z (.call 30 (eL4 eV2 eV0 (.call 33 (eL1 eV1)) (.c (.bl true))))))
 .z))⟩
noncomputable def f33:Hp.Fn:=⟨1,1,
 (.k (.ret (.op .Add (.bi .len (eL1 eV0)) eC1))
 .z)⟩
noncomputable def f34:Hp.Fn:=⟨2,4,
 (.k (.set (.n 2) (.call 6 (eL1 eV0)))
 (.k (.for (.n 3) (.seq eV1)
  (.k (.set (.n 2) (.op .Mult eV2 (.call 33 (eL1 eV3))))
  .z))
 (.k (.retv 2)
 .z)))⟩
noncomputable def f35:Hp.Fn:=⟨3,9,
 (.k (.set (.n 3) (.idx eV2 eC0))
 (.k (.iff (.nt (.cmp2 .LtE .Lt eC0 eV3 (.bi .len (eL1 (.idx eV0 eC2)))))
  (.k (.ret eCn)
  .z)
  .z)
 (.k (.set (.n 4) (.idx eV1 eC0))
 (.k (.set (.n 5) (.idx eV1 eC1))
 (.k (.set (.n 6) (.call 28 (eL2 (.idx (.idx eV0 eC2) eV3) (.idx eV5 eV3))))
 (.k (.iff (.nt (.cmp2 .LtE .Lt eC0 (.idx eV2 eC1) (.bi .len (eL1 eV6))))
  (.k (.ret eCn)
  .z)
  .z)
 (.k (.set (.n 7) (.idx eV6 (.idx eV2 eC1)))
 (.k (.set (.n 8) (.call 2 (eL3 (.idx eV0 eC0) eV7 eV4)))
 (.k (.iff (.cmp .Is eV8 eCn)
  (.k (.ret eCn)
  .z)
  .z)
 (.k (.ret (.tup (eL2 eV8 (.op .Add (.op .Add (.sli eV5 .z (eL1 eV3)) (.tup (eL1 (.idx eV7 eC2)))) (.sli eV5 (eL1 (.op .Add eV3 eC1)) .z)))))
 .z))))))))))⟩
noncomputable def f36:Hp.Fn:=⟨3,7,
 (.k (.iff (.orr (.nt (.call 8 (eL2 (.idx eV0 eC0) eV1))) (.nt (.call 1 (eL3 (.idx eV0 eC1) eV1 eCn))))
  (.k (.rse 6 false (eL1 (.c (.str "a start is a stand of the boxes at which begin holds"))))
  .z)
  .z)
 (.k (.set (.n 3) (.call 37 (eL2 eV0 eV1)))
 (.k (.set (.n 4) (.lst (eL1 eV3)))
 (.k (.for (.t [5,6]) (.enum eV2)
  (.k (.set (.n 3) (.call 35 (eL3 eV0 eV3 eV6)))
  (.k (.iff (.cmp .Is eV3 eCn)
   (.k (.rse 7 true (eL1 eV5))
   .z)
   .z)
  (.k (.app 4 eV3)
  .z))))
 (.k (.retv 4)
 .z)))))⟩
noncomputable def f37:Hp.Fn:=⟨2,2,
 (.k (.ret (.tup (eL2 eV1 (.bi .tuple (eL1 (.comp 1 [] (.n 0) (.seq (.idx eV0 eC2)) .z eC0))))))
 .z)⟩
noncomputable def f38:Hp.Fn:=⟨3,4,
 (.k (.set (.n 3) (.call 36 (eL3 eV0 eV1 eV2)))
 (.k (.ret (.comp 2 [] (.t [0,1]) (.zip eV2 eV3) .z (.tup (eL3 (.idx eV0 eC0) (.idx (.idx eV1 eC1) (.idx eV0 eC0)) (.idx eV0 eC1)))))
 .z))⟩
noncomputable def f39:Hp.Fn:=⟨3,7,
 (.k (.set (.n 3) (.comp 2 [0] (.t [0,1]) (.zip eV2 (.call 38 (eL3 eV0 eV1 eV2))) .z (.tup (eL2 eV0 (.call 40 (eL2 eV2 eV1))))))
 (.k (.set (.n 4) (.lst .z))
 (.k (.set (.n 5) (.lst .z))
 (.k (.whl eV3
  (.k (.set (.n 6) (.call 55 (eL1 eV3)))
  (.k (.ext 5 (.comp 1 [4] (.n 0) (.dwn (.op .Sub eV6 eC1)) .z (.op .Add (.bi .len (eL1 eV1)) eV0)))
  (.k (.appPop 4 3 eV6 0)
  .z))))
 (.k (.ret (.tup (eL2 eV4 eV5)))
 .z)))))⟩
noncomputable def f40:Hp.Fn:=⟨2,3,
 (.k (.set (.n 2) (.idx (.call 28 (eL2 (.idx (.idx eV0 eC2) (.idx eV1 eC0)) (.idx eV1 eC1))) (.idx eV1 eC2)))
 (.k (.ret (.tup (eL3 (.idx eV1 eC0) (.call 13 (eL1 eV2)) (.op .Add (.call 12 (eL1 eV2)) (.call 13 (eL1 eV2))))))
 .z))⟩
noncomputable def f41:Hp.Fn:=⟨2,2,
 (.k (.ret (.an (.cmp .NotEq (.idx eV0 eC0) (.idx eV1 eC0)) (.an (.nt (.call 42 (eL2 (.idx eV0 eC1) (.idx eV1 eC2)))) (.nt (.call 42 (eL2 (.idx eV1 eC1) (.idx eV0 eC2)))))))
 .z)⟩
noncomputable def f42:Hp.Fn:=⟨2,2,
 (.k (.ret (.bi .any (eL1 (.comp 1 [1] (.n 0) (.seq eV0) .z (.cmp .In eV0 eV1)))))
 .z)⟩
noncomputable def f43:Hp.Fn:=⟨2,5,
 (.k (.set (.n 2) (.lst .z))
 (.k (.set (.n 3) (.op .Add (.op .Mod eV0 nS) aCu))
 (.k (.for (.n 4) (.rng eC0 (.op .Add eV1 eC1))
  (.k (.set (.n 3) (.op .Mod (.op .Add (.op .Add (.op .Mult eV3 eV3) (.op .Mult aCu eV3)) eV4) nS))
  (.k (.app 2 eV3)
  .z)))
 (.k (.ret (.sli eV2 (eL1 eC1) .z))
 .z))))⟩
noncomputable def f44:Hp.Fn:=⟨4,4,
 (.k (.iff (.cmp .Eq eV2 eC0)
  (.k (.ret (.idx (.lst (eL3 (.lst (eL1 eC0)) (.lst (eL2 eC1 eC2)) (.lst (eL1 eC0)))) eV1))
  .z)
  .z)
 (.k (.iff (.cmp .Eq (.op .Mod eV0 eC4) eC0)
  (.k (.ret (.comp 1 [] (.n 0) (.rng eC0 eV3) .z eV0))
  .z)
  .z)
 (.k (.iff (.cmp .Eq (.op .Mod eV0 eC4) eC1)
  (.k (.ret (.lst (eL1 eV1)))
  .z)
  .z)
 (.k (.iff (.cmp .Eq (.op .Mod eV0 eC4) eC2)
  (.k (.ret (.idx (.lst (eL3 (.lst (eL1 eC0)) (.lst (eL2 eC1 eC2)) (.lst (eL1 eC0)))) eV1))
  .z)
  .z)
 (.k (.ret (.lst (eL2 eV1 eC2)))
 .z)))))⟩
noncomputable def f45:Hp.Fn:=⟨3,9,
 (.k (.set (.n 3) (.idx eV2 (.op .Mod (.idx eV0 eC0) (.bi .len (eL1 eV2)))))
 (.k (.set (.n 4) (.tup (eL2 (.c (.str "number")) (.op .Mod (.idx eV0 eC1) eC3))))
 (.k (.set (.n 5) (.tup (eL3 (.idx (.lst (eL2 (.c (.str "is")) (.c (.str "less")))) (.op .Mod (.idx eV0 eC2) eC2)) (.tup (eL2 (.c (.str "box")) eV3)) eV4)))
 (.k (.set (.n 6) (.tup (eL2 (.c (.str "box")) (.idx eV2 (.op .Mod (.op .FloorDiv (.idx eV0 eC1) eC3) (.bi .len (eL1 eV2)))))))
 (.k (.set (.n 7) (.lst (eL5 (.tup (eL1 (.c (.str "yes")))) (.tup (eL1 (.c (.str "yes")))) (.tup (eL1 (.c (.str "yes")))) eV5 (.tup (eL2 (.c (.str "not")) eV5)))))
 (.k (.set (.n 8) (.tup (eL3 (.c (.str "is")) (.tup (eL3 (.c (.str "minus")) eV6 (.tup (eL2 (.c (.str "box")) eV3)))) (.tup (eL2 (.c (.str "number")) eC0)))))
 (.k (.app 7 (.tup (eL3 (.c (.str "either")) eV5 eV8)))
 (.k (.set (.n 8) (.tup (eL3 (.c (.str "less")) eV6 (.tup (eL3 (.c (.str "plus")) (.tup (eL2 (.c (.str "box")) eV3)) (.tup (eL2 (.c (.str "number")) eC1)))))))
 (.k (.ret (.idx (.op .Add eV7 (.lst (eL1 (.tup (eL3 (.c (.str "both")) eV8 (.tup (eL2 (.c (.str "not")) eV5))))))) (.op .Mod (.idx eV0 eC3) eC7)))
 .z)))))))))⟩
noncomputable def f46:Hp.Fn:=⟨3,9,
 (.k (.set (.n 3) (.lst .z))
 (.k (.for (.n 4) (.rng eC0 (.op .Mod (.idx eV0 eC0) eC3))
  (.k (.set (.n 5) (.idx eV2 (.op .Mod (.idx eV0 (.op .Add eC1 eV4)) (.bi .len (eL1 eV2)))))
  (.k (.set (.n 6) (.tup (eL2 (.c (.str "number")) (.idx (.idx eV1 eV5) eC1))))
  (.k (.set (.n 7) (.tup (eL2 (.c (.str "box")) (.idx eV2 (.op .Mod (.idx eV0 (.op .Add eC3 eV4)) (.bi .len (eL1 eV2)))))))
  (.k (.set (.n 8) (.lst (eL2 (.tup (eL3 (.c (.str "minus")) eV6 (.tup (eL2 (.c (.str "box")) eV5)))) (.tup (eL2 (.c (.str "number")) (.op .Mod (.idx eV0 (.op .Add eC3 eV4)) eC2))))))
  (.k (.set (.n 8) (.op .Add eV8 (.lst (eL2 eV7 (.tup (eL3 (.c (.str "plus")) eV7 (.tup (eL2 (.c (.str "number")) eC0))))))))
  (.k (.iff (.orr (.cmp .Eq (.bi .len (eL1 eV3)) eC0) (.cmp .Lt (.idx (.idx eV3 (.neg eC1)) eC0) eV5))
   (.k (.app 3 (.tup (eL2 eV5 (.idx eV8 (.op .Mod (.idx eV0 (.op .Add eC5 eV4)) eC4)))))
   .z)
   .z)
  .z)))))))
 (.k (.ret (.bi .tuple (eL1 eV3)))
 .z)))⟩
noncomputable def f47:Hp.Fn:=⟨5,14,
 (.k (.set (.n 5) (.call 43 (eL2 eV0 (.op .Add eC3 (.op .Mult aGh eV3)))))
 (.k (.set (.n 6) (.call 44 (eL4 (.idx eV5 eC0) eV2 eV4 (.bi .len (eL1 eV1)))))
 (.k (.set (.n 7) (.lst .z))
 (.k (.for (.n 8) (.rng eC0 eV3)
  (.k (.set (.n 9) (.lst .z))
  (.k (.for (.n 10) (.rng eC0 (.op .Add eC1 (.op .Mod (.op .FloorDiv (.idx eV5 eC1) (.op .Add eV8 eC1)) eC4)))
   (.k (.set (.n 11) (.call 43 (eL2 (.idx eV5 (.op .Add (.op .Add eC3 (.op .Mult aGh eV8)) mR)) aGg)))
   (.k (.set (.n 12) (.op .Mod (.idx nT zX) (.op .Add eV3 (.bi .int (eL1 (.cmp .Eq (.op .Mod (.idx eV5 eC2) eC5) eC0))))))
   (.k (.set (.n 13) (.call 45 (eL3 nT eV1 eV6)))
   (.k (.app 9 (.tup (eL3 aRg (.call 46 (eL3 (.sli nT (eL1 eC4) (eL1 zX)) eV1 eV6)) zY)))
   .z)))))
  (.k (.app 7 eV9)
  .z))))
 (.k (.retv 7)
 .z)))))⟩
noncomputable def f48:Hp.Fn:=⟨1,9,
 (.k (.set (.n 1) (.call 43 (eL2 (.idx (.op .Add eV0 (.lst (eL1 eC0))) eC0) eC9)))
 (.k (.set (.n 2) (.lst (eL3 (.tup (eL2 (.c (.str "a")) (.op .Add eC1 (.op .Mod (.idx eV1 eC0) eC2)))) (.tup (eL2 (.c (.str "b")) (.op .Add eC1 (.op .Mod (.idx eV1 eC1) eC2)))) (.tup (eL2 (.c (.str "c")) eC1)))))
 (.k (.iff (.an (.cmp .Eq (.op .Add (.idx (.idx eV2 eC0) eC1) (.idx (.idx eV2 eC1) eC1)) eC2) (.cmp .Eq (.op .Mod (.idx eV1 eC6) eC3) eC0))
  (.k (.app 2 (.tup (eL2 (.c (.str "d")) (.op .Add eC1 (.op .Mod (.op .FloorDiv (.idx eV1 eC6) eC3) eC2)))))
  .z)
  .z)
 (.k (.set (.n 3) (.lst .z))
 (.k (.for (.n 4) (.rng eC0 (.op .Add eC2 (.op .Mod (.idx eV1 eC2) eC2)))
  (.k (.set (.n 5) (.op .Add eC1 (.op .Mod (.idx eV1 (.op .Add eC3 eV4)) (.idx (.lst (eL2 eC3 eC2)) (.op .Mod (.idx eV1 eC2) eC2)))))
  (.k (.set (.n 5) (.op .Mult eV5 (.bi .int (eL1 (.cmp .Gt (.op .Mod (.op .FloorDiv (.idx eV1 (.op .Add eC3 eV4)) eC6) eC9) eC0)))))
  (.k (.set (.n 6) (.op .Add (.idx (.op .Add eV0 (.lst (eL4 eC0 eC0 eC0 eC0))) (.op .Add eC1 eV4)) (.op .Mult eC7 eV4)))
  (.k (.app 3 (.call 47 (eL5 eV6 eV2 eV4 eV5 (.op .Mod (.idx eV1 eC8) eC3))))
  .z)))))
 (.k (.set (.n 7) (.idx (.lst (eL2 (.tup (eL1 (.c (.str "yes")))) (.tup (eL3 (.c (.str "less")) (.tup (eL2 (.c (.str "box")) eC0)) (.tup (eL2 (.c (.str "number")) eC1)))))) (.op .Mod (.idx eV1 eC7) eC2)))
 (.k (.set (.n 8) (.comp 1 [] (.n 0) (.seq eV3) .z (.op .Mult (.lst (eL1 (.tup (eL1 (.c (.str "yes")))))) (.op .Add (.bi .len (eL1 eV0)) eC1))))
 (.k (.ret (.call 27 (eL5 eV2 eV7 eV3 (.comp 1 [] (.n 0) (.seq eV3) .z (.tup (eL1 (.c (.str "yes"))))) eV8)))
 .z))))))))⟩
noncomputable def f49:Hp.Fn:=⟨2,3,
 (.k (.set (.n 2) (.call 9 (eL2 (.idx eV1 eC0) (.idx eV1 eC1))))
 (.k (.ret (.idx eV2 (.op .Mod (.idx (.call 43 (eL2 (.idx (.op .Add eV0 (.lst (eL1 eC0))) eC0) aDL)) eC9) (.bi .len (eL1 eV2)))))
 .z))⟩
noncomputable def f50:Hp.Fn:=⟨2,5,
 (.k (.set (.n 2) (.lst .z))
 (.k (.for (.n 3) (.rng eC0 (.bi .len (eL1 (.idx eV0 eC2))))
  (.k (.for (.n 4) (.rng eC0 eC4)
   (.k (.iff (.cmp .IsNot (.call 35 (eL3 eV0 eV1 (.tup (eL2 eV3 eV4)))) eCn)
    (.k (.app 2 (.tup (eL2 eV3 eV4)))
    .z)
    .z)
   .z))
  .z))
 (.k (.retv 2)
 .z)))⟩
noncomputable def f51:Hp.Fn:=⟨5,11,
 (.k (.set (.n 5) (.tup (eL2 eV2 (.bi .tuple (eL1 (.comp 1 [] (.n 0) (.seq (.idx eV1 eC2)) .z eC0))))))
 (.k (.set (.n 6) (.lst .z))
 (.k (.for (.n 7) (.rng eC0 eV4)
  (.k (.set (.n 8) (.call 50 (eL2 eV1 eV5)))
  (.k (.iff (.cmp .NotEq eV8 (.lst .z))
   (.k (.set (.n 9) (.op .Add (.op .Mult zX eV7) (.bi .len (eL1 eV0))))
   (.k (.iff (.cmp .Lt (.op .Add eV3 eV7) (.bi .len (eL1 eV0)))
    (.k (.set (.n 9) (.idx eV0 (.op .Add eV3 eV7)))
    .z)
    .z)
   (.k (.set (.n 10) (.idx eV8 (.op .Mod (.idx (.call 43 (eL2 eV9 eC1)) eC0) (.bi .len (eL1 eV8)))))
   (.k (.app 6 mR)
   (.k (.set (.n 5) (.call 35 (eL3 eV1 eV5 mR)))
   .z)))))
   .z)
  .z)))
 (.k (.retv 6)
 .z))))⟩
noncomputable def f52:Hp.Fn:=⟨1,3,
 (.k (.iff (.cmp .Eq (.idx eV0 eC0) (.c (.str "box")))
  (.k (.ret (.lst (eL1 (.idx eV0 eC1))))
  .z)
  .z)
 (.k (.set (.n 1) (.lst .z))
 (.k (.for (.n 2) (.seq (.sli eV0 (eL1 eC1) .z))
  (.k (.iff (.isi eV2 [.tTuple])
   (.k (.set (.n 1) (.op .Add eV1 (.call 52 (eL1 eV2))))
   .z)
   .z)
  .z))
 (.k (.retv 1)
 .z))))⟩
noncomputable def f53:Hp.Fn:=⟨2,6,
 (.k (.set (.n 2) (.idx (.idx (.idx (.idx eV0 eC2) (.idx eV1 eC0)) (.idx eV1 eC1)) (.idx eV1 eC2)))
 (.k (.set (.n 3) (.call 52 (eL1 (.idx eV2 eC0))))
 (.k (.for (.t [4,5]) (.seq (.idx eV2 eC1))
  (.k (.set (.n 3) (.op .Add eV3 (.call 52 (eL1 eV5))))
  .z))
 (.k (.ret (.tup (eL2 eV3 (.comp 2 [] (.t [0,1]) (.seq (.idx eV2 eC1)) .z eV0))))
 .z))))⟩
noncomputable def f54:Hp.Fn:=⟨3,6,
 (.k (.set (.n 3) (.call 53 (eL2 eV0 eV1)))
 (.k (.set (.n 4) (.call 53 (eL2 eV0 eV2)))
 (.k (.set (.n 5) (.comp 1 [4] (.n 0) (.seq (.idx eV3 eC1)) (eL1 (.cmp .In eV0 (.op .Add (.idx eV1 eC0) (.idx eV1 eC1)))) eV0))
 (.k (.set (.n 5) (.op .Add eV5 (.comp 1 [3] (.n 0) (.seq (.idx eV4 eC1)) (eL1 (.cmp .In eV0 (.idx eV1 eC0))) eV0)))
 (.k (.ret (.an (.cmp .NotEq (.idx eV1 eC0) (.idx eV2 eC0)) (.cmp .Eq eV5 (.lst .z))))
 .z)))))⟩
noncomputable def f55:Hp.Fn:=⟨1,3,
 (.k (.set (.n 1) eC0)
 (.k (.for (.n 2) (.rng eC1 (.bi .len (eL1 eV0)))
  (.k (.iff (.an (.cmp .Lt (.idx (.idx eV0 eV2) eC0) (.idx (.idx eV0 eV1) eC0)) (.call 56 (eL2 eV0 eV2)))
   (.k (.mov 1 2)
   .z)
   .z)
  .z))
 (.k (.retv 1)
 .z)))⟩
noncomputable def f56:Hp.Fn:=⟨2,2,
 (.k (.ret (.bi .all (eL1 (.comp 2 [0,1] (.t [0,1]) (.seq (.sli eV0 .z (eL1 eV1))) .z (.call 41 (eL2 (.idx (.idx eV2 eV3) eC1) eV1))))))
 .z)⟩
noncomputable def f57:Hp.Fn:=⟨4,6,
 (.k (.set (.n 4) (.call 39 (eL3 eV0 eV1 eV2)))
 (.k (.set (.n 5) (.call 39 (eL3 eV0 eV1 eV3)))
 (.k (.ret (.cmp .Eq (.idx eV4 eC0) (.idx eV5 eC0)))
 .z)))⟩
noncomputable def f58:Hp.Fn:=⟨3,8,
 (.k (.set (.n 3) (.call 36 (eL3 eV0 eV1 eV2)))
 (.k (.set (.n 4) (.lst .z))
 (.k (.for (.n 5) (.rng eC0 (.bi .len (eL1 eV2)))
  (.k (.set (.t [6,7]) (.idx eV2 eV5))
  (.k (.app 4 (.tup (eL3 eV6 (.idx (.idx (.idx eV3 eV5) eC1) eV6) eV7)))
  .z)))
 (.k (.retv 4)
 .z))))⟩
noncomputable def f59:Hp.Fn:=⟨4,7,
 (.k (.set (.n 4) (.call 58 (eL3 eV0 eV1 eV2)))
 (.k (.for (.n 5) (.seq (.call 43 (eL2 eV3 aPb)))
  (.k (.set (.n 6) (.op .Mod eV5 (.bi .max (eL2 eC1 (.op .Sub (.bi .len (eL1 eV4)) eC1)))))
  (.k (.iff (.an (.cmp .Gt (.bi .len (eL1 eV4)) eC1) (.call 54 (eL3 eV0 (.idx eV4 eV6) (.idx eV4 (.op .Add eV6 eC1)))))
   (.k (.set (.n 4) (.op .Add (.op .Add (.sli eV4 .z (eL1 eV6)) (.lst (eL2 (.idx eV4 (.op .Add eV6 eC1)) (.idx eV4 eV6)))) (.sli eV4 (eL1 (.op .Add eV6 eC2)) .z)))
   .z)
   .z)
  .z)))
 (.k (.ret (.comp 3 [] (.t [0,1,2]) (.seq eV4) .z (.tup (eL2 eV0 eV2))))
 .z)))⟩
noncomputable def f60:Hp.Fn:=⟨4,13,
 (.k (.set (.n 4) (.call 43 (eL2 eV3 (.op .Add (.bi .len (eL1 eV2)) eC1))))
 (.k (.set (.n 5) (.tup (eL2 eV1 (.bi .tuple (eL1 (.comp 1 [] (.n 0) (.seq (.idx eV0 eC2)) .z eC0))))))
 (.k (.new2 6)
 (.k (.for (.n 7) (.rng eC0 eC3)
  (.k (.app2 6 (.comp 1 [7] (.n 0) (.seq eV2) (eL1 (.cmp .Eq (.idx eV0 eC0) eV1)) eV0))
  .z))
 (.k (.set (.n 8) (.lst .z))
 (.k (.for (.n 9) (.seq eV4)
  (.k (.set (.n 10) (.lst .z))
  (.k (.pick 10 11 6 (.an (.cmp .NotEq nT (.lst .z)) (.cmp .IsNot (.call 35 (eL3 eV0 eV5 (.idx nT eC0))) eCn)))
  (.k (.iff (.cmp .NotEq mR (.lst .z))
   (.k (.set (.n 12) (.idx mR (.op .Mod eV9 (.bi .len (eL1 mR)))))
   (.k (.pop2 6 (.idx zY eC0))
   (.k (.app 8 zY)
   (.k (.set (.n 5) (.call 35 (eL3 eV0 eV5 zY)))
   .z))))
   .z)
  .z))))
 (.k (.retv 8)
 .z)))))))⟩
noncomputable def f61:Hp.Fn:=⟨4,6,
 (.k (.set (.n 4) (.call 43 (eL2 (.idx (.op .Add eV0 (.lst (eL1 eC0))) eC0) aOZ)))
 (.k (.iff (.cmp .Eq (.op .Mod (.idx eV4 aDL) eC4) eC0)
  (.k (.ret (.call 59 (eL4 eV1 eV2 eV3 (.idx eV4 zX))))
  .z)
  .z)
 (.k (.iff (.cmp .Eq (.op .Mod (.idx eV4 aDL) eC4) eC1)
  (.k (.ret (.call 60 (eL4 eV1 eV2 eV3 (.idx eV4 zX))))
  .z)
  .z)
 (.k (.iff (.cmp .Eq (.op .Mod (.idx eV4 aDL) eC4) eC2)
  (.k (.ret (.call 51 (eL5 (.op .Add (.sli eV0 (eL1 eC2) .z) (.lst (eL1 (.idx eV4 aGg)))) eV1 eV2 eC3 (.bi .len (eL1 eV3)))))
  .z)
  .z)
 (.k (.set (.n 5) (.call 59 (eL4 eV1 eV2 eV3 (.idx eV4 zX))))
 (.k (.ret (.sli eV5 .z (eL1 (.op .Sub (.bi .len (eL1 eV3)) (.op .Mod (.idx eV4 aGg) eC2)))))
 .z))))))⟩
noncomputable def f62:Hp.Fn:=⟨1,4,
 (.k (.set (.n 1) (.lst .z))
 (.k (.set (.n 2) (.lst (eL3 eC0 eC0 eC0)))
 (.k (.for (.n 3) (.seq eV0)
  (.k (.app 1 (.tup (eL2 (.idx eV3 eC0) (.idx eV2 (.idx eV3 eC0)))))
  (.k (.setIx 2 (.idx eV3 eC0) (.op .Add (.idx eV2 (.idx eV3 eC0)) eC1))
  .z)))
 (.k (.retv 1)
 .z))))⟩
noncomputable def f63:Hp.Fn:=⟨3,10,
 (.k (.for (.n 3) (.rng eC0 eC3)
  (.k (.set (.n 4) (.comp 1 [3] (.n 0) (.seq eV1) (eL1 (.cmp .Eq (.idx eV0 eC0) eV1)) eV0))
  (.k (.iff (.cmp .NotEq eV4 (.comp 1 [3] (.n 0) (.seq eV2) (eL1 (.cmp .Eq (.idx eV0 eC0) eV1)) eV0))
   (.k (.ret (.c (.bl false)))
   .z)
   .z)
  .z)))
 (.k (.dnew 5)
 (.k (.set (.n 6) (.call 62 (eL1 eV2)))
 (.k (.for (.n 7) (.rng eC0 (.bi .len (eL1 eV2)))
  (.k (.dpv 5 (.idx eV6 eV7) eV7)
  .z))
 (.k (.set (.n 6) (.call 62 (eL1 eV1)))
 (.k (.for (.n 8) (.rng eC0 (.bi .len (eL1 eV1)))
  (.k (.for (.n 9) (.rng eC0 eV8)
   (.k (.iff (.nt (.call 54 (eL3 eV0 (.idx eV1 eV9) (.idx eV1 eV8))))
    (.k (.iff (.cmp .Gt (.dget 5 (.idx eV6 eV9)) (.dget 5 (.idx eV6 eV8)))
     (.k (.ret (.c (.bl false)))
     .z)
     .z)
    .z)
    .z)
   .z))
  .z))
 (.k (.ret (.c (.bl true)))
 .z)))))))⟩
noncomputable def f64:Hp.Fn:=⟨1,12,
 (.k (.set (.n 1) (.call 48 (eL1 eV0)))
 (.k (.set (.n 2) (.call 49 (eL2 eV0 eV1)))
 (.k (.set (.n 3) (.call 51 (eL5 eV0 eV1 eV2 eC4 (.op .Mod (.idx (.call 43 (eL2 (.idx (.op .Add eV0 (.lst (eL1 eC0))) eC0) aGh)) aOZ) aRd))))
 (.k (.set (.n 4) (.call 61 (eL4 eV0 eV1 eV2 eV3)))
 (.k (.set (.n 5) (.comp 1 [1,2] (.n 0) (.seq (.lst (eL2 eV3 eV4))) .z (.call 58 (eL3 eV1 eV2 eV0))))
 (.k (.set (.n 6) (.call 63 (eL3 eV1 (.idx eV5 eC0) (.idx eV5 eC1))))
 (.k (.set (.n 7) (.lst (eL2 (.bi .list (eL1 eV3)) (.bi .list (eL1 eV4)))))
 (.k (.for (.t [8,9]) (.seq (.lst (eL2 (.tup (eL2 eC0 eC1)) (.tup (eL2 eC1 eC0)))))
  (.k (.set (.n 10) (.call 57 (eL4 eV1 eV2 (.idx eV7 eV8) (.idx eV7 eV9))))
  (.k (.iff (.orr (.nt (.isi mR [.tBool])) (.cmp .NotEq mR eV6))
   (.k (.ret (.c (.bl false)))
   .z)
   .z)
  .z)))
 (.k (.iff (.orr (.cmp .NotEq eV7 (.lst (eL2 eV3 eV4))) (.nt (.call 57 (eL4 eV1 eV2 eV3 (.idx eV7 eC0)))))
  (.k (.ret (.c (.bl false)))
  .z)
  .z)
 (.k (.set (.n 11) (.comp 1 [1,2] (.n 0) (.seq eV7) .z (.idx (.call 39 (eL3 eV1 eV2 eV0)) eC0)))
 (.k (.ret (.cmp .Eq (.cmp .Eq (.idx nT eC0) (.idx nT eC1)) eV6))
 .z)))))))))))⟩
noncomputable def pg:Hp.Pg:=⟨[f0,f1,f2,f3,f4,f5,f6,f7,f8,f9,f10,f11,f12,f13,f14,f15,f16,f17,f18,f19,f20,f21,f22,f23,f24,f25,f26,f27,f28,f29,f30,f31,f32,f33,f34,f35,f36,f37,f38,f39,f40,f41,f42,f43,f44,f45,f46,f47,f48,f49,f50,f51,f52,f53,f54,f55,f56,f57,f58,f59,f60,f61,f62,f63,f64],[[("number",.tup [.str "number"]),("box",.tup [.str "box"]),("after",.tup [.str "box"]),("plus",.tup [.str "sum",.str "sum"]),("minus",.tup [.str "sum",.str "sum"])],[("yes",.tup []),("is",.tup [.str "sum",.str "sum"]),("less",.tup [.str "sum",.str "sum"]),("not",.tup [.str "cond"]),("both",.tup [.str "cond",.str "cond"]),("either",.tup [.str "cond",.str "cond"])]]⟩
abbrev cP:=call pg
end K68
namespace K68
open Hp HpS PySem
noncomputable def drp:Nat->Ss->Ss
 | 0,s=>s|n+1,.k _ s=>drp n s|_+1,.z=>.z
noncomputable def hdS:Ss->S
 | .k s _=>s|.z=>.pass
structure Way where
 g:Cn
 ps:List (Nat×Sm)
 nx:Int
abbrev W3:=List (List (List Way))
noncomputable def eR(p:Nat×Sm):D:=.tup [.i p.1,p.2.d]
noncomputable def Way.d(w:Way):D:=.tup [w.g.d,.tup (w.ps.map eR),.i w.nx]
noncomputable def Up(ps:List (Nat×Sm)):Prop:=ps.Pairwise λp q=>p.1<q.1
structure mE (m:Nat) (p:Nat×Sm):Prop where
 box:p.1<m
 wf:p.2.wf m true
 sz:p.2.sz<=3
structure cV (m:Nat) (w:Way):Prop where
 g:w.g.wf m true
 gs:w.g.sz<=31
 ps:∀p∈w.ps,mE m p
 up:Up w.ps
theorem qG(p:Nat×Sm):noL (eR p)=true:=iX rfl p.2.noL
theorem gL(ps:List (Nat×Sm)):noLs (ps.map eR)=true:=bQ qG ps
theorem eU(w:Way):noL w.d=true:=by simp[Way.d,noL,noLs,w.g.noL,gL]
theorem aCv(i:Nat){ds:List D}(h:noLs ds=true):biD .tuple [⟨.lst ds,false,false,[i]⟩]=.ok (.cl (.tup ds)):=by show R.ok (Vl.mk (.tup ds) false (false&&!noLs ds) (if noLs ds=true then [] else [i]))=_;rw[h];rfl
theorem stp{P:Pg}{W:Caller}{Z Z':Sg}{s:S}{ss:Ss}(h:ex P W Z s=.next Z'):exs P W Z (.k s ss)=exs P W Z' ss:=by rw[eA,h,aLX]
noncomputable def gJ(bs:List (Str×Int))(k:Nat):Int:=(bs.map (·.2)).getD k 0
noncomputable def putF(bs:List (Str×Int))(st:List Int):List Int->List (Nat×Sm)->Option (List Int)
 | acc,[]=>some acc|acc,p::ps=>if 0<=p.2.val st st/\p.2.val st st<=gJ bs p.1 then putF bs st (acc.set p.1 (p.2.val st st)) ps else none
noncomputable def behF(bs:List (Str×Int))(w:Way)(st:List Int):Option (List Int):=if w.g.hold st st then putF bs st st w.ps else none
noncomputable def stD:Option (List Int)->D
 | none=>.non|some r=>aR r
theorem aMl{P:Pg}{W:Caller}{Z:Sg}{a b:E}{x y:Int}(h1:ev P W Z a=.ok (.cl (.i x)))(h2:ev P W Z b=.ok (.cl (.i y))):tst P W Z (.cmp2 .LtE .LtE eC0 a b)=.ok (decide (0<=x)&&decide (x<=y)):=by
 rw[sG,aE,aA,h1,aA,iJ,iJ,aMg];cases decide (0<=x) with
 | true=>simp_all|false=>rfl
theorem aCw{bs:List (Str×Int)}{k:Nat}(h:k<bs.length):∃b:D,noL b=true/\eK ⟨.lst (aF bs),false,true,[]⟩ (.cl (.i (k:Int)))=.ok (.cl b)/\eK (.cl b) (.cl (.i 1))=.ok (.cl (.i (gJ bs k))):=by
 refine⟨box bs[k],nP _,?_,?_⟩;have q:(aF bs).length=bs.length:=by simp[aF]
 have e:(aF bs)[k]? = some (box bs[k]):=by simp[aF,h]
 unfold eK;simp only[iJ,q,gI h,e,Vl.sub,nP,if_true];have:=gQ (.str bs[k].1) (.i bs[k].2) [] rfl;unfold box gJ;rw[this];simp[h]
theorem aGi(n:Nat){bs:List (Str×Int)}{st:List Int}(hs:st.length=bs.length){s:Sm}(w:s.wf bs.length true)(z:s.sz<=3):cP (n+3) 0 [s.d,aR st,.non]=.ok (.i (s.val st st),false,false):=by have:=jZ (P:=pg) (f:=0) rfl (ah:=st) (be:=st) (bd:=.non) (c:=bs.length) (pl:=true) hs hs rfl (λh=>nomatch h) s (n+3-s.sz) w;rwa [show n+3-s.sz+s.sz=n+3 by omega] at this
theorem sP(n:Nat){bs:List (Str×Int)}{st:List Int}(hs:st.length=bs.length){q:Cn}(w:q.wf bs.length true)(z:q.sz<=31):cP (n+31) 1 [q.d,aR st,.non]=.ok (.bl (q.hold st st),false,false):=by have:=nR (P:=pg) (v:=0) (f:=1) rfl rfl (ah:=st) (be:=st) (bd:=.non) (c:=bs.length) (pl:=true) hs hs rfl (λh=>nomatch h) q (n+31-q.sz) w;rwa [show n+31-q.sz+q.sz=n+31 by omega] at this
abbrev aGj:Ss:=match hdS (drp 2 f2.body) with|.for _ _ b=>b|_=>.z
theorem aIq{p:Nat×Sm}{s0 s1 s2 q s4 I B:Sl}:bT [s0,s1,s2,q,s4,I,B] (.cl (eR p)) (.t [4,5])=.ok [s0,s1,s2,q,.F (.i p.1),.F p.2.d,B]:=by unfold bT eR;simp only[iJ,lC,lN,if_true,AV,D3,BX,FB,dD p.2.noL,dD (show noL (.i (p.1:Int))=true from rfl),lE,lS,lZ]
theorem aGk(acc:List Int)(k:Nat)(v:Int):(acc.map D.int).set k (.i v)=(acc.set k v).map D.int:=by rw[GA]
theorem aGl(n:Nat){bs:List (Str×Int)}{st acc:List Int}(hs:st.length=bs.length)(ha:acc.length=bs.length)(hb:bs.length<=5){p:Nat×Sm}(o:mE bs.length p)(s1 s4 s5 L:Sl) :
 exs pg (cP (n+3)) [.T (.lst (aF bs)),s1,.T (aR st),.O (acc.map D.int),.F (.i p.1),.F p.2.d,L] aGj =
  if 0<=p.2.val st st/\p.2.val st st<=gJ bs p.1 then .next [.T (.lst (aF bs)),s1,.T (aR st),.O ((acc.set p.1 (p.2.val st st)).map D.int),.F (.i p.1),.F p.2.d,.F (.i (p.2.val st st))] else .ret (.cl .non):=by
 have I:=aGi n hs o.wf o.sz;generalize p.2.val st st=v at I;obtain⟨b,b1,U,b3⟩:=aCw (bs:=bs) (k:=p.1) o.box;have v2:=gY 2 true (aS st);have e1:ex pg (cP (n+3)) [.T (.lst (aF bs)),s1,.T (aR st),.O (acc.map D.int),.F (.i p.1),.F p.2.d,L] (hdS aGj)=.next [.T (.lst (aF bs)),s1,.T (aR st),.O (acc.map D.int),.F (.i p.1),.F p.2.d,.F (.i v)]:=by simp only[aGj,hdS,drp,f2,iB,gG,aM,cN,zR,aE,dI,gS,gZ,dS,v2,aA,mC,mN,iJ,I,aBf,cF,sJ,hG,aCo,lE,lS,lZ]
 have tt:=aMl (P:=pg) (W:=cP (n+3)) (Z:=[.T (.lst (aF bs)),s1,.T (aR st),.O (acc.map D.int),.F (.i p.1),.F p.2.d,.F (.i v)]) (a:=.v 6) (b:=.idx (.idx eV0 eV4) eC1) (x:=v) (y:=gJ bs p.1) rfl (by
  simp only[sC,zR,aE,dI,gS,gZ,aIl,aCm,aA,U,b3])
 refine(stp e1).trans ?_;show exs pg (cP (n+3)) _ (.k (.iff (.nt _) _ _) (.k (.setIx 3 eV4 eV6) .z))=_;by_cases q:0<=v/\v<=gJ bs p.1;have hd:(decide (0<=v)&&decide (v<=gJ bs p.1))=true:=by rw[Ak q.1,Ak q.2];rfl
 rw[if_pos q];have hx:ixN acc.length (p.1:Int)=some p.1:=gI (by rw[ha];exact o.box);have B:acc.length<=lim:=by unfold lim;omega
 simp only[eA,qB,jU,sF,tt,aA,hd,CJ,cF,bF,if_false,aLX,zT,zR,dI,gS,gZ,aCm,iJ,put,sJ,hG,iH,hx,aGk,lM,Av,B,if_true,aJt,FQ,lS,lZ];have hd:(decide (0<=v)&&decide (v<=gJ bs p.1))=false:=by
  cases h:(decide (0<=v)&&decide (v<=gJ bs p.1)) with
  | false=>rfl|true=>grind
 rw[if_neg q];simp only[eA,qB,jU,sF,tt,aA,hd,Et,cF,if_true,wP,aE,aFX]
theorem zZ(n:Nat){bs:List (Str×Int)}{st:List Int}(hs:st.length=bs.length)(U:bs.length<=5)(s1:Sl):∀(ps:List (Nat×Sm)) (acc:List Int) (s4 B I:Sl),(∀p∈ps,mE bs.length p)->acc.length=bs.length ->
 ∃t4 t5 t6,cK (λZ x=>O.from Z (bT Z x (.t [4,5])) λZ'=>exs pg (cP (n+3)) Z' aGj) (ps.map λp=>Vl.cl (eR p)) [.T (.lst (aF bs)),s1,.T (aR st),.O (acc.map D.int),s4,B,I] =
  (match putF bs st acc ps with|none=>.ret (.cl .non)|some r=>.next [.T (.lst (aF bs)),s1,.T (aR st),.O (r.map D.int),t4,t5,t6])
 | [],acc,s4,B,I,_,_=>⟨s4,B,I,rfl⟩
 | p::ps,acc,s4,B,I,h,ha=>by have o:=h p Ar;have tu:=aGl n hs ha U o s1 s4 B I;rw[mC,cK,aIq,cF,tu,putF];by_cases L:0<=p.2.val st st/\p.2.val st st<=gJ bs p.1;rw[if_pos L,if_pos L];exact zZ n hs U s1 ps (acc.set p.1 (p.2.val st st)) _ _ _ (λq W=>h q (Al _ W)) (by rw[Av];exact ha);rw[if_neg L,if_neg L];simp_all
theorem mS{v:Vl}(ps:List (Nat×Sm)):items v (ps.map eR)=ps.map λp=>Vl.cl (eR p):=cU qG ps
theorem aBl(n:Nat){bs:List (Str×Int)}{st:List Int}(hs:st.length=bs.length)(hb:bs.length<=5){w:Way}(o:cV bs.length w):cP (n+32) 2 [.lst (aF bs),w.d,aR st]=.ok (stD (behF bs w st),false,false):=by
 have ch:=sP n hs o.g o.gs;have B:=gY 1 true (eU w);have I:=gY 2 true (aS st);have U:eK (.cl w.d) (.cl (.i 0))=.ok (.cl w.g.d):=fP w.g.d _ w.g.noL;have i1:eK (.cl w.d) (.cl (.i 1))=.ok (.cl (.tup (w.ps.map eR))):=gQ w.g.d (.tup (w.ps.map eR)) _ (by rw[noL];exact gL _);refine aI (F:=f2) rfl rfl (v:=.cl (stD (behF bs w st))) ?_;show exs pg (cP (n+31)) [.T (.lst (aF bs)),.T w.d,.T (aR st),.x,.x,.x,.x] _=_;unfold behF;cases L:w.g.hold st st with
 | false=>rw[L] at ch;simp only[f2,eA,qB,jU,sF,gP,aM,cN,sC,zR,aE,dI,gS,gZ,B,I,aA,U,mC,mN,iJ,ch,aBf,aGc,Et,cF,if_true,wP,aFX,bF,if_false,stD]|true=>
  rw[L] at ch;obtain⟨t4,t5,t6,hl⟩:=zZ (n+28) hs hb (.T w.d) w.ps st .x .x .x o.ps hs;have W:ex pg (cP (n+31)) [.T (.lst (aF bs)),.T w.d,.T (aR st),.x,.x,.x,.x] (hdS f2.body)=.next [.T (.lst (aF bs)),.T w.d,.T (aR st),.x,.x,.x,.x]:=by simp only[hdS,f2,qB,jU,sF,gP,aM,cN,sC,zR,aE,dI,gS,gZ,B,I,aA,U,mC,mN,iJ,ch,aBf,aGc,CJ,cF,bF,if_false]
  have e2:ex pg (cP (n+31)) [.T (.lst (aF bs)),.T w.d,.T (aR st),.x,.x,.x,.x] (hdS (drp 1 f2.body))=.next [.T (.lst (aF bs)),.T w.d,.T (aR st),.O (st.map D.int),.x,.x,.x]:=by
   have q:biD .list [.cl (aR st)]=.ok ⟨.lst (st.map D.int),true,false,[]⟩:=by show R.ok (Vl.mk (.lst (st.map D.int)) true (false&&!noLs (st.map D.int)) (if noLs (st.map D.int)=true then [] else []))=_;rw[jV];rfl
   simp only[hdS,drp,f2,iB,aJr,aM,cN,zR,dI,gS,gZ,I,aA,q,cF,hG,aCo,aIk,lS,lZ]
  have hw:walk pg (cP (n+31)) [.T (.lst (aF bs)),.T w.d,.T (aR st),.O (st.map D.int),.x,.x,.x] (.seq (.idx eV1 eC1))=.ok (w.ps.map (λp=>Vl.cl (eR p)),[]):=by simp only[bL,sC,zR,aE,dI,gS,gZ,B,aA,i1,iJ,mS,sJ]
  refine(stp W).trans ((stp e2).trans ?_);show exs pg (cP (n+31)) _ (.k (.for (.t [4,5]) (.seq (.idx eV1 eC1)) aGj) _)=_;rw[eA,aBc,hw,cF];show(cK _ _ _).on _=_;rw[hG,hl,if_pos rfl];cases putF bs st st w.ps with
  | none=>rfl|some r=>show exs pg (cP (n+31)) [.T (.lst (aF bs)),.T w.d,.T (aR st),.O (r.map D.int),t4,t5,t6] (.k (.ret (.bi .tuple (eL1 eV3))) .z)=_;rw[eA,wP,aJr,aM,zR];simp only[dI,gS,gZ,aCn];simp only[cN,aA,aCv 3 (jV r),cF,aFX];rfl
section
variable {P:Pg} {W:Caller} {Z:Sg}
theorem kA(Z:Sg){i j:Nat}{a b:D}(q:noL a=true)(B:noL b=true):bT Z (.cl (.tup [a,b])) (.t [i,j])=.ok ((Z.set i (.F a)).set j (.F b)):=by unfold bT;simp only[iJ,lC,lN,if_true,AV,D3,BX,FB,dD q,dD B,lE]
theorem dA(Z:Sg){i:Nat}{d:D}:bT Z (.cl d) (.n i)=.ok (Z.set i (.F d)):=by rw[aCo,lE]
theorem hU{f:Nat}{a b c:E}{x y z:Vl}{k:Bool}(h1:ev P W Z a=.ok x)(h2:ev P W Z b=.ok y)(q:ev P W Z c=.ok z)(B:W f [x.d,y.d,z.d]=.ok (.bl k,false,false)):tst P W Z (.call f (.k a (.k b (.k c .z))))=.ok k:=by
 have e:evs P W Z (.k a (.k b (.k c .z)))=.ok [x,y,z]:=by rw[aM,h1,aA,aM,h2,aA,aM,q,aA,cN];rfl
 rw[gP,e,aA,show [x,y,z].map (·.d)=[x.d,y.d,z.d] from rfl,B];rfl
theorem aIr{f:Nat}{a b c e:E}{x y z w:Vl}{k:Bool}(h1:ev P W Z a=.ok x)(h2:ev P W Z b=.ok y)(q:ev P W Z c=.ok z)(B:ev P W Z e=.ok w)(I:W f [x.d,y.d,z.d,w.d]=.ok (.bl k,false,false)):tst P W Z (.call f (.k a (.k b (.k c (.k e .z)))))=.ok k:=by
 have e:evs P W Z (.k a (.k b (.k c (.k e .z))))=.ok [x,y,z,w]:=by rw[aM,h1,aA,aM,h2,aA,aM,q,aA,aM,B,aA,cN];rfl
 rw[gP,e,aA,show [x,y,z,w].map (·.d)=[x.d,y.d,z.d,w.d] from rfl,I];rfl
theorem dQ{a:E}{k:Bool}(h:tst P W Z a=.ok k):tst P W Z (.nt a)=.ok (!k):=by rw[sF,h];rfl
theorem fH{f:Nat}{a b:E}{x y:Vl}{d:D}(h1:ev P W Z a=.ok x)(h2:ev P W Z b=.ok y)(q:W f [x.d,y.d]=.ok (d,false,false)):ev P W Z (.call f (.k a (.k b .z)))=.ok (.cl d):=by
 have e:evs P W Z (.k a (.k b .z))=.ok [x,y]:=by rw[aM,h1,aA,aM,h2,aA,cN];rfl
 rw[gG,e,aA,show [x,y].map (·.d)=[x.d,y.d] from rfl,q];rfl
theorem iC{a b:E}{x y:D}(h1:ev P W Z a=.ok (.cl x))(h2:ev P W Z b=.ok (.cl y)):ev P W Z (.tup (.k a (.k b .z)))=.ok (.cl (.tup [x,y])):=by rw[sD,aM,h1,aA,aM,h2];rfl
theorem aBm{a b c:E}{x y z:D}(h1:ev P W Z a=.ok (.cl x))(h2:ev P W Z b=.ok (.cl y))(q:ev P W Z c=.ok (.cl z)):ev P W Z (.tup (.k a (.k b (.k c .z))))=.ok (.cl (.tup [x,y,z])):=by rw[sD,aM,h1,aA,aM,h2,aA,aM,q];rfl
end
theorem pK{v:Vl}{α:Type}{f:α->D}{xs:List α}{k:Nat}{x:α}(I:v.d=.lst (xs.map f))(q:xs[k]? = some x):eK v (.cl (.i (k:Int)))=.ok (Vl.sub v (f x)):=by
 have B:k<(xs.map f).length:=by rw[lM];exact(Au.mp q).1
 have e:(xs.map f)[k]? = some (f x):=by rw[Ay,q];rfl
 unfold eK;simp only[I,iJ,gI B,e]
section
variable {P:Pg} {W:Caller} {Z Z':Sg}
theorem aPc{i:Nat}{e:E}{v:Vl}{pa:Bool}{ds:List D}(h:ev P W Z e=.ok v)(hi:(freeze Z v.al)[i]? = some (.own pa ds))(q:ds.length<lim):ex P W Z (.app i e)=.next ((freeze Z v.al).set i (.own (pa||v.pa) (ds++[v.d]))):=by
 have B:(ds++[v.d]).length<=lim:=by rw[lA];exact q
 rw[aMe,h,cF];unfold put iH;rw[hi];show(if (ds++[v.d]).length<=lim then O.next _ else .bad)=_;rw[if_pos B]
theorem gC{i:Nat}{e:E}{v:Vl}{ds ds':List D}(h:ev P W Z e=.ok v)(hi:(freeze Z v.al)[i]? = some (.O ds))(B:ds.length<lim)(I:v.pa=false)(q:ds'=ds++[v.d]):ex P W Z (.app i e)=.next ((freeze Z v.al).set i (.O ds')):=by rw[aPc h hi B,I,q];rfl
theorem bO{i:Nat}{e:E}{ds:List D}(h:ev P W Z e=.ok ⟨.lst ds,true,false,[]⟩):ex P W Z (.set (.n i) e)=.next (Z.set i (.O ds)):=by rw[iB,h];rfl
theorem oT{c:E}{a b:Ss}(h:tst P W Z c=.ok true)(r:exs P W Z a=.next Z'):ex P W Z (.iff c a b)=.next Z':=by rw[jU,h,cF,if_pos rfl,r]
theorem aGm{a b:E}{x y:Bool}(h1:tst P W Z a=.ok x)(h2:tst P W Z b=.ok y):tst P W Z (.an a b)=.ok (x&&y):=by rw[aMd,h1,aA];cases x;rfl;exact h2
theorem cA{o:CmpOp}{a b:E}{x y:Vl}{k:Bool}(h:ev P W Z a=.ok x)(g:ev P W Z b=.ok y)(e:cZ o x.d y.d=some k):tst P W Z (.cmp o a b)=.ok k:=by rw[aCl,h,aA,g,aA,e]
end
theorem lV{P:Pg}{W:Caller}{Z:Sg}{s:S}{ss:Ss}{v:Vl}(h:ex P W Z s=.ret v):exs P W Z (.k s ss)=.ret v:=by rw[eA,h];rfl
theorem cX{P:Pg}{W:Caller}{Z:Sg}{f:Nat}{a:E}{x:Vl}{d:D}{fr:Bool}(h1:ev P W Z a=.ok x)(q:W f [x.d]=.ok (d,fr,false)):ev P W Z (.call f (.k a .z))=.ok ⟨d,fr,false,[]⟩:=by
 have e:evs P W Z (.k a .z)=.ok [x]:=by rw[aM,h1];rfl
 rw[gG,e,aA,show [x].map (·.d)=[x.d] from rfl,q];rfl
section
variable {P:Pg} {W:Caller} {Z Z':Sg}
theorem aPd(Z:Sg){i j k:Nat}{a b c:D}(q:noL a=true)(B:noL b=true)(I:noL c=true):bT Z (.cl (.tup [a,b,c])) (.t [i,j,k])=.ok (((Z.set i (.F a)).set j (.F b)).set k (.F c)):=by unfold bT;simp only[iJ,lC,lN,if_true,AV,D3,BX,FB,dD q,dD B,dD I,lE]
theorem aJu{a b:E}(h:tst P W Z a=.ok true):tst P W Z (.orr a b)=.ok true:=by rw[aCk,h];rfl
theorem eS{a b:E}{k:Bool}(h:tst P W Z a=.ok false)(g:tst P W Z b=.ok k):tst P W Z (.orr a b)=.ok k:=by rw[aCk,h,aA,if_neg bN,g]
theorem fV{f:Nat}{a b c:E}{x y z:Vl}{d:D}(h1:ev P W Z a=.ok x)(h2:ev P W Z b=.ok y)(q:ev P W Z c=.ok z)(B:W f [x.d,y.d,z.d]=.ok (d,true,false)):ev P W Z (.call f (.k a (.k b (.k c .z))))=.ok ⟨d,true,false,[]⟩:=by
 have e:evs P W Z (.k a (.k b (.k c .z)))=.ok [x,y,z]:=by rw[aM,h1,aA,aM,h2,aA,aM,q,aA,cN];rfl
 rw[gG,e,aA,show [x,y,z].map (·.d)=[x.d,y.d,z.d] from rfl,B];rfl
theorem cW{f:Nat}{a b:E}{x y:Vl}{d:D}(h1:ev P W Z a=.ok x)(h2:ev P W Z b=.ok y)(q:W f [x.d,y.d]=.ok (d,true,false)):ev P W Z (.call f (.k a (.k b .z)))=.ok ⟨d,true,false,[]⟩:=by
 have e:evs P W Z (.k a (.k b .z))=.ok [x,y]:=by rw[aM,h1,aA,aM,h2,aA,cN];rfl
 rw[gG,e,aA,show [x,y].map (·.d)=[x.d,y.d] from rfl,q];rfl
theorem nU{f:Nat}{a b c e g:E}{x y z w u:Vl}{d:D}(h1:ev P W Z a=.ok x)(h2:ev P W Z b=.ok y)(q:ev P W Z c=.ok z)(B:ev P W Z e=.ok w)(I:ev P W Z g=.ok u)(L:W f [x.d,y.d,z.d,w.d,u.d]=.ok (d,false,false)):ev P W Z (.call f (.k a (.k b (.k c (.k e (.k g .z))))))=.ok (.cl d):=by
 have e:evs P W Z (.k a (.k b (.k c (.k e (.k g .z)))))=.ok [x,y,z,w,u]:=by rw[aM,h1,aA,aM,h2,aA,aM,q,aA,aM,B,aA,aM,I,aA,cN];rfl
 rw[gG,e,aA,show [x,y,z,w,u].map (·.d)=[x.d,y.d,z.d,w.d,u.d] from rfl,L];rfl
theorem aMm{t:T}{e:E}{d:D}(h:ev P W Z e=.ok (.cl d))(k:bT Z (.cl d) t=.ok Z'):ex P W Z (.set t e)=.next Z':=by rw[iB,h,cF,sJ,hG,k];rfl
theorem aMn{i:Nat}{e:E}{d:D}(h:ev P W Z e=.ok ⟨d,false,true,[]⟩):ex P W Z (.set (.n i) e)=.next (Z.set i (.T d)):=by rw[iB,h];rfl
theorem kB{t:T}{it:It}{b:Ss}{xs:List Vl}(q:walk P W Z it=.ok (xs,[])):ex P W Z (.for t it b)=cK (λZ x=>O.from Z (bT Z x t) λZ'=>exs P W Z' b) xs Z:=by rw[aBc,q];rfl
theorem aAa{f:Nat}{a b:E}{x y:Vl}{d:D}(h1:ev P W Z a=.ok x)(h2:ev P W Z b=.ok y)(B:W f [x.d,y.d]=.ok (d,false,true))(I:dX [x,y]=true)(q:bZ [x,y]=[]):ev P W Z (.call f (.k a (.k b .z)))=.ok ⟨d,false,true,[]⟩:=by
 have e:evs P W Z (.k a (.k b .z))=.ok [x,y]:=by rw[aM,h1,aA,aM,h2,aA,cN];rfl
 rw[gG,e,aA,show [x,y].map (·.d)=[x.d,y.d] from rfl,B,aA];show R.ok (⟨d,false,dX [x,y],bZ [x,y]⟩:Vl)=_;rw[I,q]
theorem aIs{i j:Nat}{k e:E}{acc:List Int}{v:Int}(B:ev P W Z e=.ok (.cl (.i v)))(L:ev P W Z k=.ok (.cl (.i (j:Int))))(hi:Z[i]? = some (.O (acc.map D.int)))(I:j<acc.length)(hl:acc.length<=100):ex P W Z (.setIx i k e)=.next (Z.set i (.O ((acc.set j v).map D.int))):=by
 have U:ixN acc.length (j:Int)=some j:=gI I;have q:acc.length<=lim:=by unfold lim;omega
 simp only[zT,B,L,cF,iJ,put,sJ,hG,iH,hi,lM,U,Av,q,if_true,aJt,FQ,GA]
end
abbrev gR(ws:List Way):D:=.lst (ws.map Way.d)
abbrev bU(h:List (List Way)):List D:=h.map gR
structure aGn (m e:Nat) (ws:List Way):Prop where
 one:1<=ws.length
 few:ws.length<=4
 ok:∀w∈ws,cV m w/\0<=w.nx/\w.nx<(e:Int)+1
structure xC (m:Nat) (h:List (List Way)):Prop where
 few:h.length<=8
 ok:∀ws∈h,aGn m h.length ws
theorem kC{α:Type}{P:α->Prop}{l:List α}{x:α}(h:∀y∈l,P y)(q:P x):∀y∈l++[x],P y:=λy B=>by rcases Bl.mp B with z|z;exact h y z;rw[AE.mp z];exact q
section
variable {P:Pg} {W:Caller} {Z:Sg}
theorem xD{e:E}{v:Vl}(h:ev P W Z e=.ok v):ex P W Z (.ex e)=.next Z:=by show O.from Z (ev P W Z e) _=_;rw[h];rfl
theorem aJv{b:Ss}{Z':Sg}(h:exs P W Z b=.next Z'):ex P W Z (.tryN b)=.next Z':=h
theorem bG{s:S}{Z':Sg}(h:ex P W Z s=.next Z'):exs P W Z (.k s .z)=.next Z':=cs h rfl
theorem xE{i:Nat}{d:D}{ss:Ss}(h:Z[i]? = some (.T d))(n:noL d=true):exs P W Z (.k (.retv i) ss)=.ret (.cl d):=by refine lV ?_;show(match Z[i]? with|some (.own pa ds)=>O.ret ⟨.lst ds,true,pa,[]⟩|some (.own2 dss)=>O.ret ⟨.lst (dss.map .lst),true,false,[]⟩|_=>O.from Z (dI Z i) .ret)=_;unfold dI;rw[h];show O.from Z (Sl.val i (.T d)) .ret=_;rw[gY i true n];rfl
theorem fI{a:E}{cs:List Cl}{v:Vl}{k:Bool}(h:ev P W Z a=.ok v)(e:isI cs P v.d=some k):tst P W Z (.isi a cs)=.ok k:=by show(ev P W Z a >>= λx=>(match isI cs P x.d with|some k=>R.ok k|none=>.bad))=_;rw[h,aA,e]
theorem aP(i:Nat){d:D}(h:Z[i]? = some (.T d))(n:noL d=true):ev P W Z (.v i)=.ok (.cl d):=by show dI Z i=_;unfold dI;rw[h];exact gY i true n
theorem aK(i:Nat){ds:List D}(h:Z[i]? = some (.T (.lst ds))):ev P W Z (.v i)=.ok ⟨.lst ds,false,true,[]⟩:=by show dI Z i=_;unfold dI;rw[h];rfl
theorem lI{f:Nat}{F:Fn}{ds:List D}(q:P.fns[f]? = some F)(B:ds.length=F.np)
 (h:exs P W ((ds.map λd=>Sl.sh true d)++Am (F.ns-F.np) Sl.dead) F.body=.next Z):vX P W f ds=.ok (.non,false,false):=by unfold vX;rw[q];simp only[B,if_true,h]
theorem aB(i:Nat)(h:Z[i]? = some (.F d)):ev P W Z (.v i)=.ok (.cl d):=by show dI Z i=_;unfold dI;rw[h];exact dS i d
theorem aGo(h:ev P W Z a=.ok (.cl (.str w)))(q:P.tabs[i]? = some t)(B:t.lookup w=some d):ev P W Z (.tget i a)=.ok (.cl d):=by show(ev P W Z a >>= λx=>(match x.d,P.tabs[i]? with|.str k,some t=>R.ok (Vl.cl ((t.lookup k).getD .non))|_,_=>.bad))=_;rw[h,q];show R.ok (Vl.cl ((t.lookup w).getD .non))=_;rw[B];rfl
end
theorem iK(n:Nat)(i a b:Int)(h1:a<=i)(h2:i<=b):cP (n+2) 15 [.i i,.i a,.i b]=.ok (.bl true,false,false):=by refine aI (F:=f15) rfl rfl (bB (aGe (cX (aP 0 rfl rfl) (aI rfl rfl (v:=.cl (.bl true)) rfl)) ?_));show(match some (decide (a<=i)) with|some true=>(match some (decide (i<=b)) with|some k=>R.ok (Vl.cl (.bl k))|none=>.bad)|some false=>.ok (.cl (.bl false))|none=>.bad)=_;rw[Ak h1,Ak h2]
theorem sQ(n:Nat){bs:List D}{w:Str}{i:Int}(q:0<=i)(h1:i<=(if w == "number" then 99 else (bs.length:Int)-1)):cP (n+3) 20 [.lst bs,.str w,.i i]=.ok (.non,false,false):=by
 refine lI rfl rfl (cs (aV (vA (cQ (aP 1 rfl rfl) rfl) ?_)) (bG (bR (dQ (hU (aP 2 rfl rfl) (aE _) (aB 3 rfl) (iK n i 0 _ q h1))))));cases w == "number" with
 | true=>rfl|false=>exact eF (dT (aK 0 rfl) (lF _ _ _ _)) (aE (.i 1)) (sub_int _ 1)
abbrev knd(k:Bool):Str:=if k then "sum" else "cond"
abbrev tbl(k:Bool):List (Str×D):=(pg.tabs.getD (if k then 0 else 1) [])
theorem aGp(n:Nat)(k:Bool){w:Str}{ds:List D}{fs:List Str}{pl:Bool}(L:(tbl k).lookup w=some (.tup (fs.map D.str)))(hn:noLs ds=true)(he:ds.length=fs.length)(ha:pl=true->(w == "after")=false):cP (n+1) 19 [.str (knd k),.tup (.str w::ds),.bl pl]=.ok (.tup (fs.map D.str),false,false):=by
 let I:Sl->Sl->Sg:=λq s4=>[.T (.str (knd k)),.T (.tup (.str w::ds)),.T (.bl pl),q,s4]
 have B:∀{q s4},ev pg (cP n) (I q s4) eV1=.ok (.cl (.tup (.str w::ds))):=aP 1 rfl hn;have U:∀q s4,ev pg (cP n) (I q s4) (.bi .len (eL1 eV1))=.ok (.cl (.i ((fs.length:Int)+1))):=λq s4=>by have:=dT (@B q s4) (lG _);rw[show(((D.str w::ds).length:Nat):Int)=(fs.length:Int)+1 by rw[lC,he];rfl] at this;exact this
 have e4:∀s4,ev pg (cP n) (I (.F (.str w)) s4) (.ife (.cmp .Eq eV0 (.c (.str "sum"))) (.tget 0 eV3) (.tget 1 eV3))=.ok (.cl (.tup (fs.map D.str))):=λs4=>by
  refine vA (cQ (aP 0 rfl rfl) rfl) ?_;cases k with
  | true=>exact aGo (aB 3 rfl) rfl L|false=>exact aGo (aB 3 rfl) rfl L
 refine aI (F:=f19) rfl rfl (v:=.cl (.tup (fs.map D.str))) (cs (bR (eS (dQ (fI B rfl)) (eS (cA (U _ _) (aE _) ?_) (dQ (fI (aZ B (aE _) (fP _ _ rfl)) rfl))))) (cs (aV (aZ B (aE _) (fP _ _ rfl))) (cs (aV (e4 _)) (cs (bR (eS (cA (aB 4 rfl) (aE .non) rfl) (cA (U _ _) (eF (dT (aB 4 rfl) (lG _)) (aE (.i 1)) (add_int _ _)) ?_))) (cs (bR ?_) (lV rfl))))));show some (((fs.length:Int)+1)==0)=_;rw[beq_eq_false_iff_ne.mpr (by omega)];show(some ((((fs.length:Int)+1)==(((fs.map D.str).length:Nat):Int)+1))).map (!·)=_;rw[lM,beq_self_eq_true];rfl;have:=aGm (P:=pg) (W:=cP n) (Z:=I (.F (.str w)) (.F (.tup (fs.map D.str)))) (a:=.v 2) rfl (cQ (x:= "after") (aB 3 rfl) rfl);cases pl with
 | false=>exact this|true=>rw[ha rfl] at this;exact this
inductive Tn (M:Nat) (bs:List D) (pl:Bool):List (Str×D)->Int->Int->Prop
 | nil (m:Int):Tn M bs pl [] m m
 | part (k:Bool) {d:D} {l:List (Str×D)} {m p r:Int} (hd:noL d=true) (c:cP M 18 [.lst bs,.str (knd k),d,.bl pl,.i m]=.ok (.i p,false,false)) (t:Tn M bs pl l p r):Tn M bs pl ((knd k,d)::l) m r
 | leaf {f:Str} {i:Int} {l:List (Str×D)} {m r:Int} (h1:(f == "sum")=false) (h2:(f == "cond")=false) (c:cP M 20 [.lst bs,.str f,.i i]=.ok (.non,false,false)) (t:Tn M bs pl l m r):Tn M bs pl ((f,.i i)::l) m r
abbrev lkS(bs:List D)(k:Str)(d:D)(pl:Bool)(m:Int)(s5 s6 s7:Sl):Sg:=[.T (.lst bs),.T (.str k),.T d,.T (.bl pl),.F (.i m),s5,s6,s7]
theorem fg{f:Sg->Vl->O}(h:f Z x=.next Z'):cK f (x::xs) Z=cK f xs Z':=by rw[cK,h]
theorem aIt{M:Nat}{bs:List D}{pl:Bool}{k:Str}{d:D}{q:Sl}(h:Tn M bs pl l m r):∀B I,∃L U,cK (λZ x=>O.from Z (bT Z x (.t [6,7])) λZ'=>exs pg (cP M) Z' (match hdS (drp 3 f18.body) with|.for _ _ b=>b|_=>.z)) (l.map λp=>Vl.cl (.tup [.str p.1,p.2])) (lkS bs k d pl m q B I)=.next (lkS bs k d pl r q L U):=by
 induction h with
 | nil m=>exact λB I=>⟨B,I,rfl⟩
 | @part kd d' l m p r hd c t ih=>
  intro B I;obtain⟨L,U,e⟩:=ih (.F (.str (knd kd))) (.F d');refine⟨L,U,?_⟩;have W:tst pg (cP M) (lkS bs k d pl m q (.F (.str (knd kd))) (.F d')) (.orr (.cmp .Eq eV6 (.c (.str "sum"))) (.cmp .Eq eV6 (.c (.str "cond"))))=.ok true:=by
   cases kd with
   | true=>exact aJu (cQ (aB 6 rfl) rfl)|false=>exact eS (cQ (aB 6 rfl) rfl) (cQ (aB 6 rfl) rfl)
  have:=bG (oT (b:=.k (.ex (.call 20 (eL3 eV0 eV6 eV7))) .z) W (bG (aV (i:=4) (nU (aK 0 rfl) (aB 6 rfl) (aB 7 rfl) (aP 3 rfl rfl) (aB 4 rfl) c))));refine(fg ?_).trans e;rw[kA _ rfl hd];exact this
 | @leaf f i l m r h1 h2 c t ih=>
  intro B I;obtain⟨L,U,e⟩:=ih (.F (.str f)) (.F (.i i));refine⟨L,U,?_⟩;have:exs pg (cP M) (lkS bs k d pl m q (.F (.str f)) (.F (.i i))) (match hdS (drp 3 f18.body) with|.for _ _ b=>b|_=>.z)=.next (lkS bs k d pl m q (.F (.str f)) (.F (.i i))):=by refine bG ?_;rw[jU,eS (cQ (aB 6 rfl) h1) (cQ (aB 6 rfl) h2)];exact bG (xD (bK (aK 0 rfl) (aB 6 rfl) (aB 7 rfl) c))
  exact(fg (this)).trans e
theorem aCx:∀(fs:List Str) (ds:List D),noLs ds=true->items ⟨.non,false,false,[]⟩ (fZ (fs.map D.str) ds)=(fs.zip ds).map λp=>Vl.cl (.tup [.str p.1,p.2])
 | [],ds,_=>by cases ds <;> rfl|f::fs,[],_=>rfl|f::fs,d::ds,h=>by rw[noLs,bA] at h;show Vl.sub _ (.tup [.str f,d])::items _ (fZ (fs.map D.str) ds)=_;rw[aCx fs ds h.2,dD (iX rfl h.1)];rfl
theorem wz(h:ev P W Z a=.ok (.cl (.tup xs)))(g:ev P W Z b=.ok (.cl (.tup ys))):walk P W Z (.zip a b)=.ok (items ⟨.non,false,false,[]⟩ (fZ xs ys),[]):=by rw[jT,h,g];rfl
theorem fW{m:Nat}(k:Bool){bs:List D}{w:Str}{ds:List D}{fs:List Str}{pl:Bool}{q r:Int}(hl:(tbl k).lookup w=some (.tup (fs.map D.str)))(B:noLs ds=true)(he:ds.length=fs.length)(W:pl=true->(w == "after")=false)(hs:q<40)(t:Tn (m+1) bs pl (fs.zip ds) (q+1) r):cP (m+2) 18 [.lst bs,.str (knd k),.tup (.str w::ds),.bl pl,.i q]=.ok (.i r,false,false):=by
 let U:Sl->Sl->Sg:=λs4 I=>[.T (.lst bs),.T (.str (knd k)),.T (.tup (.str w::ds)),.T (.bl pl),s4,I,.x,.x]
 have L:∀s4 I,ev pg (cP (m+1)) (U s4 I) eV2=.ok (.cl (.tup (.str w::ds))):=λ_ _=>aP 2 rfl B;obtain⟨t6,t7,e⟩:=aIt t .x .x;refine aI (F:=f18) rfl rfl (v:=.cl (.i r)) (cs (bR (cA ((λ_=>aP 4 rfl rfl) _) (aE (.i 40)) ?_)) (cs (aV (eF ((λ_=>aP 4 rfl rfl) _) (aE (.i 1)) (add_int _ _))) (cs (aV (bK (aP 1 rfl rfl) (L _ _) (aP 3 rfl rfl) (aGp m k hl B he W))) (cs ((kB ?_).trans e) (lV rfl)))));show some (q==40)=_;rw[beq_eq_false_iff_ne.mpr (by omega)];have hs:ev pg (cP (m+1)) (U (.F (.i (q+1))) (.F (.tup (fs.map D.str)))) (.sli eV2 (eL1 eC1) .z)=.ok (.cl (.tup ds)):=by show(ev pg (cP (m+1)) _ eV2 >>= λx=>R.iff true (eC x (some 1) none))=_;rw[L];show R.ok (Vl.mk (.tup (cut (.str w::ds) (some 1) none)) false (false&&!noLs (.str w::ds)) (if noLs (.str w::ds)=true then [] else []))=_;rw[show cut (.str w::ds) (some 1) none=ds by simp[cut,sIx],show noLs (.str w::ds)=true from B];rfl
 exact(wz (aB 5 rfl) hs).trans (by rw[aCx fs ds B])
section
variable {bs:List D} {c:Nat} {pl:Bool}
theorem nV(I:bs.length=c):∀(s:Sm) (N:Nat) (q:Int),s.sz+3<=N->s.wf c pl->q+s.sz<=40->call pg N 18 [.lst bs,.str "sum",s.d,.bl pl,.int q]=.ok (.int (q+s.sz),false,false)
 | .num k,N,q,B,w,h=>by
  obtain⟨n,rfl⟩:∃n,N=n+4:=⟨N-4,by have:1+3<=N:=B;omega⟩
  have h:q+1<=40:=h;obtain⟨w1,w2⟩:0<=k/\k<=99:=w;exact fW true (fs:=["number"]) rfl rfl rfl (λ_=>rfl) (by omega) (.leaf rfl rfl (sQ n w1 w2) (.nil _))
 | .box k,N,q,B,w,h=>by
  obtain⟨n,rfl⟩:∃n,N=n+4:=⟨N-4,by have:1+3<=N:=B;omega⟩
  have h:q+1<=40:=h;have w1:k<c:=w;exact fW true (fs:=["box"]) rfl rfl rfl (λ_=>rfl) (by omega) (.leaf rfl rfl (sQ n (by omega) (show(k:Int)<=(bs.length:Int)-1 by omega)) (.nil _))
 | .aft k,N,q,B,w,h=>by
  obtain⟨n,rfl⟩:∃n,N=n+4:=⟨N-4,by have:1+3<=N:=B;omega⟩
  have h:q+1<=40:=h;obtain⟨w1,w2⟩:k<c/\pl=false:=w;exact fW true (fs:=["box"]) rfl rfl rfl (λz=>by rw[w2] at z;cases z) (by omega) (.leaf rfl rfl (sQ n (by omega) (show(k:Int)<=(bs.length:Int)-1 by omega)) (.nil _))
 | .two p a b,N,q,B,w,h=>by
  have B:1+a.sz+b.sz+3<=N:=B;obtain⟨n,rfl⟩:∃n,N=n+2:=⟨N-2,by omega⟩
  have h:q+((1+a.sz+b.sz:Nat):Int)<=40:=h;obtain⟨w1,w2⟩:a.wf c pl/\b.wf c pl:=w;show _=R.ok (D.int (q+((1+a.sz+b.sz:Nat):Int)),false,false);rw[show q+((1+a.sz+b.sz:Nat):Int)=q+1+a.sz+b.sz by omega];exact fW true (fs:=["sum", "sum"]) (by cases p <;> rfl) (iX a.noL b.noL) rfl (λ_=>aOW p) (by omega) (.part true a.noL (nV I a (n+1) _ (by omega) w1 (by omega)) (.part true b.noL (nV I b (n+1) _ (by omega) w2 (by omega)) (.nil _)))
theorem kD(I:bs.length=c):∀(s:Cn) (N:Nat) (q:Int),s.sz+3<=N->s.wf c pl->q+s.sz<=40->call pg N 18 [.lst bs,.str "cond",s.d,.bl pl,.int q]=.ok (.int (q+s.sz),false,false)
 | .yes,N,q,B,w,h=>by
  obtain⟨n,rfl⟩:∃n,N=n+2:=⟨N-2,by have:1+3<=N:=B;omega⟩
  have h:q+1<=40:=h;exact fW false (fs:=[]) rfl rfl rfl (λ_=>rfl) (by omega) (.nil _)
 | .cmp i a b,N,q,B,w,h=>by
  have B:1+a.sz+b.sz+3<=N:=B;obtain⟨n,rfl⟩:∃n,N=n+2:=⟨N-2,by omega⟩
  have h:q+((1+a.sz+b.sz:Nat):Int)<=40:=h;obtain⟨w1,w2⟩:a.wf c pl/\b.wf c pl:=w;show _=R.ok (D.int (q+((1+a.sz+b.sz:Nat):Int)),false,false);rw[show q+((1+a.sz+b.sz:Nat):Int)=q+1+a.sz+b.sz by omega];exact fW false (fs:=["sum", "sum"]) (by cases i <;> rfl) (iX a.noL b.noL) rfl (λ_=>by cases i <;> rfl) (by omega) (.part true a.noL (nV I a (n+1) _ (by omega) w1 (by omega)) (.part true b.noL (nV I b (n+1) _ (by omega) w2 (by omega)) (.nil _)))
 | .nt x,N,q,B,w,h=>by
  have B:1+x.sz+3<=N:=B;obtain⟨n,rfl⟩:∃n,N=n+2:=⟨N-2,by omega⟩
  have h:q+((1+x.sz:Nat):Int)<=40:=h;show _=R.ok (D.int (q+((1+x.sz:Nat):Int)),false,false);rw[show q+((1+x.sz:Nat):Int)=q+1+x.sz by omega];exact fW false (fs:=["cond"]) rfl (by show(noL x.d&&true)=true;rw[x.noL];rfl) rfl (λ_=>rfl) (by omega) (.part false x.noL (kD I x (n+1) _ (by omega) w (by omega)) (.nil _))
 | .two p a b,N,q,B,w,h=>by
  have B:1+a.sz+b.sz+3<=N:=B;obtain⟨n,rfl⟩:∃n,N=n+2:=⟨N-2,by omega⟩
  have h:q+((1+a.sz+b.sz:Nat):Int)<=40:=h;obtain⟨w1,w2⟩:a.wf c pl/\b.wf c pl:=w;show _=R.ok (D.int (q+((1+a.sz+b.sz:Nat):Int)),false,false);rw[show q+((1+a.sz+b.sz:Nat):Int)=q+1+a.sz+b.sz by omega];exact fW false (fs:=["cond", "cond"]) (by cases p <;> rfl) (iX a.noL b.noL) rfl (λ_=>by cases p <;> rfl) (by omega) (.part false a.noL (kD I a (n+1) _ (by omega) w1 (by omega)) (.part false b.noL (kD I b (n+1) _ (by omega) w2 (by omega)) (.nil _)))
end
variable {bs:List (Str×Int)}
theorem aAb(n:Nat){q:Cn}(w:q.wf bs.length true)(z:q.sz<=31):cP (n+35) 17 [.lst (aF bs),q.d,.bl true]=.ok (q.d,false,false):=by exact aI (F:=f17) rfl rfl (cs (xD (nU (aK 0 rfl) (aE _) (aP 1 rfl q.noL) (aP 2 rfl rfl) (aE _) (kD (lM _) q (n+34) 0 (by omega) w (by omega)))) (xE rfl q.noL))
theorem aBn(n:Nat){s:Sm}(w:s.wf bs.length true)(z:s.sz<=3):cP (n+7) 16 [.lst (aF bs),s.d,.bl true]=.ok (s.d,false,false):=by exact aI (F:=f16) rfl rfl (cs (xD (nU (aK 0 rfl) (aE _) (aP 1 rfl s.noL) (aP 2 rfl rfl) (aE _) (nV (lM _) s (n+6) 0 (by omega) w (by omega)))) (xE rfl s.noL))
theorem aDM(n:Nat){q:Cn}(w:q.wf bs.length true)(z:q.sz<=31):cP (n+36) 24 [.lst (aF bs),q.d]=.ok (.non,false,false):=
 lI rfl rfl (bG (aJv (bG (xD (bK (aK 0 rfl) (aP 1 rfl q.noL) (aE _) (aAb n w z))))))
theorem aIu(n:Nat){p:Nat×Sm}(o:mE bs.length p)(U:l<=p.1):cP (n+8) 26 [.lst (aF bs),eR p,.i l]=.ok (.non,false,false):=by have L:=o.box;refine lI rfl rfl (Z:=[.T (.lst (aF bs)),.T (eR p),.T (.i l)]) ?_;have B:=aK (P:=pg) (W:=cP (n+7)) (Z:=[.T (.lst (aF bs)),.T (eR p),.T (.i l)]) 0 rfl;have q:=aP (P:=pg) (W:=cP (n+7)) (Z:=[.T (.lst (aF bs)),.T (eR p),.T (.i l)]) 1 rfl (qG p);have I:=eF (dT B (lF _ _ _ _)) (aE (.i 1)) (sub_int _ 1);rw[show(aF bs).length=bs.length from lM _] at I;exact cs (bR (eS (dQ (fI q rfl)) (cA (dT q (lG _)) (aE _) rfl))) (cs (bR (dQ (hU (aZ q (aE _) (fP _ _ rfl)) (aP 2 rfl rfl) I (iK (n+5) p.1 l ((bs.length:Int)-1) (by omega) (by omega))))) (bG (aJv (bG (xD (bK B (aZ q (aE _) (gQ _ _ _ p.2.noL)) (aE _) (aBn n o.wf o.sz)))))))
abbrev pf(bs:List (Str×Int))(ps:List (Nat×Sm))(s t:Sl):Sg:=[.T (.lst (aF bs)),.T (.tup (ps.map eR)),s,t]
theorem aGq(n:Nat){ps:List (Nat×Sm)}(o:∀p∈ps,mE bs.length p)(up:Up ps):cP (n+9) 25 [.lst (aF bs),.tup (ps.map eR)]=.ok (.non,false,false):=by
 have L:∀s t,ev pg (cP (n+8)) (pf bs ps s t) eV1=.ok (.cl (.tup (ps.map eR))):=λs t=>aP 1 rfl (gL ps);have hw:walk pg (cP (n+8)) (pf bs ps (.F (.i 0)) .x) (.seq eV1)=.ok (ps.map λp=>Vl.cl (eR p),[]):=by rw[bL,L];show R.ok (items _ (ps.map eR),[])=_;rw[mS]
 obtain⟨Z',U,_⟩:=cT (t:=.n 3) (b:=match hdS (drp 2 f25.body) with|.for _ _ b=>b|_=>.z) (λi Z=>∃l t,(∀p∈ps.drop i,l<=p.1)/\Z=pf bs ps (.F (.i l)) t) hw ⟨0,.x,λ_ _=>B6 _,rfl⟩ λi hi Z ⟨l,t,I,B⟩=>by
  have q:i<ps.length:=by simpa using hi
  subst B;have hd:=Bz q;rw[hd] at I;refine⟨pf bs ps (.F (.i l)) (.F (eR ps[i])),pf bs ps (.F (.i ((ps[i].1+1:Nat):Int))) (.F (eR ps[i])),?_,cs (xD (bK (aK 0 rfl) (dS 3 _) (dS 2 _) (aIu n (o _ (AF q)) (I _ Ar)))) (bG (aV (eF (aZ (dS 3 _) (aE _) (fP _ _ rfl)) (aE _) (add_int _ 1)))),ps[i].1+1,_,λp W=>?_,rfl⟩;rw[A6,dA];rfl;have:=(Cf.mp (by rw[<-hd];exact IS (List.drop_sublist _ _) up)).1 p W;exact this
 exact lI rfl rfl (cs (bR (dQ (fI (L _ _) rfl))) (cs (aV (aE _)) (bG U)))
theorem aPe(x y z:D)(h:noL z=true):eK (.cl (.tup [x,y,z])) (.cl (.i 2))=.ok (.cl z):=aBi x y z [] h
theorem aBo(n:Nat){w:Way}(o:cV bs.length w)(I:0<=w.nx/\w.nx<(e:Int)+1):cP (n+37) 23 [.lst (aF bs),w.d,.i e]=.ok (w.d,false,false):=by have B:=aK (P:=pg) (W:=cP (n+36)) (Z:=[.T (.lst (aF bs)),.T w.d,.T (.i e)]) 0 rfl;have q:=aP (P:=pg) (W:=cP (n+36)) (Z:=[.T (.lst (aF bs)),.T w.d,.T (.i e)]) 1 rfl (eU w);exact aI rfl rfl (v:=.cl w.d) (cs (bR (eS (dQ (fI q rfl)) (cA (dT q (lG _)) (aE (.i 3)) rfl))) (cs (xD (fH B (aZ q (aE (.i 0)) (fP _ _ w.g.noL)) (aDM n o.g o.gs))) (cs (xD (fH B (aZ q (aE (.i 1)) (gQ _ _ _ (gL w.ps))) (aGq (n+27) o.ps o.up))) (cs (bR (dQ (hU (aZ q (aE (.i 2)) (aBi _ _ _ _ rfl)) (aE (.i 0)) (aP 2 rfl rfl) (iK (n+34) w.nx 0 e I.1 (by omega))))) (xE rfl (eU w))))))
section
variable {P:Pg} {W:Caller} {Z:Sg}
theorem aCy{a b c:E}{x y z:Int}(h1:ev P W Z a=.ok (.cl (.i x)))(h2:ev P W Z b=.ok (.cl (.i y)))(B:ev P W Z c=.ok (.cl (.i z)))(p:x<=y)(q:y<=z):tst P W Z (.cmp2 .LtE .LtE a b c)=.ok true:=by rw[sG,h1,aA,h2,aA];simp_all
theorem aAc{a b c:E}{x y z:Int}{k:Bool}(h1:ev P W Z a=.ok (.cl (.i x)))(h2:ev P W Z b=.ok (.cl (.i y)))(B:ev P W Z c=.ok (.cl (.i z)))(p:x<=y)(q:decide (y<z)=k):tst P W Z (.cmp2 .LtE .Lt a b c)=.ok k:=by rw[sG,h1,aA,h2,aA];simp_all
end
theorem qH{α:Type}(k:Nat)(caps:List Nat)(f:α->D):∀h:List α,fE k caps [] (h.map λx=>Vl.mk (f x) true false [])=⟨.lst (h.map f),true,false,[]⟩:=λh=>by
 have B:(h.map λx=>Vl.mk (f x) true false []).map (·.d)=h.map f:=by rw[As];rfl
 have I:dX (h.map λx=>Vl.mk (f x) true false [])=false:=by
  induction h with
  | nil=>rfl|cons x h q=>unfold dX at q ⊢;rw[mC,Ir,q (by rw[As];rfl)];rfl
 have L:bZ (h.map λx=>Vl.mk (f x) true false [])=[]:=by
  clear B I
  induction h with
  | nil=>rfl|cons x h q=>unfold bZ at q ⊢;rw[mC,DA,q];rfl
 unfold fE;rw[B,I,L];split <;> rfl
variable {bs:List (Str×Int)}
theorem aBp(n:Nat){ws:List Way}{e:Nat}(o:aGn bs.length e ws):cP (n+38) 22 [.lst (aF bs),gR ws,.i e]=.ok (gR ws,true,false):=by have q:=aK (P:=pg) (W:=cP (n+37)) (Z:=[.T (.lst (aF bs)),.T (gR ws),.T (.i e)]) 1 rfl;have B:=dT (b:=.len) q (lF _ _ _ _);rw[lM] at B;have L:=bR (a:=.k (.rse 3 false (eL1 (.c (.str "a row is a list of one to four ways")))) .z) (eS (dQ (fI (cs:=[.tList]) (k:=true) q rfl)) (dQ (aCy (aE (.i 1)) B (aE (.i 4)) (by have:=o.one;omega) (by have:=o.few;omega))));refine aI (F:=f22) rfl rfl (v:=⟨gR ws,true,false,[]⟩) (cs L (bB (fG (ts:=ws) (al:=[]) (λw=>Vl.cl w.d) Way.d eU ?_ (by have:=o.few;unfold lim;omega) λw I=>⟨[.F w.d,.T (.lst (aF bs)),.T (.i e)],?_,bK (aK 1 rfl) (dS 0 _) (aP 2 rfl rfl) (aBo n (o.ok w I).1 (o.ok w I).2)⟩)));rw[bL,q,aA];show R.ok (items _ (ws.map Way.d),[])=_;rw[cU eU];rw[dA];rfl
theorem aAd(n:Nat){h:List (List Way)}(o:xC bs.length h):cP (n+39) 21 [.lst (aF bs),.lst (bU h)]=.ok (.lst (bU h),true,false):=by
 have q:=aK (P:=pg) (W:=cP (n+38)) (Z:=[.T (.lst (aF bs)),.T (.lst (bU h))]) 1 rfl;have B:=dT (b:=.len) q (lF _ _ _ _);rw[lM] at B;have k1:=bR (a:=.k (.rse 3 false (eL1 (.c (.str "a hand is a list of none to eight rows")))) .z) (eS (dQ (fI (cs:=[.tList]) (k:=true) q rfl)) (cA (o:=.Gt) (k:=false) B (aE (.i 8)) (congrArg some (A3 (by have:=o.few;omega)))));have L:ev pg (cP (n+38)) [.T (.lst (aF bs)),.T (.lst (bU h))] (.comp 1 [0,1] (.n 0) (.seq eV1) .z (.call 22 (eL3 eV1 eV0 (.bi .len (eL1 eV2)))))=.ok ⟨.lst (bU h),true,false,[]⟩:=by rw[nO (xs:=h.map λws=>⟨gR ws,false,true,[]⟩) (al:=[]) (λx=>⟨x.d,true,false,[]⟩) ?_ (by rw[lM];have:=o.few;unfold lim;omega) λx hx=>?_];rw[As];exact congrArg R.ok (qH 1 [0,1] gR h);rw[bL,q,aA];show R.ok (items _ (bU h),[])=_;unfold items;rw[As];rfl;obtain⟨ws,U,rfl⟩:=A8.mp hx;have I:=dT (b:=.len) (aK (P:=pg) (W:=cP (n+38)) (Z:=[.T (gR ws),.T (.lst (aF bs)),.T (.lst (bU h))]) 2 rfl) (lF _ _ _ _);rw[lM] at I;exact⟨[.T (gR ws),.T (.lst (aF bs)),.T (.lst (bU h))],rfl,fV (aK 1 rfl) (aK 0 rfl) I (aBp n (o.ok ws U))⟩
 exact aI (F:=f21) rfl rfl (v:=⟨.lst (bU h),true,false,[]⟩) (cs k1 (bB L))
noncomputable def InR(bs:List (Str×Int))(acc:List Int):Prop:=∀(j:Nat) (a:Int) (b:Str×Int),acc[j]? = some a->bs[j]? = some b->0<=a/\a<=b.2
theorem aGr{bs:List (Str×Int)}{st:List Int}{b:Str×Int}{h:Nat}(U:st.length=bs.length)(H:InR bs st)(W:h<(b.2+1).toNat):InR (bs++[b]) (st++[(h:Int)]):=by
 intro j x c B q;by_cases L:j<bs.length;rw[AI (by omega)] at B;rw[AI L] at q;exact H j x c B q;rw[AD (by omega)] at B;rw[AD (by omega)] at q;have I:j-bs.length=0:=by have:=(Au.mp q).1;simp at this;omega
 rw[U,I] at B;rw[I] at q;cases B;cases q;omega
theorem aAe{bs:List (Str×Int)}:∀i,i<=bs.length->∀st∈standsL (bs.take i),st.length=i/\InR (bs.take i) st
 | 0,_,st,h=>by
  have:st=[]:=by simpa[standsL] using h
  subst this;exact⟨rfl,λj a b I _=>by simp at I⟩
 | i+1,hi,st,h=>by rw[gH hi] at h;obtain⟨b,L,q⟩:=ED.mp h;obtain⟨m,U,rfl⟩:=A8.mp q;obtain⟨B,W⟩:=aAe i (by omega) b L;refine⟨by simp[B],?_⟩;rw[BG hi];exact aGr (by rw[B,A0];omega) W (by simpa using U)
theorem kE{bs:List (Str×Int)}{st:List Int}(h:st∈standsL bs):st.length=bs.length/\InR bs st:=by have:=aAe (bs:=bs) bs.length (Ao _) st (by rw[Bx];exact h);rwa [Bx] at this
noncomputable def dU(ws:List Way)(i:Nat):Way:=ws.getD i ⟨.yes,[],0⟩
abbrev aG(i:Nat):D:=.i (i:Int)
theorem cY(i:Nat):noL (aG i)=true:=rfl
theorem xF{ws:List Way}{i:Nat}(h:i<ws.length):dU ws i∈ws/\ws[i]? = some (dU ws i):=by unfold dU;rw[Ae,Ac h];grind
theorem aIv{P:Pg}{W:Caller}{Z:Sg}{a:E}{v:Vl}{ds:List D}(h:ev P W Z a=.ok v)(e:v.d=.lst ds):walk P W Z (.enum a)=.ok (items v (iG 0 ds),v.al):=by show(ev P W Z a >>= λx=>(match yQ x.d with|some q=>R.ok (items x (iG 0 q),x.al)|none=>.bad))=_;rw[h,aA,e];rfl
theorem aPf{x:D}(h:eqD x x=some true):cZ .NotEq x x=some false:=by rw[aBg,h];rfl
section
variable {P:Pg} {W:Caller} {Z:Sg}
theorem aW(i:Nat){pa:Bool}{ds:List D}(h:Z[i]? = some (.own pa ds)):ev P W Z (.v i)=.ok ⟨.lst ds,false,pa,[i]⟩:=by show dI Z i=_;unfold dI;rw[h];rfl
theorem bD:evs P W Z .z=.ok (([]:List D).map Vl.cl):=rfl
theorem aH{a:E}{es:Es}{d:D}{ds:List D}(h:ev P W Z a=.ok (.cl d))(t:evs P W Z es=.ok (ds.map Vl.cl)):evs P W Z (.k a es)=.ok ((d::ds).map Vl.cl):=by rw[aM,h,aA,t];rfl
theorem aGs(ds:List D):dX (ds.map Vl.cl)=false:=by
 induction ds with
 | nil=>rfl|cons d ds q=>unfold dX at q ⊢;rw[mC,Ir,q];rfl
theorem aGt(ds:List D):bZ (ds.map Vl.cl)=[]:=by
 induction ds with
 | nil=>rfl|cons d ds q=>unfold bZ at q ⊢;rw[mC,DA,q];rfl
theorem aGu(ds:List D):(ds.map Vl.cl).map (·.d)=ds:=by rw[As];exact GX _
theorem bV{es:Es}{ds:List D}(h:evs P W Z es=.ok (ds.map Vl.cl)):ev P W Z (.tup es)=.ok (.cl (.tup ds)):=by rw[sD,h,aA];show R.ok (Vl.mk (.tup ((ds.map Vl.cl).map (·.d))) false (dX (ds.map Vl.cl)) (bZ (ds.map Vl.cl)))=_;rw[aGs,aGt,aGu];rfl
theorem dK{es:Es}{ds:List D}(h:evs P W Z es=.ok (ds.map Vl.cl)):ev P W Z (.lst es)=.ok ⟨.lst ds,true,false,[]⟩:=by rw[aMc,h,aA];show R.ok (Vl.mk (.lst ((ds.map Vl.cl).map (·.d))) true (dX (ds.map Vl.cl)) (bZ (ds.map Vl.cl)))=_;rw[aGs,aGt,aGu]
theorem eJ{a b:E}{x n:Int}(h:ev P W Z a=.ok (.cl (.i x)))(k:ev P W Z b=.ok (.cl (.i n)))(p:0<n):ev P W Z (.op .Mod a b)=.ok (.cl (.i (x % n))):=eF h k (aCq p)
theorem dP{a b:E}{x n:Int}(h:ev P W Z a=.ok (.cl (.i x)))(k:ev P W Z b=.ok (.cl (.i n))):ev P W Z (.op .Add a b)=.ok (.cl (.i (x+n))):=eF h k (add_int _ _)
theorem dL{a:E}{v:Vl}{ds:List D}(h:ev P W Z a=.ok v)(e:v.d=.lst ds):ev P W Z (.bi .len (.k a .z))=.ok (.cl (.i ds.length)):=dT h (by
 obtain⟨d,f,p,al⟩:=v;subst e;exact lF _ _ _ _)
theorem iL{α:Type}{f:α->D}{a b:E}{v:Vl}{xs:List α}{k:Nat}{x:α}(h:ev P W Z a=.ok v)(I:v.d=.lst (xs.map f))(q:ev P W Z b=.ok (.cl (.i (k:Int))))(L:xs[k]? = some x)(B:noL (f x)=true):ev P W Z (.idx a b)=.ok (.cl (f x)):=
 aZ h q ((pK I L).trans (congrArg R.ok (dD B)))
theorem fK{a b:E}{v:Vl}{xs:List Int}{k:Nat}(h:ev P W Z a=.ok v)(I:v.d=.lst (xs.map D.int))(q:ev P W Z b=.ok (.cl (.i (k:Int))))(B:k<xs.length):ev P W Z (.idx a b)=.ok (.cl (.i (xs.getD k 0))):=
 aZ h q (aIn I B)
theorem sR{a b:List D}{v w:Vl}(hv:v.d=.lst a)(hw:w.d=.lst b)(I:noLs a=true)(L:noLs b=true)(U:a.length+b.length<=lim):opD .Add v w=.ok ⟨.lst (a++b),true,false,[]⟩:=by obtain⟨_,f,p,al⟩:=v;obtain⟨_,f',B,q⟩:=w;cases hv;cases hw;show R.iff (decide (a.length+b.length<=lim)) (.ok (Vl.mk (.lst (a++b)) true ((p&&!noLs a)||(B&&!noLs b)) ((if noLs a then [] else al)++(if noLs b then [] else q))))=_;rw[Ak U,I,L];cases p <;> cases B <;> rfl
theorem aIw{f:Nat}{a:E}{x:Vl}{k:Bool}(h1:ev P W Z a=.ok x)(q:W f [x.d]=.ok (.bl k,false,false)):tst P W Z (.call f (.k a .z))=.ok k:=by
 have e:evs P W Z (.k a .z)=.ok [x]:=by rw[aM,h1];rfl
 rw[gP,e,aA,show [x].map (·.d)=[x.d] from rfl,q];rfl
end
theorem xG(x:Int){n:Nat}(h:0<n):∃k:Nat,x % (n:Int)=(k:Int)/\k<n:=by have h1:=DX x (show(n:Int)≠0 by omega);have h2:=Ds x (show(0:Int)<n by omega);exact⟨(x % n).toNat,by omega,by omega⟩
abbrev b3(s t:Int):List (Str×Int):=[("a",s),("b",t),("c",1)]
abbrev b4(s:Int):List (Str×Int):=[("a",1),("b",1),("c",1),("d",s)]
noncomputable def boxSet:List (List (Str×Int)):=[b3 1 1,b3 2 1,b3 1 2,b3 2 2,b4 1,b4 2]
theorem box_six{bs:List (Str×Int)}(q:bs∈boxSet):bs=b3 1 1\/bs=b3 2 1\/bs=b3 1 2\/bs=b3 2 2\/bs=b4 1\/bs=b4 2:=by simpa only[boxSet,A4,AJ,Ev] using q
theorem eV{bs:List (Str×Int)}(q:bs∈boxSet):3<=bs.length/\bs.length<=4:=by rcases box_six q with rfl|rfl|rfl|rfl|rfl|rfl <;> decide
theorem xH{bs:List (Str×Int)}(q:bs∈boxSet):∀b∈bs,1<=b.2/\b.2<=2:=by rcases box_six q with rfl|rfl|rfl|rfl|rfl|rfl <;> decide +kernel
theorem aAf{bs:List (Str×Int)}(q:bs∈boxSet):jG bs<=24/\1<=jG bs:=by rcases box_six q with rfl|rfl|rfl|rfl|rfl|rfl <;> decide +kernel
theorem aAg{bs:List (Str×Int)}(q:bs∈boxSet):aIj bs:=⟨by have:=eV q;omega,λb h=>by have:=xH q b h;omega,(aAf q).1⟩
theorem aGv{bs:List (Str×Int)}(B:bs∈boxSet):∀b∈bs,∃c:Nat,b.1=⟨#[c]⟩/\cZ .In (.str ⟨#[c]⟩) (.str "abcdefghijklmnopqrstuvwxyz")=some true:=by
 have h:∀x∈[("a" : Str), "b", "c", "d"],∃c:Nat,x=⟨#[c]⟩/\cZ .In (.str ⟨#[c]⟩) (.str "abcdefghijklmnopqrstuvwxyz")=some true:=λx q=>by simp only[A4,AJ,Ev] at q;rcases q with rfl|rfl|rfl|rfl;exact⟨97,by decide +kernel,by decide +kernel⟩;exact⟨98,by decide +kernel,by decide +kernel⟩;exact⟨99,by decide +kernel,by decide +kernel⟩;exact⟨100,by decide +kernel,by decide +kernel⟩
 intro b I;refine h b.1 ?_;revert b;rcases box_six B with rfl|rfl|rfl|rfl|rfl|rfl <;> decide +kernel
theorem aGw(n:Nat){c:Nat}(h:cZ .In (.str ⟨#[c]⟩) (.str "abcdefghijklmnopqrstuvwxyz")=some true):cP (n+1) 5 [.str ⟨#[c]⟩]=.ok (.bl true,false,false):=by
 have q:=aP (P:=pg) (W:=cP n) (Z:=[.T (.str ⟨#[c]⟩)]) 0 rfl rfl;have I:ev pg (cP n) [.T (.str ⟨#[c]⟩)] (.comp 1 [] (.n 0) (.seq eV0) .z (.cmp .In eV0 (.c (.str "abcdefghijklmnopqrstuvwxyz"))))=.ok ⟨.lst [.bl true],true,false,[]⟩:=
  fG (ts:=[c]) (λc=>Vl.cl (.str ⟨#[c]⟩)) (λ_=>.bl true) (λ_=>rfl) (by rw[bL,q];rfl) (by unfold lim;simp) λt B=>by rw[AE] at B;subst B;exact⟨[.F (.str ⟨#[t]⟩)],rfl,mD (dS 0 _) (aE _) h⟩
 exact aI (F:=f5) rfl rfl (v:=.cl (.bl true)) (cs (bR (eS (dQ (fI q rfl)) (dQ (aCy (y:=1) (aE (.i 1)) (dT q rfl) (aE (.i 8)) (by decide) (by decide))))) (bB (dT I rfl)))
theorem aBq(n:Nat){b:Str×Int}{c:Nat}(L:b.1=⟨#[c]⟩)(h:cZ .In (.str ⟨#[c]⟩) (.str "abcdefghijklmnopqrstuvwxyz")=some true)(B:1<=b.2/\b.2<=2):cP (n+3) 4 [box b]=.ok (box b,false,false):=by obtain⟨x,t⟩:=b;subst L;have q:=aP (P:=pg) (W:=cP (n+2)) (Z:=[.T (box (⟨#[c]⟩,t))]) 0 rfl rfl;have I:=aZ q (aE (.i 0)) (fP (.str ⟨#[c]⟩) [.i t] rfl);have i1:=aZ q (aE (.i 1)) (gQ (.str ⟨#[c]⟩) (.i t) [] rfl);exact aI (F:=f4) rfl rfl (cs (bR (eS (dQ (fI q rfl)) (cA (dT q (lG _)) (aE _) rfl))) (cs (bR (dQ (aIw I (aGw (n+1) h)))) (cs (bR (dQ (hU i1 (aE _) (aE _) (iK n t 1 7 B.1 (by have:=B.2;show t<=7;omega))))) (bB (iC I i1)))))
theorem nP(b:Str×Int):noL (box b)=true:=rfl
theorem xI(n:Nat){bs:List (Str×Int)}(q:bs∈boxSet):cP (n+4) 3 [.lst (aF bs)]=.ok (.lst (aF bs),true,false):=by
 obtain⟨l3,l4⟩:=eV q;have B:=aK (P:=pg) (W:=cP (n+3)) (Z:=[.T (.lst (aF bs)),.x]) 0 rfl;have I:=dL B rfl;rw[show(aF bs).length=bs.length from lM _] at I;have U:ex pg (cP (n+3)) [.T (.lst (aF bs)),.x] (.set (.n 1) (.comp 1 [] (.n 0) (.seq eV0) .z (.call 4 (eL1 eV0))))=.next [.T (.lst (aF bs)),.O (aF bs)]:=by refine bO (fG (al:=[]) (λb=>Vl.cl (box b)) box nP ?_ (by unfold lim;omega) λb L=>?_);rw[bL,B,aA];show R.ok (items _ (bs.map box),[])=_;rw[cU nP];obtain⟨c,h1,h2⟩:=aGv q b L;exact⟨[.F (box b)],rfl,cX (dS 0 _) (aBq n h1 h2 (xH q b L))⟩
 have k2:tst pg (cP (n+3)) [.T (.lst (aF bs)),.O (aF bs)] (.cmp .Lt (.numset (.comp 2 [] (.t [0,1]) (.seq eV1) .z eV0)) (.bi .len (eL1 eV1)))=.ok false:=by rcases box_six q with rfl|rfl|rfl|rfl|rfl|rfl <;> rfl
 have k3:tst pg (cP (n+3)) [.T (.lst (aF bs)),.O (aF bs)] (.cmp .Gt (.call 6 (eL1 eV1)) aPa)=.ok false:=by rcases box_six q with rfl|rfl|rfl|rfl|rfl|rfl <;> rfl
 exact aI (F:=f3) rfl rfl (cs (bR (eS (dQ (fI B rfl)) (dQ (aCy (aE (.i 1)) I (aE (.i 5)) (by omega) (by omega))))) (cs U (cs (bR k2) (cs (bR k3) (lV rfl)))))
structure oU (m:Nat) (z:List Nat):Prop where
 one:1<=z.length
 few:z.length<=4
 ok:∀b∈z,b<m
abbrev nW(z:List Nat):D:=.lst (z.map aG)
theorem aGx(n:Nat)(x:Int){h m:Nat}(hh:h<3)(sh:Int)(hm:3<=m)(U:m<=4):∃(z:List Nat) (fr:Bool),oU m z/\cP (n+1) 44 [.i x,.i h,.i sh,.i m]=.ok (nW z,fr,false):=by
 have B:∃z:List Nat,oU m z/\ev pg (cP n) [.T (.i x),.T (.i h),.T (.i sh),.T (.i m)] (.idx (.lst (eL3 (.lst (eL1 eC0)) (.lst (eL2 eC1 eC2)) (.lst (eL1 eC0)))) eV1)=.ok ⟨nW z,false,false,[]⟩:=by
  have:h=0\/h=1\/h=2:=by omega
  rcases this with rfl|rfl|rfl;exact⟨[0],⟨by decide,by decide,λb q=>by simp at q;omega⟩,rfl⟩;exact⟨[1,2],⟨by decide,by decide,λb q=>by simp at q;omega⟩,rfl⟩;exact⟨[0],⟨by decide,by decide,λb q=>by simp at q;omega⟩,rfl⟩
 obtain⟨z,zo,hz⟩:=B;have I:∀(j:Int),tst pg (cP n) [.T (.i x),.T (.i h),.T (.i sh),.T (.i m)] (.cmp .Eq (.op .Mod eV0 eC4) (.c (.i j)))=.ok (x % 4==j):=λj=>cA (eJ (aP 0 rfl rfl) (aE (.i 4)) (by decide)) (aE _) rfl;cases q0:(sh==0) with
 | true=>exact⟨z,false,zo,aI (F:=f44) rfl rfl (v:=⟨nW z,false,false,[]⟩) (eQ (cA (aP 2 rfl rfl) (aE _) (congrArg some q0)) (bB hz))⟩|false=>
  have L:=bR (P:=pg) (W:=cP n) (Z:=[.T (.i x),.T (.i h),.T (.i sh),.T (.i m)]) (a:=.k (.ret (.idx (.lst (eL3 (.lst (eL1 eC0)) (.lst (eL2 eC1 eC2)) (.lst (eL1 eC0)))) eV1)) .z) (cA (o:=.Eq) (aP 2 rfl rfl) (aE (.i 0)) (congrArg some q0));cases q1:(x % 4==0) with
  | true=>
   have hc:ev pg (cP n) [.T (.i x),.T (.i h),.T (.i sh),.T (.i m)] (.comp 1 [] (.n 0) (.rng eC0 eV3) .z eV0)=.ok ⟨nW (Ai m),true,false,[]⟩:=
    fG (λi=>Vl.cl (aG i)) aG cY (bM (aP 3 rfl rfl) rfl (by omega)) (by rw[AG];unfold lim;omega) λi _=>⟨[.F (aG i)],rfl,dS 0 _⟩
   exact⟨Ai m,true,⟨by rw[AG];omega,by rw[AG];exact U,λb q=>AC.mp q⟩,aI (F:=f44) rfl rfl (cs L (eQ ((I 0).trans (congrArg R.ok q1)) (bB hc)))⟩
  | false=>
   have k1:=bR (a:=.k (.ret (.comp 1 [] (.n 0) (.rng eC0 eV3) .z eV0)) .z) ((I 0).trans (congrArg R.ok q1));cases q2:(x % 4==1) with
   | true=>exact⟨[h],true,⟨by simp,by simp,λb q=>by simp at q;omega⟩,aI (F:=f44) rfl rfl (cs L (cs k1 (eQ ((I 1).trans (congrArg R.ok q2)) (bB (dK (aH (aP 1 rfl rfl) bD))))))⟩|false=>
    have k2:=bR (a:=.k (.ret (.lst (eL1 eV1))) .z) ((I 1).trans (congrArg R.ok q2));cases q3:(x % 4==2) with
    | true=>exact⟨z,false,zo,aI (F:=f44) rfl rfl (cs L (cs k1 (cs k2 (eQ ((I 2).trans (congrArg R.ok q3)) (bB hz)))))⟩|false=>exact⟨[h,2],true,⟨by simp,by simp,λb q=>by simp at q;omega⟩,aI (F:=f44) rfl rfl (cs L (cs k1 (cs k2 (cs (bR ((I 2).trans (congrArg R.ok q3))) (bB (dK (aH (aP 1 rfl rfl) (aH (aE _) bD))))))))⟩
section
variable {P:Pg} {W:Caller} {Z:Sg}
theorem oV{α:Type}{f:α->D}{zs:List α}{zE a:E}{v:Vl}{x:Int}(U:ev P W Z zE=.ok v)(L:v.d=.lst (zs.map f))(ha:ev P W Z a=.ok (.cl (.i x)))(hl:1<=zs.length)(nf:∀t,noL (f t)=true) :
 ∃t∈zs,ev P W Z (.idx zE (.op .Mod a (.bi .len (.k zE .z))))=.ok (.cl (f t)):=by have q:=dL U L;rw[lM] at q;obtain⟨k,e,B⟩:=xG x (n:=zs.length) (by omega);have I:=eJ ha q (by omega);rw[e] at I;exact⟨zs[k],AF B,iL U L I (Ac B) (nf _)⟩
theorem qJ{α:Type}{f:α->D}{zs:List α}{zE a:E}{v:Vl}{x:Int}{n:Nat}(hz:ev P W Z zE=.ok v)(U:v.d=.lst (zs.map f))(L:ev P W Z a=.ok (.cl (.i x)))(hn:zs.length=n)(I:0<n)(nf:∀t∈zs,noL (f t)=true) :
 ∃t∈zs,ev P W Z (.idx zE (.op .Mod a (.c (.i n))))=.ok (.cl (f t)):=by
 obtain⟨k,e,hk⟩:=xG x I;have B:=eJ L (aE (.i n)) (by omega);rw[e] at B;have q:k<zs.length:=by omega
 exact⟨zs[k],AF q,iL hz U B (Ac q) (nf _ (AF q))⟩
end
variable {bs:List (Str×Int)}
theorem aDN{m b q:Nat}{p:Bool}{k:Int}(I:b<m)(L:q<m)(B:0<=k/\k<=99):∀t∈([.yes,.yes,.yes,.cmp p (.box b) (.num k),.nt (.cmp p (.box b) (.num k)),.two false (.cmp p (.box b) (.num k)) (.cmp true (.two false (.box q) (.box b)) (.num 0))]++[.two true (.cmp false (.box q) (.two true (.box b) (.num 1))) (.nt (.cmp p (.box b) (.num k)))]:List Cn),t.wf m true/\t.sz<=31:=by simp only[GP,DR,A4,AJ,Ev];rintro t (rfl|rfl|rfl|rfl|rfl|rfl|rfl) <;> simp[Cn.wf,Sm.wf,Cn.sz,Sm.sz,I,L,B.1,B.2]
theorem aBr(n:Nat){L:List Int}(hl:L.length=12){z:List Nat}(zo:oU bs.length z):∃g:Cn,g.wf bs.length true/\g.sz<=31/\cP (n+1) 45 [.lst (L.map D.int),.lst (aF bs),nW z]=.ok (g.d,false,false):=by
 let Z:Sl->Sl->Sl->Sl->Sl->Sl->Sg:=λs3 s4 s5 s6 B I=>[.T (.lst (L.map D.int)),.T (.lst (aF bs)),.T (nW z),s3,s4,s5,s6,B,I]
 have v0:∀s3 s4 s5 s6 B I,ev pg (cP n) (Z s3 s4 s5 s6 B I) eV0=.ok ⟨.lst (L.map D.int),false,true,[]⟩:=λ_ _ _ _ _ _=>aK 0 rfl;have v2:∀s3 s4 s5 s6 B I,ev pg (cP n) (Z s3 s4 s5 s6 B I) eV2=.ok ⟨.lst (z.map aG),false,true,[]⟩:=λ_ _ _ _ _ _=>aK 2 rfl;have y:∀(k:Nat) s3 s4 s5 s6 B I,k<12->ev pg (cP n) (Z s3 s4 s5 s6 B I) (.idx eV0 (.c (.i (k:Int))))=.ok (.cl (.i (L.getD k 0))):=λk _ _ _ _ _ _ hk=>fK (v0 _ _ _ _ _ _) rfl (aE _) (by omega);obtain⟨b,hb,e1⟩:=oV (v2 .x .x .x .x .x .x) rfl (y 0 .x .x .x .x .x .x (by decide)) zo.one cY;have k1:ex pg (cP n) (Z .x .x .x .x .x .x) (hdS f45.body)=.next (Z (.F (aG b)) .x .x .x .x .x):=aV e1;have k2:ex pg (cP n) (Z (.F (aG b)) .x .x .x .x .x) (hdS (drp 1 f45.body))=.next (Z (.F (aG b)) (.F (Sm.num (L.getD 1 0 % 3)).d) .x .x .x .x):=aV (bV (aH (aE _) (aH (eJ (y 1 _ _ _ _ _ _ (by decide)) (aE (.i 3)) (by decide)) bD)));obtain⟨p,hp,e3⟩:=qJ (P:=pg) (W:=cP n) (Z:=Z (.F (aG b)) (.F (Sm.num (L.getD 1 0 % 3)).d) .x .x .x .x) (n:=2) (zs:=[true,false]) (f:=λp=>.str (wY p)) (zE:=.lst (eL2 (.c (.str "is")) (.c (.str "less")))) (dK (aH (aE _) (aH (aE _) bD))) rfl (y 2 _ _ _ _ _ _ (by decide)) rfl (by decide) (λ_ _=>rfl)
 let F:=Cn.cmp p (.box b) (.num (L.getD 1 0 % 3))
 have k3:ex pg (cP n) (Z (.F (aG b)) (.F (Sm.num (L.getD 1 0 % 3)).d) .x .x .x .x) (hdS (drp 2 f45.body))=.next (Z (.F (aG b)) (.F (Sm.num (L.getD 1 0 % 3)).d) (.F F.d) .x .x .x):=aV (bV (aH e3 (aH (bV (aH (aE _) (aH (dS 3 _) bD))) (aH (dS 4 _) bD))));obtain⟨q,hq,e4⟩:=oV (v2 (.F (aG b)) (.F (Sm.num (L.getD 1 0 % 3)).d) (.F F.d) .x .x .x) rfl (eF (y 1 (.F (aG b)) (.F (Sm.num (L.getD 1 0 % 3)).d) (.F F.d) .x .x .x (by decide)) (aE (.i 3)) (qD (by decide))) zo.one cY
 let O:=Sm.box q
 have k4:ex pg (cP n) (Z (.F (aG b)) (.F (Sm.num (L.getD 1 0 % 3)).d) (.F F.d) .x .x .x) (hdS (drp 3 f45.body))=.next (Z (.F (aG b)) (.F (Sm.num (L.getD 1 0 % 3)).d) (.F F.d) (.F O.d) .x .x):=aV (bV (aH (aE _) (aH e4 bD)))
 let U:Sl->Sl->Sg:=λB I=>Z (.F (aG b)) (.F (Sm.num (L.getD 1 0 % 3)).d) (.F F.d) (.F O.d) B I
 have w3:∀B I,ev pg (cP n) (U B I) eV3=.ok (.cl (aG b)):=λ_ _=>dS 3 _;have w5:∀B I,ev pg (cP n) (U B I) eV5=.ok (.cl F.d):=λ_ _=>dS 5 _;have w6:∀B I,ev pg (cP n) (U B I) eV6=.ok (.cl O.d):=λ_ _=>dS 6 _;have bx:∀B I,ev pg (cP n) (U B I) (.tup (eL2 (.c (.str "box")) eV3))=.ok (.cl (Sm.box b).d):=λ_ _=>bV (aH (aE _) (aH (w3 _ _) bD));have nf:∀B I,ev pg (cP n) (U B I) (.tup (eL2 (.c (.str "not")) eV5))=.ok (.cl (Cn.nt F).d):=λ_ _=>bV (aH (aE _) (aH (w5 _ _) bD));have ye:∀B I,ev pg (cP n) (U B I) (.tup (eL1 (.c (.str "yes"))))=.ok (.cl Cn.yes.d):=λ_ _=>bV (aH (aE _) bD);have k5:ex pg (cP n) (U .x .x) (hdS (drp 4 f45.body))=.next (U (.O ([Cn.yes,.yes,.yes,F,.nt F].map Cn.d)) .x):=bO (dK (aH (ye _ _) (aH (ye _ _) (aH (ye _ _) (aH (w5 _ _) (aH (nf _ _) bD))))))
 let M1:=Cn.cmp true (.two false O (.box b)) (.num 0)
 have k6:∀B,ex pg (cP n) (U B .x) (hdS (drp 5 f45.body))=.next (U B (.F M1.d)):=λB=>aV (bV (aH (aE _) (aH (bV (aH (aE _) (aH (w6 _ _) (aH (bx _ _) bD)))) (aH (bV (aH (aE _) (aH (aE _) bD))) bD))));have k7:ex pg (cP n) (U (.O ([Cn.yes,.yes,.yes,F,.nt F].map Cn.d)) (.F M1.d)) (hdS (drp 6 f45.body))=.next (U (.O ([Cn.yes,.yes,.yes,F,.nt F,.two false F M1].map Cn.d)) (.F M1.d)):=gC (bV (aH (aE _) (aH (w5 _ _) (aH (aB 8 rfl) bD)))) rfl (by unfold lim;simp) rfl rfl
 let M2:=Cn.cmp false O (.two true (.box b) (.num 1))
 have k8:∀B I,ex pg (cP n) (U B I) (hdS (drp 7 f45.body))=.next (U B (.F M2.d)):=λB I=>aV (bV (aH (aE _) (aH (w6 _ _) (aH (bV (aH (aE _) (aH (bx _ _) (aH (bV (aH (aE _) (aH (aE _) bD))) bD)))) bD))))
 let gl:List Cn:=[.yes,.yes,.yes,F,.nt F,.two false F M1]++[.two true M2 (.nt F)]
 have e9:=eF (o:=.Add) (P:=pg) (W:=cP n) (Z:=U (.O ([Cn.yes,.yes,.yes,F,.nt F,.two false F M1].map Cn.d)) (.F M2.d)) (a:=.v 7) (aCn 7 false _) (dK (aH (bV (aH (aE (.str "both")) (aH (aB 8 (d:=M2.d) rfl) (aH (nf _ _) bD)))) bD)) (sR rfl rfl (bQ Cn.noL _) (bQ Cn.noL [Cn.two true M2 (.nt F)]) (by unfold lim;simp));obtain⟨g,hg,q1⟩:=qJ (n:=7) (zs:=gl) (f:=Cn.d) e9 (by show D.lst _=D.lst (gl.map Cn.d);rw[Ax];rfl) (y 3 _ _ _ _ _ _ (by decide)) rfl (by decide) (λt _=>t.noL);have wb:=zo.ok b hb;have wq:=zo.ok q hq;have q2:0<=L.getD 1 0 % 3/\L.getD 1 0 % 3<=99:=by omega
 have q0:∀t∈gl,t.wf bs.length true/\t.sz<=31:=aDN wb wq q2;exact⟨g,(q0 g hg).1,(q0 g hg).2,aI (F:=f45) rfl rfl (v:=.cl g.d) (cs k1 (cs k2 (cs k3 (cs k4 (cs k5 (cs (k6 _) (cs k7 (cs (k8 _ _) (bB q1)))))))))⟩
theorem aGy{α:Type}{f:α->D}{v:Vl}(xs:List α)(x:α)(I:v.d=.lst ((xs++[x]).map f))(B:noL (f x)=true):eK v (.cl (.i (-1)))=.ok (.cl (f x)):=by
 have q:((xs++[x]).map f).length=xs.length+1:=by simp
 have L:((xs++[x]).map f)[xs.length]? = some (f x):=by simp
 unfold eK;rw[I];show(match ixN ((xs++[x]).map f).length (-1) with
  | some j=>(match ((xs++[x]).map f)[j]? with|some d=>R.ok (v.sub d)|none=>.bad)
  | none=>.bad)=_
 have:ixN ((xs++[x]).map f).length (-1)=some xs.length:=by
  rw[q];unfold ixN;rw[if_neg (by decide),if_pos (by omega)]
  congr 1
  omega
 rw[this];show(match ((xs++[x]).map f)[xs.length]? with|some d=>R.ok (v.sub d)|none=>.bad)=_;rw[L];exact congrArg R.ok (dD B)
theorem aIx{ps:List (Nat×Sm)}{q p:Nat×Sm}(h:Up (ps++[q]))(B:q.1<p.1):Up (ps++[q]++[p]):=by unfold Up at h ⊢;rw[List.pairwise_append];grind
variable {bs:List (Str×Int)}
theorem aMo(q:bs∈boxSet){k:Nat}(h:k<bs.length):0<=gJ bs k/\gJ bs k<=99:=by
 unfold gJ;have B:k<(bs.map (·.2)).length:=by rw[lM];exact h
 rw[Ae,Ac B,DJ,A6];have:=xH q bs[k] (AF h);omega
theorem aIy{m b q:Nat}{t k:Int}(L:b<m)(U:q<m)(I:0<=t/\t<=99)(B:0<=k/\k<=99):∀s∈([.two false (.num t) (.box b),.num k]++[.box q,.two true (.box q) (.num 0)]:List Sm),s.wf m true/\s.sz<=3:=by simp only[GP,DR,A4,AJ,Ev];rintro s (rfl|rfl|rfl|rfl) <;> simp[Sm.wf,Sm.sz,L,U,I.1,I.2,B.1,B.2]
abbrev pdF(ys:List Int)(bs:List (Str×Int))(z:List Nat)(ps:List (Nat×Sm))(s4 s5 s6 s7 s8:Sl):Sg:=[.T (.lst (ys.map D.int)),.T (.lst (aF bs)),.T (nW z),.O (ps.map eR),s4,s5,s6,s7,s8]
abbrev pdB:Ss:=match hdS (drp 1 f46.body) with|.for _ _ b=>b|_=>.z
theorem aDO(n:Nat)(q5:bs∈boxSet){ys:List Int}(hl:ys.length=7){z:List Nat}(zo:oU bs.length z){ps:List (Nat×Sm)}{k:Nat}(hk:k<2)(ok:∀p∈ps,mE bs.length p)(up:Up ps)(pl:ps.length<=k)(s5 s6 U L:Sl) :
 ∃(I:List (Nat×Sm)) (t5 t6 t7 t8:Sl),(∀p∈I,mE bs.length p)/\Up I/\I.length<=k+1/\exs pg (cP n) (pdF ys bs z ps (.F (aG k)) s5 s6 U L) pdB=.next (pdF ys bs z I (.F (aG k)) t5 t6 t7 t8):=by
 have v0:∀ps s5 s6 U L,ev pg (cP n) (pdF ys bs z ps (.F (aG k)) s5 s6 U L) eV0=.ok ⟨.lst (ys.map D.int),false,true,[]⟩:=λ_ _ _ _ _=>aK 0 rfl;have v2:∀ps s5 s6 U L,ev pg (cP n) (pdF ys bs z ps (.F (aG k)) s5 s6 U L) eV2=.ok ⟨.lst (z.map aG),false,true,[]⟩:=λ_ _ _ _ _=>aK 2 rfl;have y:∀(a:Nat) ps s5 s6 U L,a<6->ev pg (cP n) (pdF ys bs z ps (.F (aG k)) s5 s6 U L) (.idx eV0 (.op .Add (.c (.i (a:Int))) eV4))=.ok (.cl (.i (ys.getD (a+k) 0))):=λa ps s5 s6 U L ha=>fK (v0 _ _ _ _ _) rfl (by
  have:=dP (P:=pg) (W:=cP n) (Z:=pdF ys bs z ps (.F (aG k)) s5 s6 U L) (aE (.i (a:Int))) (aB 4 (d:=aG k) rfl);rw[show(a:Int)+(k:Int)=((a+k:Nat):Int) by omega] at this;exact this) (by omega)
 obtain⟨b,hb,e1⟩:=oV (v2 ps s5 s6 U L) rfl (y 1 ps s5 s6 U L (by decide)) zo.one cY;have wb:=zo.ok b hb;obtain⟨bd,nb,i1,i2⟩:=aCw wb;have k1:ex pg (cP n) (pdF ys bs z ps (.F (aG k)) s5 s6 U L) (hdS pdB)=.next (pdF ys bs z ps (.F (aG k)) (.F (aG b)) s6 U L):=aV e1;have k2:ex pg (cP n) (pdF ys bs z ps (.F (aG k)) (.F (aG b)) s6 U L) (hdS (drp 1 pdB))=.next (pdF ys bs z ps (.F (aG k)) (.F (aG b)) (.F (Sm.num (gJ bs b)).d) U L):=aV (bV (aH (aE _) (aH (aZ (aZ (aK 1 rfl) (aB 5 (d:=aG b) rfl) i1) (aE (.i 1)) i2) bD)));obtain⟨q,hq,e3⟩:=oV (v2 ps (.F (aG b)) (.F (Sm.num (gJ bs b)).d) U L) rfl (y 3 ps (.F (aG b)) (.F (Sm.num (gJ bs b)).d) U L (by decide)) zo.one cY;have k3:ex pg (cP n) (pdF ys bs z ps (.F (aG k)) (.F (aG b)) (.F (Sm.num (gJ bs b)).d) U L) (hdS (drp 2 pdB))=.next (pdF ys bs z ps (.F (aG k)) (.F (aG b)) (.F (Sm.num (gJ bs b)).d) (.F (Sm.box q).d) L):=aV (bV (aH (aE _) (aH e3 bD)))
 let τ:List (Nat×Sm)->Sl->Sg:=λps L=>pdF ys bs z ps (.F (aG k)) (.F (aG b)) (.F (Sm.num (gJ bs b)).d) (.F (Sm.box q).d) L
 let A:List Sm:=[.two false (.num (gJ bs b)) (.box b),.num (ys.getD (3+k) 0 % 2)]
 let B:List Sm:=[.box q,.two true (.box q) (.num 0)]
 have k4:ex pg (cP n) (τ ps L) (hdS (drp 3 pdB))=.next (τ ps (.O (A.map Sm.d))):=bO (dK (aH (bV (aH (aE _) (aH (aB 6 rfl) (aH (bV (aH (aE _) (aH (aB 5 rfl) bD))) bD)))) (aH (bV (aH (aE _) (aH (eJ (y 3 _ _ _ _ _ (by decide)) (aE (.i 2)) (by decide)) bD))) bD)));have w7:∀ps L,ev pg (cP n) (τ ps L) eV7=.ok (.cl (Sm.box q).d):=λ_ _=>aB 7 rfl;have k5:ex pg (cP n) (τ ps (.O (A.map Sm.d))) (hdS (drp 4 pdB))=.next (τ ps (.O ((A++B).map Sm.d))):=by rw[Ax];exact bO (eF (aW 8 rfl) (dK (aH (w7 _ _) (aH (bV (aH (aE _) (aH (w7 _ _) (aH (bV (aH (aE _) (aH (aE _) bD))) bD)))) bD))) (sR rfl rfl (bQ Sm.noL A) (bQ Sm.noL B) (by unfold lim;simp[A,B])))
 obtain⟨s,hs,e6⟩:=qJ (n:=4) (zs:=A++B) (f:=Sm.d) (aW (P:=pg) (W:=cP n) (Z:=τ ps (.O ((A++B).map Sm.d))) 8 rfl) rfl (y 5 _ _ _ _ _ (by decide)) rfl (by decide) (λt _=>t.noL);have so:=aIy wb (zo.ok q hq) (aMo q5 wb) (k:=ys.getD (3+k) 0 % 2) (by omega) s hs;have po:mE bs.length (b,s):=⟨wb,so.1,so.2⟩
 have v3:=aW (P:=pg) (W:=cP n) (Z:=τ ps (.O ((A++B).map Sm.d))) 3 rfl;have q1:=dL v3 rfl;have q2:exs pg (cP n) (τ ps (.O ((A++B).map Sm.d))) (match hdS (drp 5 pdB) with|.iff _ a _=>a|_=>.z)=.next (τ (ps++[(b,s)]) (.O ((A++B).map Sm.d))):=bG (gC (iC (aB 5 (d:=aG b) rfl) e6) rfl (by rw[lM];unfold lim;omega) rfl (by rw[Ax];rfl));have q3:∀{Z'},ex pg (cP n) (τ ps (.O ((A++B).map Sm.d))) (hdS (drp 5 pdB))=.next Z'->exs pg (cP n) (pdF ys bs z ps (.F (aG k)) s5 s6 U L) pdB=.next Z':=λe=>cs k1 (cs k2 (cs k3 (cs k4 (cs k5 (bG e)))));rcases(show ps=[]\/∃I p,ps=I++[p] from(List.eq_nil_or_concat ps).imp id λ⟨a,b,e⟩=>⟨a,b,by rw[e,List.concat_eq_append]⟩) with rfl|⟨I,p,rfl⟩
 refine⟨[(b,s)],_,_,_,_,λp hp=>?_,List.pairwise_singleton _ _,by simp,q3 (oT (aJu (cA q1 (aE _) rfl)) q2)⟩;rw[AE] at hp;rw[hp];exact po;have q0:tst pg (cP n) (τ (I++[p]) (.O ((A++B).map Sm.d))) (.cmp .Lt (.idx (.idx eV3 (.neg eC1)) eC0) eV5)=.ok (decide ((p.1:Int)<(b:Int))):=cA (aZ (aZ v3 (by rw[aLY];rfl) (aGy (f:=eR) I p rfl (qG p))) (aE (.i 0)) (fP _ _ rfl)) (aB 5 (d:=aG b) rfl) rfl;have q4:tst pg (cP n) (τ (I++[p]) (.O ((A++B).map Sm.d))) (.cmp .Eq (.bi .len (eL1 eV3)) eC0)=.ok false:=cA q1 (aE (.i 0)) (congrArg some (beq_eq_false_iff_ne.mpr (by simp;omega)));by_cases q6:p.1<b;rw[Ak (by omega)] at q0;exact⟨I++[p]++[(b,s)],_,_,_,_,kC ok po,aIx up q6,by rw[lA];simp at pl ⊢;omega,q3 (oT (eS q4 q0) q2)⟩;rw[A3 (by omega)] at q0;exact⟨I++[p],_,_,_,_,ok,up,by omega,q3 (bR (eS q4 q0))⟩
theorem aDP(n:Nat)(q0:bs∈boxSet){q:List Int}(hl:q.length=7){z:List Nat}(zo:oU bs.length z):∃ps:List (Nat×Sm),(∀p∈ps,mE bs.length p)/\Up ps/\cP (n+1) 46 [.lst (q.map D.int),.lst (aF bs),nW z]=.ok (.tup (ps.map eR),false,false):=by
 have y0:=eJ (P:=pg) (W:=cP n) (Z:=pdF q bs z [] .x .x .x .x .x) (fK (k:=0) (aK 0 rfl) rfl (aE _) (by omega)) (aE (.i 3)) (by decide);obtain⟨N,eN,hN⟩:=xG (q.getD 0 0) (n:=3) (by decide);rw[show((3:Nat):Int)=3 from rfl] at eN;rw[eN] at y0;obtain⟨Z',ef,ps,s4,B,I,L,U,h1,h2,h3,rfl⟩:=cT (P:=pg) (W:=cP n) (Z:=pdF q bs z [] .x .x .x .x .x) (t:=.n 4) (b:=pdB) (λi Z=>∃(ps:List (Nat×Sm)) (s4 B I L U:Sl),(∀p∈ps,mE bs.length p)/\Up ps/\ps.length<=i/\Z=pdF q bs z ps s4 B I L U) (bM y0 rfl (by omega)) ⟨[],_,_,_,_,_,λ_ z=>absurd z AJ,Gy,Ao _,rfl⟩ λi hi Z ⟨ps,s4,B,I,L,U,h1,h2,h3,q1⟩=>by
  have q3:i<N:=by simpa using hi
  subst q1;obtain⟨q2,t5,t6,t7,t8,g1,g2,g3,g4⟩:=aDO n q0 hl zo (k:=i) (by omega) h1 h2 h3 B I L U;refine⟨pdF q bs z ps (.F (aG i)) B I L U,_,?_,g4,q2,_,t5,t6,t7,t8,g1,g2,g3,rfl⟩;rw[A6,AR,dA];rfl
 exact⟨ps,h1,h2,aI (F:=f46) rfl rfl (v:=.cl (.tup (ps.map eR))) (cs (Z':=pdF q bs z [] .x .x .x .x .x) rfl (cs ef (bB (dT (aW 3 rfl) (aCv 3 (gL ps))))))⟩
theorem aIz{α q:Type}(f:α->q)(xs:List α)(lo hi:Option Int):cut (xs.map f) lo hi=(cut xs lo hi).map f:=by unfold cut;rw[lM,Cy,CI]
theorem aIA{q:List Int}(h:q.length=12):(cut q (some 4) (some 11)).length=7:=by unfold cut;rw[A0,Bw,h];rfl
theorem aPg{P:Pg}{W:Caller}{Z:Sg}{a b c e:E}{x y z w:Vl}(h1:ev P W Z a=.ok x)(h2:ev P W Z b=.ok y)(q:ev P W Z c=.ok z)(B:ev P W Z e=.ok w):evs P W Z (.k a (.k b (.k c (.k e .z))))=.ok [x,y,z,w]:=by rw[aM,h1,aA,aM,h2,aA,aM,q,aA,aM,B,aA,cN];rfl
theorem jA{P:Pg}{W:Caller}{Z:Sg}{f:Nat}{a b c e:E}{x y z w:Vl}{d:D}{fr:Bool}(h1:ev P W Z a=.ok x)(h2:ev P W Z b=.ok y)(q:ev P W Z c=.ok z)(B:ev P W Z e=.ok w)(I:W f [x.d,y.d,z.d,w.d]=.ok (d,fr,false)):ev P W Z (.call f (.k a (.k b (.k c (.k e .z)))))=.ok ⟨d,fr,false,[]⟩:=by rw[gG,aPg h1 h2 q B,aA,show [x,y,z,w].map (·.d)=[x.d,y.d,z.d,w.d] from rfl,I];rfl
noncomputable def Is(s:Sl)(ds:List D):Prop:=s=.O ds\/s=.F (.lst ds)
theorem aJw{P:Pg}{W:Caller}{Z:Sg}{s:Sl}{ds:List D}(h:Is s ds){i:Nat}(hi:Z[i]? = some s):∃v,ev P W Z (.v i)=.ok v/\v.d=.lst ds/\v.pa=false:=by rcases h with rfl|rfl;exact⟨_,aW i hi,rfl,rfl⟩;exact⟨_,aB i hi,rfl,rfl⟩
theorem aMp{P:Pg}{W:Caller}{Z:Sg}{i:Nat}{e:E}{ds:List D}{fr:Bool}(h:ev P W Z e=.ok ⟨.lst ds,fr,false,[]⟩):∃s,Is s ds/\ex P W Z (.set (.n i) e)=.next (Z.set i s):=by
 cases fr with
 | true=>exact⟨_,.inl rfl,bO h⟩|false=>exact⟨_,.inr rfl,aV h⟩
variable {bs:List (Str×Int)}
abbrev hdF(c:Int)(bs:List (Str×Int))(h r:Nat)(sh:Int)(xs:List Int)(s6:Sl)(rs:List (List Way))(s8 s9 s10 s11 s12 s13:Sl):Sg:=[.T (.i c),.T (.lst (aF bs)),.T (.i h),.T (.i r),.T (.i sh),.O (xs.map D.int),s6,.O (bU rs),s8,s9,s10,s11,s12,s13]
abbrev hdB:Ss:=match hdS (drp 3 f47.body) with|.for _ _ b=>b|_=>.z
abbrev hdI:Ss:=match hdS (drp 1 hdB) with|.for _ _ b=>b|_=>.z
theorem aIB{P:Pg}{W:Caller}{Z:Sg}{a b c:E}{x:Vl}{i j:Int}(h1:ev P W Z a=.ok x)(h2:ev P W Z b=.ok (.cl (.i i)))(q:ev P W Z c=.ok (.cl (.i j)))(s1:aO i=true)(s2:aO j=true):ev P W Z (.sli a (.k b .z) (.k c .z))=eC x (some i) (some j):=by simp_all
theorem aGz(n:Nat)(q2:bs∈boxSet){c sh:Int}{h r:Nat}{xs:List Int}(hx:xs.length=3+14*r){z:List Nat}(zo:oU bs.length z){s6:Sl}(hz:Is s6 (z.map aG)){rs:List (List Way)}{k j:Nat}(hk:k<r)(hj:j<4){ws:List Way}(wo:∀w∈ws,cV bs.length w/\0<=w.nx/\w.nx<(r:Int)+1)(wl:ws.length<=j)(L I B:Sl) :
 ∃(w:Way) (q4 q5 q6:Sl),(cV bs.length w/\0<=w.nx/\w.nx<(r:Int)+1)/\exs pg (call pg (n+1)) (hdF c bs h r sh xs s6 rs (.sh false (aG k)) (.own false (ws.map Way.d)) (.sh false (aG j)) L I B) hdI=.next (hdF c bs h r sh xs s6 rs (.sh false (aG k)) (.own false ((ws++[w]).map Way.d)) (.sh false (aG j)) q4 q5 q6):=by
 let τ:Sl->Sl->Sl->Sl->Sg:=λs9 L I B=>hdF c bs h r sh xs s6 rs (.sh false (aG k)) s9 (.sh false (aG j)) L I B
 have v5:∀s9 L I B,ev pg (call pg (n+1)) (τ s9 L I B) eV5=.ok ⟨.lst (xs.map D.int),false,false,[5]⟩:=λ_ _ _ _=>aW 5 rfl;have q1:opD .Mult (.cl (.int 14)) (.cl (.int (k:Int)))=.ok (.cl (.int (14*k))):=mul_int (by
  unfold iF;rw[Ak (by omega),Ak (by omega)];rfl)
 have ix:∀s9 L I B,ev pg (call pg (n+1)) (τ s9 L I B) (.op .Add (.op .Add eC3 (.op .Mult aGh eV8)) mR)=.ok (.cl (.int ((3+14*k+j:Nat):Int))):=λs9 L I B=>by have:=dP (P:=pg) (W:=call pg (n+1)) (Z:=τ s9 L I B) (dP (aE (.int 3)) (eF (aE (.int 14)) (aB 8 rfl) q1)) (aB 10 rfl);rw[show(3:Int)+14*(k:Int)+(j:Int)=((3+14*k+j:Nat):Int) by omega] at this;exact this
 let U:=jH (xs.getD (3+14*k+j) 0) 12
 have yl:U.length=12:=eB _ _;have q0:∀s9 I B,ev pg (call pg (n+1)) (τ s9 (.own false (U.map D.int)) I B) nT=.ok ⟨.lst (U.map D.int),false,false,[11]⟩:=λ_ _ _=>aW 11 rfl;have ib:∀s9 I B,∃e:Nat,e<=1/\ev pg (call pg (n+1)) (τ s9 (.own false (U.map D.int)) I B) (.bi .int (eL1 (.cmp .Eq (.op .Mod (.idx eV5 eC2) eC5) eC0)))=.ok (.cl (.int (e:Int))):=λs9 I B=>by
  have e1:=mD (o:=.Eq) (eJ (fK (k:=2) (v5 s9 (.own false (U.map D.int)) I B) rfl (aE _) (by omega)) (aE (.int 5)) (by decide)) (aE (.int 0)) rfl;cases q:(xs.getD 2 0 % 5==0) with
  | true=>rw[q] at e1;exact⟨1,Ao _,dT e1 rfl⟩|false=>rw[q] at e1;exact⟨0,B6 _,dT e1 rfl⟩
 obtain⟨e,he,ie⟩:=ib (.own false (ws.map Way.d)) I B
 let nx:=U.getD 11 0 % ((r:Int)+(e:Int))
 have q3:0<=nx/\nx<(r:Int)+1:=by have h2:=Ds (U.getD 11 0) (show 0<(r:Int)+(e:Int) by omega);exact⟨(DX (U.getD 11 0) (show(r:Int)+(e:Int)≠0 by omega)),by show U.getD 11 0 % ((r:Int)+(e:Int))<_;omega⟩
 obtain⟨v6,z1,z2,_⟩:=aJw hz (Z:=τ (.own false (ws.map Way.d)) (.own false (U.map D.int)) (.sh false (.int nx)) B) (i:=6) rfl;obtain⟨g,g1,g2,g3⟩:=aBr n yl zo;obtain⟨q9,q7,q8,_⟩:=aJw hz (Z:=τ (.own false (ws.map Way.d)) (.own false (U.map D.int)) (.sh false (.int nx)) (.sh false g.d)) (i:=6) rfl;obtain⟨ps,p1,p2,p3⟩:=aDP n q2 (aIA yl) zo;have sl:ev pg (call pg (n+1)) (τ (.own false (ws.map Way.d)) (.own false (U.map D.int)) (.sh false (.int nx)) (.sh false g.d)) (.sli nT (eL1 eC4) (eL1 zX))=.ok ⟨.lst ((cut U (some 4) (some 11)).map D.int),true,false,[]⟩:=by rw[aIB (q0 _ _ _) (aE _) (aE _) rfl rfl];show R.ok (Vl.mk (.lst (cut (U.map D.int) (some 4) (some 11))) true (false&&!noLs (U.map D.int)) (if noLs (U.map D.int)=true then [] else [11]))=_;rw[fA,aIz];rfl
 let w:Way:=⟨g,ps,nx⟩
 exact⟨w,_,_,_,⟨⟨g1,g2,p1,p2⟩,q3⟩,cs ((λs9=>bO (cW (fK (v5 _ _ _ _) rfl (ix _ _ _ _) (by omega)) (aE (.int 12)) (eG rfl n _ (by decide)))) _) (cs (aV (eJ (fK (k:=11) (q0 (.own false (ws.map Way.d)) I B) rfl (aE _) (by omega)) (dP (aP 3 rfl rfl) ie) (by omega))) (cs (aV (bK (q0 _ _ _) (aK 1 rfl) z1 (by rw[z2];exact g3))) (bG (gC (aBm (aB 13 rfl) (bK sl (aK 1 rfl) q7 (by rw[q8];exact p3)) (aB 12 rfl)) rfl (by rw[lM];unfold lim;omega) rfl (by rw[Ax];rfl)))))⟩
theorem aDQ(n:Nat)(q8:bs∈boxSet)(c sh:Int){h r:Nat}(hh:h<3)(hr:r<=3):∃hd:List (List Way),hd.length=r/\xC bs.length hd/\cP (n+2) 47 [.i c,.lst (aF bs),.i h,.i r,.i sh]=.ok (.lst (bU hd),true,false):=by
 obtain⟨l3,l4⟩:=eV q8;have q9:opD .Mult (.cl (.i 14)) (.cl (.i (r:Int)))=.ok (.cl (.i (14*r))):=mul_int (by
  unfold iF;rw[Ak (by omega),Ak (by omega)];rfl)
 let xs:=jH c (3+14*r)
 have xl:xs.length=3+14*r:=eB _ _
 let Z:Sl->Sl->Sl->Sg:=λs5 s6 s7=>[.T (.i c),.T (.lst (aF bs)),.T (.i h),.T (.i r),.T (.i sh),s5,s6,s7,.x,.x,.x,.x,.x,.x]
 have k1:ex pg (cP (n+1)) (Z .x .x .x) (hdS f47.body)=.next (Z (.O (xs.map D.int)) .x .x):=by refine bO (cW (aP 0 rfl rfl) (dP (aE (.i 3)) (eF (aE (.i 14)) (aP 3 rfl rfl) q9)) ?_);rw[show(3:Int)+14*(r:Int)=((3+14*r:Nat):Int) by omega];exact eG rfl n c (by omega)
 obtain⟨z,fr,zo,hz⟩:=aGx n (xs.getD 0 0) hh sh l3 l4;have q6:=dL (aK (P:=pg) (W:=cP (n+1)) (Z:=Z (.O (xs.map D.int)) .x .x) 1 rfl) rfl;rw[show(aF bs).length=bs.length from lM _] at q6;have e2:ev pg (cP (n+1)) (Z (.O (xs.map D.int)) .x .x) (.call 44 (eL4 (.idx eV5 eC0) eV2 eV4 (.bi .len (eL1 eV1))))=.ok ⟨nW z,fr,false,[]⟩:=by exact jA (fK (k:=0) (aW 5 rfl) rfl (aE _) (by omega)) (aP 2 rfl rfl) (aP 4 rfl rfl) q6 hz
 obtain⟨s6,i6,k2⟩:=aMp e2;obtain⟨Z',ef,q,s8,s9,U,q0,q1,q4,g1,g2,rfl⟩:=cT (t:=.n 8) (b:=hdB) (λi Z=>∃(q:List (List Way)) (s8 s9 U q0 q1 q4:Sl),q.length=i/\(∀ws∈q,aGn bs.length r ws)/\Z=hdF c bs h r sh xs s6 q s8 s9 U q0 q1 q4) (bM (aP 3 rfl rfl) rfl (by omega)) ⟨[],_,_,_,_,_,_,rfl,λ_ z=>absurd z AJ,rfl⟩ λi hi Z ⟨q,s8,s9,U,q0,q1,q4,g1,g2,q7⟩=>by
  have w3:i<r:=by simpa using hi
  subst q7
  let Z2:=hdF c bs h r sh xs s6 q (.F (aG i)) (.O (([]:List Way).map Way.d)) U q0 q1 q4
  have m1:=eF (P:=pg) (W:=cP (n+1)) (Z:=Z2) (fK (k:=1) (aW 5 rfl) rfl (aE _) (by omega)) (dP (aB 8 rfl) (aE (.i 1))) (qD (by
   unfold yP;simp only[AO,bA];omega))
  have m2:=eJ m1 (aE (.i 4)) (by decide);obtain⟨M,eM,hM⟩:=xG (xs.getD 1 0 / ((i:Int)+1)) (n:=4) (by decide);rw[show((4:Nat):Int)=4 from rfl] at eM;rw[eM] at m2;have m3:=dP (aE (.i 1)) m2;rw[show(1:Int)+(M:Int)=((1+M:Nat):Int) by omega] at m3;obtain⟨Z3,q2,ws,q5,B,I,L,w1,w2,rfl⟩:=cT (t:=.n 10) (λj Z=>∃(ws:List Way) (q5 B I L:Sl),ws.length=j/\(∀w∈ws,cV bs.length w/\0<=w.nx/\w.nx<(r:Int)+1)/\Z=hdF c bs h r sh xs s6 q (.F (aG i)) (.O (ws.map Way.d)) q5 B I L) (bM m3 rfl (by omega)) ⟨[],_,_,_,_,rfl,λ_ z=>absurd z AJ,rfl⟩ λj hj Z ⟨ws,q5,B,I,L,w1,w2,q7⟩=>by
   have w7:j<1+M:=by simpa using hj
   subst q7;obtain⟨w,w4,w5,w6,o1,o2⟩:=aGz n q8 xl zo i6 w3 (j:=j) (by omega) w2 (by omega) B I L;refine⟨hdF c bs h r sh xs s6 q (.F (aG i)) (.O (ws.map Way.d)) (.F (aG j)) B I L,_,?_,o2,ws++[w],_,w4,w5,w6,by rw[lA,w1];rfl,kC w2 o1,rfl⟩;rw[A6,AR,dA];rfl
  have wl:ws.length=1+M:=by rw[w1];simp
  have q3:ex pg (cP (n+1)) (hdF c bs h r sh xs s6 q (.F (aG i)) (.O (ws.map Way.d)) q5 B I L) (hdS (drp 2 hdB))=.next (hdF c bs h r sh xs s6 (q++[ws]) (.F (aG i)) (.F (gR ws)) q5 B I L):=by refine(gC (aW 9 rfl) rfl (by rw[lM];unfold lim;omega) rfl rfl).trans ?_;unfold hdF bU;rw[Ax];rfl
  refine⟨hdF c bs h r sh xs s6 q (.F (aG i)) s9 U q0 q1 q4,_,?_,cs rfl (cs q2 (bG q3)),q++[ws],_,_,_,_,_,_,by rw[lA,g1];rfl,kC g2 ⟨by omega,by omega,w2⟩,rfl⟩;rw[A6,AR,dA];rfl
 have gl:q.length=r:=by rw[g1];simp
 exact⟨q,gl,⟨by omega,by rw[gl];exact g2⟩,aI (F:=f47) rfl rfl (v:=⟨.lst (bU q),true,false,[]⟩) (cs k1 (cs k2 (cs rfl (cs ef (lV rfl)))))⟩
variable {bs:List (Str×Int)}
abbrev cH(hs:W3):List D:=hs.map λh=>.lst (bU h)
abbrev aCz(hs:W3):List D:=hs.map λ_=>Cn.yes.d
abbrev nX(h:List (List Way)):List D:=(Am (h.length+1) Cn.yes).map Cn.d
abbrev fJ(hs:W3):List D:=hs.map λh=>.lst (nX h)
noncomputable def aU(bs:List (Str×Int))(g:Cn)(hs:W3):D:=.tup [.lst (aF bs),g.d,.lst (cH hs),.lst (aCz hs),.lst (fJ hs)]
structure dW (m:Nat) (hs:W3):Prop where
 ok:∀h∈hs,xC m h
 two:(hs.length=2/\∀h∈hs,h.length<=3)\/(hs.length=3/\∀h∈hs,h.length<=2)
theorem aAh(n:Nat){pl:Bool}{q:Cn}(w:q.wf bs.length pl)(z:q.sz<=31):cP (n+36) 29 [.lst (aF bs),q.d,.bl pl]=.ok (q.d,false,false):=by refine aI rfl rfl (v:=.cl q.d) (lV ?_);exact bB (bK (aK 0 rfl) (aP 1 rfl q.noL) (aP 2 rfl rfl) (aI (F:=f17) rfl rfl (cs (xD (nU (aK 0 rfl) (aE _) (aP 1 rfl q.noL) (aP 2 rfl rfl) (aE _) (kD (lM _) q (n+34) 0 (by omega) w (by omega)))) (xE rfl q.noL))))
theorem vB(n:Nat){pl:Bool}{B:List Cn}(o:∀q∈B,q.wf bs.length pl/\q.sz<=31)(hl:B.length<=100):cP (n+37) 30 [.lst (aF bs),.lst (B.map Cn.d),.i B.length,.bl pl]=.ok (.lst (B.map Cn.d),true,false):=by
 have L:=aK (P:=pg) (W:=cP (n+36)) (Z:=[.T (.lst (aF bs)),.T (.lst (B.map Cn.d)),.T (.i B.length),.T (.bl pl)]) 1 rfl;have I:=dL L rfl;rw[lM] at I;have k1:=bR (a:=.k (.rse 5 false (eL1 (.c (.str "there is a promise for each hand, and a note for each of its places")))) .z) (eS (dQ (fI (cs:=[.tList]) L rfl)) (cA (o:=.NotEq) I (aP 2 rfl rfl) (by
  show(some ((B.length:Int)==(B.length:Int))).map (!·)=_;rw[beq_self_eq_true];rfl)))
 refine aI (F:=f30) rfl rfl (cs k1 (bB (fG (al:=[]) (λq=>Vl.cl q.d) Cn.d Cn.noL ?_ (by unfold lim;omega) λq U=>⟨[.F q.d,.T (.lst (aF bs)),.T (.bl pl)],rfl,bK (aK 1 rfl) (aB 0 rfl) (aP 2 rfl rfl) (aAh n (o q U).1 (o q U).2)⟩)));rw[bL,L,aA];show R.ok (items _ (B.map Cn.d),[])=_;rw[cU Cn.noL]
theorem iD{m:Nat}{hs:W3}(o:dW m hs):2<=hs.length/\hs.length<=3:=by rcases o.two with z|z <;> omega
theorem aDR(n:Nat){hs:W3}(o:dW bs.length hs):cP (n+40) 31 [.lst (aF bs),.lst (cH hs)]=.ok (.lst (cH hs),true,false):=by
 obtain⟨l2,l3⟩:=iD o;have B:=aK (P:=pg) (W:=cP (n+39)) (Z:=[.T (.lst (aF bs)),.T (.lst (cH hs))]) 1 rfl;have q:=dL B rfl;rw[lM] at q;have I:ev pg (cP (n+39)) [.T (.lst (aF bs)),.T (.lst (cH hs))] (.comp 1 [0] (.n 0) (.seq eV1) .z (.call 21 (eL2 eV1 eV0)))=.ok ⟨.lst (cH hs),true,false,[]⟩:=by rw[nO (xs:=hs.map λh=>⟨.lst (bU h),false,true,[]⟩) (λx=>⟨x.d,true,false,[]⟩) ?_ (by rw[lM];unfold lim;omega) λx U=>?_];rw[As];exact congrArg R.ok (qH 1 [0] (λh=>D.lst (bU h)) hs);rw[bL,B,aA];show R.ok (items _ (cH hs),[])=_;unfold items;rw[As];rfl;obtain⟨h,L,rfl⟩:=A8.mp U;exact⟨[.T (.lst (bU h)),.T (.lst (aF bs))],rfl,cW (aK 1 rfl) (aK 0 rfl) (aAd n (o.ok h L))⟩
 exact aI (F:=f31) rfl rfl (v:=⟨.lst (cH hs),true,false,[]⟩) (cs (bR (eS (dQ (fI B rfl)) (dQ (aCy (aE (.i 1)) q (aE (.i 3)) (by omega) (by omega))))) (lV (bB I)))
theorem sU(n:Nat)(ds:List D):cP (n+1) 33 [.lst ds]=.ok (.i (ds.length+1),false,false):=
 aI (F:=f33) rfl rfl (bB (dP (dL (aK 0 rfl) rfl) (aE _)))
theorem aGA(m:Nat)(pl:Bool)(k:Nat):∀q∈Am k Cn.yes,q.wf m pl/\q.sz<=31:=λq B=>by rw[List.eq_of_mem_replicate B];exact⟨trivial,by decide⟩
theorem aCA{α:Type}(f g:α->D):∀xs:List α,fZ (xs.map f) (xs.map g)=xs.map λx=>.tup [f x,g x]
 | []=>rfl|x::xs=>by show .tup [f x,g x]::fZ (xs.map f) (xs.map g)=_;rw[aCA f g xs];rfl
theorem aDS(n:Nat){hs:W3}(o:dW bs.length hs):cP (n+38) 32 [.lst (aF bs),.lst (fJ hs),.lst (cH hs)]=.ok (.lst (fJ hs),true,false):=by
 obtain⟨l2,l3⟩:=iD o;have B:=aK (P:=pg) (W:=cP (n+37)) (Z:=[.T (.lst (aF bs)),.T (.lst (fJ hs)),.T (.lst (cH hs))]) 1 rfl;have I:=aK (P:=pg) (W:=cP (n+37)) (Z:=[.T (.lst (aF bs)),.T (.lst (fJ hs)),.T (.lst (cH hs))]) 2 rfl;have h1:=dL B rfl;have h2:=dL I rfl;rw[lM] at h1 h2;have k1:=bR (a:=.k (.rse 5 false (eL1 (.c (.str "there is a list of notes for each hand")))) .z) (eS (dQ (fI (cs:=[.tList]) B rfl)) (cA (o:=.NotEq) h1 h2 (by
  show(some ((hs.length:Int)==(hs.length:Int))).map (!·)=_;rw[beq_self_eq_true];rfl)))
 have L:ev pg (cP (n+37)) [.T (.lst (aF bs)),.T (.lst (fJ hs)),.T (.lst (cH hs))] (.comp 2 [0] (.t [0,1]) (.zip eV1 eV2) .z (.call 30 (eL4 eV2 eV0 (.call 33 (eL1 eV1)) (.c (.bl true)))))=.ok ⟨.lst (fJ hs),true,false,[]⟩:=by rw[nO (xs:=hs.map λh=>⟨.tup [.lst (nX h),.lst (bU h)],false,true,[]⟩) (λx=>⟨match x.d with|.tup (d::_)=>d|d=>d,true,false,[]⟩) ?_ (by rw[lM];unfold lim;omega) λx hx=>?_];rw[As];exact congrArg R.ok (qH 2 [0] (λh=>D.lst (nX h)) hs);rw[jT,B,aA,I,aA];show R.ok (items _ (fZ (fJ hs) (cH hs)),[])=_;rw[aCA];unfold items;rw[As];rfl;obtain⟨h,U,rfl⟩:=A8.mp hx;have pr:=sU (n+36) (bU h);rw[lM] at pr;have q:=vB n (aGA bs.length true (h.length+1)) (by rw[AK];have:=(o.ok h U).few;omega);rw[AK] at q;exact⟨[.T (.lst (nX h)),.T (.lst (bU h)),.T (.lst (aF bs))],rfl,jA (aK 2 rfl) (aK 0 rfl) (cX (aK 1 rfl) pr) (aE _) q⟩
 exact aI (F:=f32) rfl rfl (cs k1 (bB L))
theorem aDT(n:Nat)(q:bs∈boxSet):cP (n+1) 6 [.lst (aF bs)]=.ok (.i (jG bs),false,false):=by rcases box_six q with rfl|rfl|rfl|rfl|rfl|rfl <;> rfl
theorem aBs(n:Nat)(hb:bs∈boxSet){hs:W3}(o:dW bs.length hs):∃x:Int,x<=1000/\cP (n+2) 34 [.lst (aF bs),.lst (cH hs)]=.ok (.i x,false,false):=by
 obtain⟨W,p1⟩:=aAf hb;obtain⟨m,hm,L⟩:∃m:Nat,(∀h∈hs,h.length<=m)/\((hs.length=2/\m=3)\/(hs.length=3/\m=2)):=by
  rcases o.two with⟨a,b⟩|⟨a,b⟩
  exact⟨3,b,.inl ⟨a,rfl⟩⟩;exact⟨2,b,.inr ⟨a,rfl⟩⟩
 let B:Sl->Sl->Sg:=λs2 q=>[.T (.lst (aF bs)),.T (.lst (cH hs)),s2,q]
 have hw:walk pg (cP (n+1)) (B (.F (.i (jG bs))) .x) (.seq eV1)=.ok (hs.map (λh=>Vl.mk (.lst (bU h)) false true []),[]):=by rw[bL,aK 1 rfl,aA];show R.ok (items _ (cH hs),[])=_;unfold items;rw[As];rfl
 obtain⟨Z',ef,x,q,h0,h1,h2,rfl⟩:=cT (t:=.n 3) (b:=match hdS (drp 1 f34.body) with|.for _ _ b=>b|_=>.z) (λi Z=>∃(x:Int) (q:Sl),1<=x/\x<=24*((m:Int)+1) ^ i/\i<=3/\Z=B (.F (.i x)) q) hw ⟨jG bs,_,p1,by simpa using W,by decide,rfl⟩ λi hi Z ⟨x,q,h0,h1,h2,U⟩=>by
  have I:i<hs.length:=by simpa using hi
  subst U;have hl:=hm hs[i] (AF I);have hp:((m:Int)+1) ^ i<=64:=by
   have:i=0\/i=1\/i=2:=by omega
   have m2:m=3\/m=2:=by omega
   rcases this with rfl|rfl|rfl <;> rcases m2 with rfl|rfl <;> decide
  have pr:=sU n (bU hs[i]);rw[lM] at pr;have mo:iF x ((hs[i].length:Int)+1)=true:=by unfold iF;rw[Ak (by omega),Ak (by omega)];rfl
  refine⟨B (.F (.i x)) (.T (.lst (bU hs[i]))),B (.F (.i (x*((hs[i].length:Int)+1)))) (.T (.lst (bU hs[i]))),?_,bG (aV (eF (aB 2 rfl) (cX (aK 3 rfl) pr) (mul_int mo))),_,_,?_,?_,by omega,rfl⟩;rw[A6];rfl;have:=HV h0 (show(1:Int)<=(hs[i].length:Int)+1 by omega) (by decide) (by omega);omega;rw[Int.pow_succ,<-Int.mul_assoc];exact HV h1 (by omega) (by omega) (Fa (by omega) h1)
 refine⟨x,?_,aI rfl rfl (v:=.cl (.i x)) (cs (aV (cX (aK 0 rfl) (aDT n hb))) (cs ef (lV rfl)))⟩;rw[lM] at h1;rcases L with⟨a,b⟩|⟨a,b⟩
 rw[a,b] at h1;exact Fa h1 (by decide);rw[a,b] at h1;exact Fa h1 (by decide)
theorem xJ(n:Nat)(hb:bs∈boxSet){g:Cn}(gw:g.wf bs.length true)(gs:g.sz<=31){hs:W3}(o:dW bs.length hs):cP (n+41) 27 [.lst (aF bs),g.d,.lst (cH hs),.lst (aCz hs),.lst (fJ hs)]=.ok (aU bs g hs,false,false):=by
 obtain⟨l2,l3⟩:=iD o
 let τ:Sl->Sl->Sl->Sl->Sl->Sg:=λs5 I s7 L U=>[.T (.lst (aF bs)),.T g.d,.T (.lst (cH hs)),.T (.lst (aCz hs)),.T (.lst (fJ hs)),s5,I,s7,L,U]
 have W:∀I s7 L U,ev pg (cP (n+40)) (τ (.O (aF bs)) I s7 L U) eV5=.ok ⟨.lst (aF bs),false,false,[5]⟩:=λ_ _ _ _=>aW 5 rfl;have v7:∀I L U,ev pg (cP (n+40)) (τ (.O (aF bs)) I (.O (cH hs)) L U) eV7=.ok ⟨.lst (cH hs),false,false,[7]⟩:=λ_ _ _=>aW 7 rfl;have q:=dL (v7 (.F g.d) .x .x) rfl;rw[lM] at q;have pd:aCz hs=(Am hs.length Cn.yes).map Cn.d:=by rw[Gm];exact Hj ..
 have B:=vB (n+3) (aGA bs.length false hs.length) (by rw[AK];omega);rw[AK,<-pd] at B;obtain⟨x,hx,cx⟩:=aBs (n+38) hb o;exact aI rfl rfl (v:=⟨aU bs g hs,false,false,[5,7,8,9]⟩) (cs (bO (cX (aK 0 rfl) (xI (n+36) hb))) (cs (aV (bK (W _ _ _ _) (aP 1 rfl g.noL) (aE _) (aAh (n+4) gw gs))) (cs (bO (cW (W _ _ _ _) (aK 2 rfl) (aDR n o))) (cs (bO (jA (W _ _ _ _) (aK 3 rfl) q (aE _) B)) (cs (bO (fV (W _ _ _ _) (aK 4 rfl) (v7 _ _ _) (aDS (n+2) o))) (cs (bR (cA (fH (W _ _ _ _) (v7 _ _ _) cx) (aE _) (congrArg some (A3 (by omega))))) (bB rfl)))))))
section
variable {P:Pg} {W:Caller} {Z:Sg}
theorem aAi{f:Nat}{a b c e g:E}{x y z w u:Vl}{d:D}{fr:Bool}(h1:ev P W Z a=.ok x)(h2:ev P W Z b=.ok y)(q:ev P W Z c=.ok z)(B:ev P W Z e=.ok w)(I:ev P W Z g=.ok u)(L:W f [x.d,y.d,z.d,w.d,u.d]=.ok (d,fr,false)):ev P W Z (.call f (.k a (.k b (.k c (.k e (.k g .z))))))=.ok ⟨d,fr,false,[]⟩:=by
 have e:evs P W Z (.k a (.k b (.k c (.k e (.k g .z)))))=.ok [x,y,z,w,u]:=by rw[aM,h1,aA,aPg h2 q B I];rfl
 rw[gG,e,aA,show [x,y,z,w,u].map (·.d)=[x.d,y.d,z.d,w.d,u.d] from rfl,L];rfl
theorem kF{ns ms:List Int}{es:Es}{b:E}{k:Nat}(U:ns.length<=63)(hm:ms.length<=4)(q:Z[0]? = some (.T (.lst (ns.map D.int))))(I:evs P W Z es=.ok ((ms.map D.int).map Vl.cl))(B:ev P W Z b=.ok (.cl (.i (k:Int))))(L:k<ns.length+ms.length) :
 ev P W Z (.idx (.op .Add eV0 (.lst es)) b)=.ok (.cl (.i ((ns++ms).getD k 0))):=by refine fK (eF (aK 0 q) (dK I) (sR rfl rfl (fA ns) (fA ms) (by rw[lM,lM];unfold lim;omega))) ?_ B (by rw[lA];exact L);rw[Ax]
end
abbrev dC(p:Bool):Cn:=if p then .yes else .cmp false (.box 0) (.num 1)
abbrev hoF(ns xs:List Int)(s2 s3 s4 s5 s6 s7 s8:Sl):Sg:=[.T (.lst (ns.map D.int)),.O (xs.map D.int),s2,s3,s4,s5,s6,s7,s8]
theorem aBt(n:Nat)(ns:List Int){xs:List Int}(hx:xs.length=9):∃bs∈boxSet,∀ss,exs pg (cP n) (hoF ns xs .x .x .x .x .x .x .x) (.k (hdS (drp 1 f48.body)) (.k (hdS (drp 2 f48.body)) ss))=exs pg (cP n) (hoF ns xs (.O (aF bs)) .x .x .x .x .x .x) ss:=by
 have x:∀(k:Nat) s2,k<9->ev pg (cP n) (hoF ns xs s2 .x .x .x .x .x .x) (.idx eV1 (.c (.i (k:Int))))=.ok (.cl (.i (xs.getD k 0))):=λk s2 W=>fK (aW 1 rfl) rfl (aE _) (by omega);have I:ex pg (cP n) (hoF ns xs .x .x .x .x .x .x .x) (hdS (drp 1 f48.body))=.next (hoF ns xs (.O (aF (b3 (1+xs.getD 0 0 % 2) (1+xs.getD 1 0 % 2)))) .x .x .x .x .x .x):=bO (dK (aH (bV (aH (aE _) (aH (dP (aE _) (eJ (x 0 _ (by decide)) (aE (.i 2)) (by decide))) bD))) (aH (bV (aH (aE _) (aH (dP (aE _) (eJ (x 1 _ (by decide)) (aE (.i 2)) (by decide))) bD))) (aH (bV (aH (aE _) (aH (aE _) bD))) bD))));have h0:1+xs.getD 0 0 % 2=1\/1+xs.getD 0 0 % 2=2:=by omega
 have h1:1+xs.getD 1 0 % 2=1\/1+xs.getD 1 0 % 2=2:=by omega
 have B:tst pg (cP n) (hoF ns xs (.O (aF (b3 (1+xs.getD 0 0 % 2) (1+xs.getD 1 0 % 2)))) .x .x .x .x .x .x) (match hdS (drp 2 f48.body) with|.iff c _ _=>c|_=>.c .non)=.ok ((1+xs.getD 0 0 % 2+(1+xs.getD 1 0 % 2)==2)&&(xs.getD 6 0 % 3==0)):=aGm (cA ((λs t=>rfl) _ _) (aE _) rfl) (cA (eJ (x 6 (.O (aF (b3 (1+xs.getD 0 0 % 2) (1+xs.getD 1 0 % 2)))) (by decide)) (aE (.i 3)) (by decide)) (aE _) rfl);cases q:((1+xs.getD 0 0 % 2+(1+xs.getD 1 0 % 2)==2)&&(xs.getD 6 0 % 3==0)) with
 | false=>rw[q] at B;refine⟨b3 (1+xs.getD 0 0 % 2) (1+xs.getD 1 0 % 2),?_,λss=>cs I (cs (bR B) rfl)⟩;rcases h0 with h0|h0 <;> rcases h1 with h1|h1 <;> rw[h0,h1] <;> simp[boxSet]
 | true=>
  rw[q] at B;have L:1+xs.getD 0 0 % 2=1/\1+xs.getD 1 0 % 2=1:=by rw[bA] at q;have:=eq_of_beq q.1;omega
  have h6:1+xs.getD 6 0 / 3 % 2=1\/1+xs.getD 6 0 / 3 % 2=2:=by omega
  have U:ex pg (cP n) (hoF ns xs (.O (aF (b3 (1+xs.getD 0 0 % 2) (1+xs.getD 1 0 % 2)))) .x .x .x .x .x .x) (hdS (drp 2 f48.body))=.next (hoF ns xs (.O (aF (b3 (1+xs.getD 0 0 % 2) (1+xs.getD 1 0 % 2))++[box ("d",1+xs.getD 6 0 / 3 % 2)])) .x .x .x .x .x .x):=oT B (bG (gC (bV (aH (aE _) (aH (dP (aE _) (eJ (eF (x 6 _ (by decide)) (aE (.i 3)) (qD (by decide))) (aE (.i 2)) (by decide))) bD))) rfl (by unfold lim;simp[aF]) rfl rfl));rw[L.1,L.2] at U I;refine⟨b4 (1+xs.getD 6 0 / 3 % 2),?_,λss=>cs I (cs U rfl)⟩;rcases h6 with h6|h6 <;> rw[h6] <;> simp[boxSet]
theorem aIC(a b c:Int)(q:b=3\/b=2):∃r:Nat,(1+a % b)*(if c>0 then 1 else 0)=(r:Int)/\(r:Int)<=b:=by rcases q with rfl|rfl <;> split;exact⟨(1+a % 3).toNat,by omega,by omega⟩;exact⟨0,by omega,by omega⟩;exact⟨(1+a % 2).toNat,by omega,by omega⟩;exact⟨0,by omega,by omega⟩
theorem aBu(n:Nat){ns:List Int}(hn:ns.length<=63):∃bs∈boxSet,∃(p:Bool) (hs:List (List (List Way))),dW bs.length hs/\call pg (n+42) 48 [.lst (ns.map D.int)]=.ok (aU bs (dC p) hs,false,false):=by
 let xs:=jH ((ns++[0]).getD 0 0) 9
 have xl:xs.length=9:=eB _ _;obtain⟨bs,hb,kb⟩:=aBt (n+41) ns xl;obtain⟨l3,l4⟩:=eV hb
 let U:List (List (List Way))->Sl->Sl->Sl->Sl->Sl->Sg:=λhs s4 I q s7 L=>hoF ns xs (.own false (aF bs)) (.own false (cH hs)) s4 I q s7 L
 have x:∀(k:Nat) hs s4 I q s7 L,k<9->ev pg (call pg (n+41)) (U hs s4 I q s7 L) (.idx eV1 (.c (.int (k:Int))))=.ok (.cl (.int (xs.getD k 0))):=λk _ _ _ _ _ _ hk=>fK (aW 1 rfl) rfl (aE _) (by omega);have q2:∀hs s4 I q s7 L,ev pg (call pg (n+41)) (U hs s4 I q s7 L) (.op .Mod (.idx eV1 eC2) eC2)=.ok (.cl (.int (xs.getD 2 0 % 2))):=λhs s4 I q s7 L=>eJ (x 2 _ _ _ _ _ _ (by decide)) (aE (.int 2)) (by decide);obtain⟨M,eM,hM⟩:=xG (xs.getD 2 0) (n:=2) (by decide);rw[show((2:Nat):Int)=2 from rfl] at eM
 let B:Int:=if M=0 then 3 else 2
 have hB:B=3\/B=2:=by show(if M=0 then (3:Int) else 2)=3\/(if M=0 then (3:Int) else 2)=2;split;exact .inl rfl;exact .inr rfl
 have q3:∀hs s4 I q s7 L,ev pg (call pg (n+41)) (U hs s4 I q s7 L) (.idx (.lst (eL2 eC3 eC2)) (.op .Mod (.idx eV1 eC2) eC2))=.ok (.cl (.int B)):=λhs s4 I q s7 L=>by
  have:=q2 hs s4 I q s7 L;rw[eM] at this;have h2:=fK (xs:=[3,2]) (dK (aH (aE (.int 3)) (aH (aE (.int 2)) bD))) rfl this hM;have:([3,2]:List Int).getD M 0=B:=by
   have:M=0\/M=1:=by omega
   rcases this with rfl|rfl <;> rfl
  rw[this] at h2;exact h2
 have hr:=dP (aE (.int 2)) (q2 [] .dead .dead .dead .dead .dead);rw[eM,show(2:Int)+(M:Int)=((2+M:Nat):Int) by omega] at hr;obtain⟨Z',ef,hs,s4,I,q,g1,g2,rfl⟩:=cT (t:=.n 4) (b:=match hdS (drp 4 f48.body) with|.for _ _ b=>b|_=>.nil) (λi Z=>∃(hs:List (List (List Way))) (s4 I q:Sl),hs.length=i/\(∀h∈hs,xC bs.length h/\(h.length:Int)<=B)/\Z=U hs s4 I q .dead .dead) (bM hr rfl (by omega)) ⟨[],_,_,_,rfl,λ_ z=>absurd z AJ,rfl⟩ λi hi Z ⟨hs,s4,I,q,g1,g2,q6⟩=>by
  have q8:i<2+M:=by simpa using hi
  subst q6;have x3:∀I q,ev pg (call pg (n+41)) (U hs (.sh false (aG i)) I q .dead .dead) (.idx eV1 (.op .Add eC3 eV4))=.ok (.cl (.int (xs.getD (3+i) 0))):=λI q=>fK (aW 1 rfl) rfl (by
   have:=dP (P:=pg) (W:=call pg (n+41)) (Z:=U hs (.sh false (aG i)) I q .dead .dead) (aE (.int 3)) (aB 4 rfl);rw[show(3:Int)+(i:Int)=((3+i:Nat):Int) by omega] at this;exact this) (by omega)
  obtain⟨r,er,q9⟩:=aIC (xs.getD (3+i) 0) B (xs.getD (3+i) 0 / 6 % 9) hB;have b6:ev pg (call pg (n+41)) (U hs (.sh false (aG i)) (.sh false (.int (1+xs.getD (3+i) 0 % B))) q .dead .dead) (.bi .int (eL1 (.cmp .Gt (.op .Mod (.op .FloorDiv (.idx eV1 (.op .Add eC3 eV4)) eC6) eC9) eC0)))=.ok (.cl (.int (if xs.getD (3+i) 0 / 6 % 9>0 then 1 else 0))):=by refine dT (mD (eJ (eF (x3 (.sh false (.int (1+xs.getD (3+i) 0 % B))) q) (aE (.int 6)) (qD (by decide))) (aE (.int 9)) (by decide)) (aE (.int 0)) rfl) ?_;by_cases hq:xs.getD (3+i) 0 / 6 % 9>0;rw[if_pos hq,Ak hq];rfl;rw[if_neg hq,A3 hq];rfl
  have m2:ex pg (call pg (n+41)) (U hs (.sh false (aG i)) (.sh false (.int (1+xs.getD (3+i) 0 % B))) q .dead .dead) (.set (.n 5) (.op .Mult eV5 (.bi .int (eL1 (.cmp .Gt (.op .Mod (.op .FloorDiv (.idx eV1 (.op .Add eC3 eV4)) eC6) eC9) eC0)))))=.next (U hs (.sh false (aG i)) (.sh false (.int r)) q .dead .dead):=by
   rw[<-er];refine aV (eF (aB 5 rfl) b6 (mul_int ?_));have h1:0<=xs.getD (3+i) 0 % B/\xs.getD (3+i) 0 % B<3:=by rcases hB with h|h <;> rw[h] <;> omega
   unfold iF;rw[Ak (by omega),Ak (by omega)];rfl
  have q4:=kF (ms:=[0,0,0,0]) hn (by decide) rfl (aH (aE (.int 0)) (aH (aE (.int 0)) (aH (aE (.int 0)) (aH (aE (.int 0)) bD)))) (by
   have:=dP (P:=pg) (W:=call pg (n+41)) (Z:=U hs (.sh false (aG i)) (.sh false (.int r)) q .dead .dead) (aE (.int 1)) (aB 4 rfl);rw[show(1:Int)+(i:Int)=((1+i:Nat):Int) by omega] at this;exact this) (by simp;omega)
  have c7:opD .Mult (.cl (.int 7)) (.cl (.int (i:Int)))=.ok (.cl (.int (7*i))):=mul_int (by
   unfold iF;rw[Ak (by omega),Ak (by omega)];rfl)
  obtain⟨h,hl,ho,hc⟩:=aDQ (n+39) hb ((ns++[0,0,0,0]).getD (1+i) 0+7*i) (xs.getD 8 0 % 3) (h:=i) (r:=r) (by omega) (by omega);have q1:ev pg (call pg (n+41)) (U hs (.sh false (aG i)) (.sh false (.int r)) (.sh false (.int ((ns++[0,0,0,0]).getD (1+i) 0+7*i))) .dead .dead) (.call 47 (eL5 eV6 eV2 eV4 eV5 (.op .Mod (.idx eV1 eC8) eC3)))=.ok ⟨.lst (bU h),true,false,[]⟩:=by exact aAi (aB 6 rfl) (aW 2 rfl) (aB 4 rfl) (aB 5 rfl) (eJ (x 8 _ _ _ _ _ _ (by decide)) (aE (.int 3)) (by decide)) hc
  refine⟨U hs (.sh false (aG i)) I q .dead .dead,_,?_,cs (aV (dP (aE _) (eJ (x3 _ _) (q3 _ _ _ _ _ _) (by omega)))) (cs m2 (cs (aV (dP q4 (eF (aE (.int 7)) (aB 4 rfl) c7))) (bG (gC q1 rfl (by rw[lM];unfold lim;omega) rfl (by rw[cH,Ax];rfl))))),hs++[h],_,_,_,by rw[lA,g1];rfl,kC g2 ⟨ho,by omega⟩,rfl⟩;rw[A6,AR,dA];rfl
 have gl:hs.length=2+M:=by rw[g1];simp
 have ho:dW bs.length hs:=⟨λh hh=>(g2 h hh).1,by
  have:M=0\/M=1:=by omega
  rcases this with rfl|rfl;exact .inl ⟨gl,λh hh=>by have:=(g2 h hh).2;have:(h.length:Int)<=3:=this;omega⟩;exact .inr ⟨gl,λh hh=>by have:=(g2 h hh).2;have:(h.length:Int)<=2:=this;omega⟩⟩
 obtain⟨p,_,e7⟩:=qJ (zs:=[true,false]) (f:=λp=>(dC p).d) (dK (aH (bV (aH (aE _) bD)) (aH (bV (aH (aE _) (aH (bV (aH (aE _) (aH (aE _) bD))) (aH (bV (aH (aE _) (aH (aE _) bD))) bD)))) bD))) rfl (x 7 _ _ _ _ _ _ (by decide)) rfl (by decide) (λt _=>Cn.noL _);have q0:∀(s3:Sl) (al:List Nat) (L:Sl),ev pg (call pg (n+41)) (hoF ns xs (.own false (aF bs)) s3 s4 I q (.sh false (dC p).d) L) eV3=.ok ⟨.lst (cH hs),false,false,al⟩->walk pg (call pg (n+41)) (hoF ns xs (.own false (aF bs)) s3 s4 I q (.sh false (dC p).d) L) (.seq eV3)=.ok (hs.map (λh=>Vl.mk (.lst (bU h)) false false al),al):=λs3 al L h=>by rw[bL,h,aA];show R.ok (items _ (cH hs),al)=_;unfold items;rw[As];rfl
 have e8:ev pg (call pg (n+41)) (U hs s4 I q (.sh false (dC p).d) .dead) (.comp 1 [] (.n 0) (.seq eV3) .nil (.op .Mult (.lst (eL1 (.tup (eL1 (.c (.str "yes")))))) (.op .Add (.bi .len (eL1 eV0)) eC1)))=.ok (fE 1 [] [3] (hs.map λh=>Vl.mk (.lst (nX h)) true false [])):=by
  rw[nO (λx=>⟨match x.d with|.lst ds=>.lst ((Am (ds.length+1) Cn.yes).map Cn.d)|d=>d,true,false,[]⟩) (q0 _ _ _ (aW 3 rfl)) (by rw[lM];unfold lim;omega) λy hy=>?_];rw[As];refine congrArg (λz=>R.ok (fE 1 [] [3] z)) (Bf λh _=>?_);show Vl.mk (.lst ((Am ((bU h).length+1) Cn.yes).map Cn.d)) true false []=_;rw[show(bU h).length=h.length from lM _];obtain⟨h,hh,rfl⟩:=A8.mp hy;have q7:=(g2 h hh).1.few;refine⟨[.sh false (.lst (bU h))],rfl,?_⟩;refine eF (dK (aH (bV (aH (aE _) bD)) bD)) (dP (dL (aB 0 rfl) rfl) (aE (.int 1))) ?_;rw[show(bU h).length=h.length from lM _];show R.iff (true&&aO ((h.length:Int)+1)&&decide (1*((h.length:Int)+1).toNat<=lim)&&noLs [Cn.yes.d]) (.ok (Vl.mk (.lst (Am ((h.length:Int)+1).toNat [Cn.yes.d]).flatten) true false []))=R.ok (Vl.mk (.lst ((Am ((bU h).length+1) Cn.yes).map Cn.d)) true false []);have sk:aO ((h.length:Int)+1)=true:=iW (n:=h.length+1) (by omega);have tn:((h.length:Int)+1).toNat=h.length+1:=by omega
  have fl:∀k:Nat,(Am k [Cn.yes.d]).flatten=(Am k Cn.yes).map Cn.d:=λk=>by
   induction k with
   | zero=>rfl|succ k ih=>rw[B2,BV,ih,B2,mC];rfl
  rw[sk,tn,fl,show(bU h).length=h.length from lM _,Ak (by unfold lim;omega)];rfl
 have cv:fE 1 [] [3] (hs.map λh=>Vl.mk (.lst (nX h)) true false [])=⟨.lst (fJ hs),true,false,[3]⟩:=by
  have e0:=qH 1 [] (λh=>D.lst (nX h)) hs;have q5:noLs (fJ hs)=false:=by
   cases hs with
   | nil=>simp at gl;omega|cons h _=>rfl
  have e1:(hs.map λh=>Vl.mk (.lst (nX h)) true false []).map (·.d)=fJ hs:=by rw[As];rfl
  unfold fE at e0 ⊢;rw[e1,q5,if_neg bN] at e0 ⊢;injection e0 with _ _ e2 e3
  rw[e2];have e3:(bZ (hs.map λh=>Vl.mk (.lst (nX h)) true false [])).filterMap (λj=>([]:List Nat)[j-1]?)=[]:=e3;rw[e3];rfl
 rw[cv] at e8;have k8:ex pg (call pg (n+41)) (U hs s4 I q (.sh false (dC p).d) .dead) (hdS (drp 6 f48.body))=.next (hoF ns xs (.own false (aF bs)) (.sh false (.lst (cH hs))) s4 I q (.sh false (dC p).d) (.own false (fJ hs))):=by show ex pg (call pg (n+41)) _ (.set (.n 8) _)=_;rw[iB,e8];rfl
 have bw:(dC p).wf bs.length true/\(dC p).sz<=31:=by
  cases p with
  | true=>exact⟨trivial,by decide⟩|false=>exact⟨⟨by show 0<bs.length;omega,by decide,by decide⟩,by decide⟩
 exact⟨bs,hb,p,hs,ho,aI rfl rfl (v:=.cl (aU bs (dC p) hs)) (cs (bO (cW (kF hn (by decide) rfl (aH (aE _) bD) (aE _) (by simp)) (aE (.int 9)) (eG rfl (n+40) _ (by decide)))) ((kb _).trans (cs rfl (cs ef (cs (aV e7) (cs k8 (bB (nU (aW 2 rfl) (aB 7 rfl) (aB 3 rfl) (fG (λh=>Vl.mk (.lst (bU h)) false false []) (λ_=>Cn.yes.d) (λ_=>rfl) (q0 _ _ _ (aB 3 rfl)) (by unfold lim;omega) λh _=>⟨[.sh false (.lst (bU h))],rfl,bV (aH (aE _) bD)⟩) (aW 8 rfl) (xJ n hb bw.1 bw.2 ho)))))))))⟩
theorem aJx(n d k:Nat):sIx n d (some (k:Int))=min k n:=by show(if (k:Int)<0 then ((k:Int)+(n:Int)).toNat else min (k:Int).toNat n)=_;rw[if_neg (by omega)];rfl
theorem xK{α:Type}(xs:List α)(k:Nat):cut xs none (some (k:Int))=xs.take k:=by unfold cut;rw[aJx];show(xs.drop 0).take (min k xs.length-0)=_;rw[HG,EW];grind
theorem aBv{α:Type}(xs:List α)(k:Nat):cut xs (some (k:Int)) none=xs.drop k:=by unfold cut;rw[aJx];show(xs.drop (min k xs.length)).take (xs.length-min k xs.length)=_;rw[BE (by rw[Bw];omega)];simp_all
section
variable {P:Pg} {W:Caller} {Z:Sg}
theorem aMq{ds:List D}(h:noLs ds=true)(lo hi:Option Int):eC (.cl (.tup ds)) lo hi=.ok (.cl (.tup (cut ds lo hi))):=by show R.ok (Vl.mk (.tup (cut ds lo hi)) false (false&&!noLs ds) (if noLs ds=true then [] else []))=_;rw[h];rfl
theorem aMr{a b:E}{is:List Int}{k:Nat}(h:ev P W Z a=.ok (.cl (aR is)))(q:ev P W Z b=.ok (.cl (.i (k:Int))))(B:k<=1000000):ev P W Z (.sli a .z (.k b .z))=.ok (.cl (aR (is.take k))):=by rw[pZ,h,aA,q,aA];show R.iff (aO (k:Int)) (eC (.cl (.tup (is.map D.int))) none (some (k:Int)))=_;rw[iW B,aMq (fA is),xK,<-Cy];rfl
theorem aMs{a b:E}{is:List Int}{k:Nat}(h:ev P W Z a=.ok (.cl (aR is)))(B:ev P W Z b=.ok (.cl (.i (k:Int))))(I:k<=1000000):ev P W Z (.sli a (.k b .z) .z)=.ok (.cl (aR (is.drop k))):=by
 have q:evs P W Z (.k b .z)=.ok [.cl (.i (k:Int))]:=by rw[aM,B];rfl
 show(ev P W Z a >>= λx=>evs P W Z (.k b .z) >>= λl=>evs P W Z .z >>= λh=>_)=_;rw[h,aA,q,aA,cN,aA];show R.iff (aO (k:Int)) (eC (.cl (.tup (is.map D.int))) (some (k:Int)) none)=_;rw[iW I,aMq (fA is),aBv,<-CI];rfl
theorem aPh(a b:List Int)(h:a.length+b.length<=1000):opD .Add (.cl (aR a)) (.cl (aR b))=.ok (.cl (aR (a++b))):=by show R.iff (decide ((a.map D.int).length+(b.map D.int).length<=lim)) (.ok (Vl.mk (.tup (a.map D.int++b.map D.int)) false (false||false) ([]++[])))=_;rw[lM,lM,Ak (by unfold lim;omega),<-Ax];rfl
end
variable {bs:List (Str×Int)} {g:Cn} {hs:W3}
section
variable {P:Pg} {W:Caller} {Z:Sg} {i:Nat}
theorem gU(h:Z[i]? = some (.T (aU bs g hs))):ev P W Z (.v i)=.ok ⟨aU bs g hs,false,true,[]⟩:=by show dI Z i=_;unfold dI;rw[h];rfl
theorem aMt(h:Z[i]? = some (.T (aU bs g hs))):ev P W Z (.idx (.v i) eC0)=.ok ⟨.lst (aF bs),false,true,[]⟩:=aZ (gU h) (aE _) rfl
theorem aPi(h:Z[i]? = some (.T (aU bs g hs))):ev P W Z (.idx (.v i) eC1)=.ok (.cl g.d):=aZ (gU h) (aE _) (congrArg R.ok (dD g.noL))
theorem aGB(h:Z[i]? = some (.T (aU bs g hs))):ev P W Z (.idx (.v i) eC2)=.ok ⟨.lst (cH hs),false,true,[]⟩:=aZ (gU h) (aE _) rfl
theorem aJy(h:Z[i]? = some (.T (aU bs g hs))):ev P W Z (.bi .len (eL1 (.idx (.v i) eC2)))=.ok (.cl (.i hs.length)):=by have:=dL (aGB (P:=P) (W:=W) h) rfl;rwa [lM] at this
end
theorem sV{k:Nat}{h:List (List Way)}(q:hs[k]? = some h):eK ⟨.lst (cH hs),false,true,[]⟩ (.cl (.i (k:Int)))=.ok ⟨.lst (bU h),false,true,[]⟩:=pK (f:=λh=>D.lst (bU h)) rfl q
theorem aCB{h:List (List Way)}{p:Nat}{ws:List Way}(q:h[p]? = some ws):eK ⟨.lst (bU h),false,true,[]⟩ (.cl (.i (p:Int)))=.ok ⟨gR ws,false,true,[]⟩:=pK (f:=gR) rfl q
theorem sW(n:Nat)(h:List (List Way)){p:Nat}{ws:List Way}(B:h[p]? = some ws):cP (n+1) 28 [.lst (bU h),.i p]=.ok (gR ws,false,true):=by have I:=aK (P:=pg) (W:=cP n) (Z:=[.T (.lst (bU h)),.T (.i p)]) 0 rfl;have L:=aP (P:=pg) (W:=cP n) (Z:=[.T (.lst (bU h)),.T (.i p)]) 1 rfl rfl;have q:=dL I rfl;rw[lM] at q;have U:=(Au.mp B).1;exact aI (F:=f28) rfl rfl (bB (vA (aAc (aE (.i 0)) L q (by omega) (Ak (by omega))) (aZ I L (aCB B))))
theorem aAj(n:Nat)(h:List (List Way)):cP (n+1) 28 [.lst (bU h),.i h.length]=.ok (.lst [],true,false):=by have q:=dL (aK (P:=pg) (W:=cP n) (Z:=[.T (.lst (bU h)),.T (.i h.length)]) 0 rfl) rfl;rw[lM] at q;exact aI (F:=f28) rfl rfl (v:=⟨.lst [],true,false,[]⟩) (bB (vA (aAc (aE (.i 0)) (aP 1 rfl rfl) q (by omega) (A3 (by omega))) rfl))
abbrev St:=List Int×List Int
noncomputable def bI(s:St):D:=.tup [aR s.1,aR s.2]
noncomputable def aJz:Option St->D
 | none=>.non|some s=>bI s
theorem iM(s:St):noL (bI s)=true:=iX (aS _) (aS _)
abbrev aD(p:Nat×Nat):D:=.tup [aG p.1,aG p.2]
noncomputable def bS(hs:W3)(s:St)(h:Nat):List Way:=(hs.getD h []).getD (s.2.getD h 0).toNat []
noncomputable def goneF(bs:List (Str×Int))(hs:W3)(s:St)(p:Nat×Nat):Option St:=
 if p.2<(bS hs s p.1).length then (behF bs (dU (bS hs s p.1) p.2) s.1).map λst=>(st,s.2.take p.1++[(dU (bS hs s p.1) p.2).nx]++s.2.drop (p.1+1)) else none
structure SOk (m:Nat) (hs:W3) (s:St):Prop where
 st:s.1.length=m
 pl:s.2.length=hs.length
 rg:∀k,k<hs.length->0<=s.2.getD k 0/\s.2.getD k 0<=(hs.getD k []).length
abbrev goF(bs:List (Str×Int))(g:Cn)(hs:W3)(s:St)(p:Nat×Nat)(s3 s4 s5 s6 s7 s8:Sl):Sg:=[.T (aU bs g hs),.T (bI s),.T (aD p),s3,s4,s5,s6,s7,s8]
theorem dE{α:Type}{l:List α}{k:Nat}(d:α)(h:k<l.length):l[k]? = some (l.getD k d):=by rw[Ae,Ac h];rfl
theorem kG(n:Nat)(q4:bs.length<=4)(o:dW bs.length hs){s:St}(so:SOk bs.length hs s){p:Nat×Nat}(hp:p.1<hs.length):cP (n+33) 35 [aU bs g hs,bI s,aD p]=.ok (aJz (goneF bs hs s p),false,false):=by
 obtain⟨l2,l3⟩:=iD o
 let τ:=goF bs g hs s p
 have v1:∀s3 s4 s5 L B I,ev pg (cP (n+32)) (τ s3 s4 s5 L B I) eV1=.ok (.cl (bI s)):=λ_ _ _ _ _ _=>aP 1 rfl (iM s);have W:∀s3 s4 s5 L B I,ev pg (cP (n+32)) (τ s3 s4 s5 L B I) (.idx eV2 eC1)=.ok (.cl (aG p.2)):=λ_ _ _ _ _ _=>aZ ((λ_ _ _ _ _ _=>aP 2 rfl rfl) _ _ _ _ _ _) (aE _) (gQ _ _ _ rfl);have v3:∀s4 s5 L B I,ev pg (cP (n+32)) (τ (.F (aG p.1)) s4 s5 L B I) eV3=.ok (.cl (aG p.1)):=λ_ _ _ _ _=>aB 3 rfl
 let U:Sl->Sl->Sl->Sg:=λL B I=>τ (.F (aG p.1)) (.F (aR s.1)) (.F (aR s.2)) L B I
 have w5:∀L B I,ev pg (cP (n+32)) (U L B I) eV5=.ok (.cl (aR s.2)):=λ_ _ _=>aB 5 rfl;obtain⟨r0,r1⟩:=so.rg p.1 hp;obtain⟨q,eq⟩:∃q:Nat,s.2.getD p.1 0=(q:Int):=⟨_,(C5 r0).symm⟩
 have i5:∀L B I,ev pg (cP (n+32)) (U L B I) (.idx eV5 eV3)=.ok (.cl (.i (q:Int))):=λL B I=>by have:=aZ (w5 L B I) (v3 _ _ _ _ _) (nQ (by rw[so.pl];exact hp));rw[eq] at this;exact this
 have ih:∀L B I,ev pg (cP (n+32)) (U L B I) (.idx (.idx eV0 eC2) eV3)=.ok ⟨.lst (bU (hs.getD p.1 [])),false,true,[]⟩:=λL B I=>aZ (aGB rfl) (v3 _ _ _ _ _) (sV (dE [] hp));have ro:bS hs s p.1=(hs.getD p.1 []).getD q []:=by unfold bS;rw[eq];rfl
 have pre:∀{v:Vl},exs pg (cP (n+32)) (U .x .x .x) (drp 4 f35.body)=.ret v->exs pg (cP (n+32)) (τ .x .x .x .x .x .x) f35.body=.ret v:=λe=>cs (aV (aZ ((λ_ _ _ _ _ _=>aP 2 rfl rfl) _ _ _ _ _ _) (aE _) (fP _ _ rfl))) (cs (bR (dQ (aAc (aE _) (v3 _ _ _ _ _) (aJy rfl) (by omega) (Ak (by omega))))) (cs (aV (aZ (v1 _ _ _ _ _ _) (aE _) (fP _ _ (aS _)))) (cs (aV (aZ (v1 _ _ _ _ _ _) (aE _) (gQ _ _ _ (aS _)))) e)));by_cases q3:q<(hs.getD p.1 []).length;have q0:(hs.getD p.1 [])[q]? = some (bS hs s p.1):=by rw[ro];exact dE [] q3
 have k5:ex pg (cP (n+32)) (U .x .x .x) (hdS (drp 4 f35.body))=.next (U (.T (gR (bS hs s p.1))) .x .x):=aMn (aAa (ih _ _ _) (i5 _ _ _) (sW (n+31) _ q0) rfl rfl);have v6:∀B I,ev pg (cP (n+32)) (U (.T (gR (bS hs s p.1))) B I) eV6=.ok ⟨gR (bS hs s p.1),false,true,[]⟩:=λ_ _=>aK 6 rfl;have q1:=dL (v6 .x .x) rfl;rw[lM] at q1;have t6:=aAc (k:=decide (p.2<(bS hs s p.1).length)) (aE (.i 0)) (W (.F (aG p.1)) (.F (aR s.1)) (.F (aR s.2)) (.T (gR (bS hs s p.1))) .x .x) q1 (by omega) (by simp);by_cases hw:p.2<(bS hs s p.1).length
 . rw[Ak hw] at t6;have hm:=xF hw
   let w:=dU (bS hs s p.1) p.2
   have k8:ex pg (cP (n+32)) (U (.T (gR (bS hs s p.1))) (.F w.d) .x) (hdS (drp 7 f35.body))=.next (U (.T (gR (bS hs s p.1))) (.F w.d) (.F (stD (behF bs w s.1)))):=aV (bK (aMt rfl) ((λ_=>aB 7 rfl) _) (aB 4 rfl) (aBl n so.st (by omega) (((o.ok _ (mG (dE [] hp))).ok _ (mG q0)).ok _ hm.1).1));have w8:ev pg (cP (n+32)) (U (.T (gR (bS hs s p.1))) (.F w.d) (.F (stD (behF bs w s.1)))) eV8=.ok (.cl (stD (behF bs w s.1))):=aB 8 rfl;have t9:tst pg (cP (n+32)) (U (.T (gR (bS hs s p.1))) (.F w.d) (.F (stD (behF bs w s.1)))) (.cmp .Is eV8 eCn)=.ok (behF bs w s.1).isNone:=cA w8 (aE _) (by cases behF bs w s.1 <;> rfl);have gf:goneF bs hs s p=(behF bs w s.1).map λst=>(st,s.2.take p.1++[w.nx]++s.2.drop (p.1+1)):=if_pos hw;cases q9:behF bs w s.1 with
   | none=>rw[q9] at t9 gf;rw[gf];rw[q9] at k8;exact aI (F:=f35) rfl rfl (v:=.cl .non) (pre (cs k5 (cs (bR (dQ t6)) (cs (aV (iL (v6 _ _) rfl (W _ _ _ _ _ _) hm.2 (eU _))) (cs k8 (eQ t9 (bB (aE _))))))))|some st=>rw[q9] at t9 gf w8 k8;rw[gf];have q5:=so.pl;exact aI rfl rfl (v:=.cl (bI (st,s.2.take p.1++[w.nx]++s.2.drop (p.1+1)))) (pre (cs k5 (cs (bR (dQ t6)) (cs (aV (iL (v6 _ _) rfl (W _ _ _ _ _ _) hm.2 (eU _))) (cs k8 (cs (bR t9) (bB (iC w8 (eF (eF (aMr (w5 _ _ _) (v3 _ _ _ _ _) (by omega)) (bV (aH (aZ ((λ_=>aB 7 rfl) _) (aE (.i 2)) (aBi _ _ _ _ rfl)) bD)) (aPh (s.2.take p.1) [w.nx] (by rw[A0];simp;omega))) (aMs (k:=p.1+1) (w5 _ _ _) (dP (v3 _ _ _ _ _) (aE (.i 1))) (by omega)) (aPh _ (s.2.drop (p.1+1)) (by rw[lA,A0,Bw];simp;omega)))))))))))
 rw[A3 hw] at t6;rw[show goneF bs hs s p=none from if_neg hw];exact aI (F:=f35) rfl rfl (v:=.cl .non) (pre (cs k5 (eQ (dQ t6) (bB (aE _)))));have q2:q=(hs.getD p.1 []).length:=by omega
 have rn:bS hs s p.1=[]:=by rw[ro,Ae,Bb (by omega)];rfl
 rw[show goneF bs hs s p=none from if_neg (by rw[rn];simp)];exact aI (F:=f35) rfl rfl (v:=.cl .non) (pre (cs (bO (cW (ih _ _ _) (i5 _ _ _) (by rw[q2];exact aAj (n+31) _))) (eQ (dQ (aAc (aE (.i 0)) (W (.F (aG p.1)) (.F (aR s.1)) (.F (aR s.2)) (.O []) .x .x) (dL (aW 6 rfl) rfl) (by omega) (A3 (by simp)))) (bB (aE _)))))
variable {bs:List (Str×Int)} {g:Cn} {hs:W3}
theorem aAk{st:List Int}:∀(ps:List (Nat×Sm)) (acc r:List Int),putF bs st acc ps=some r->r.length=acc.length
 | [],acc,r,h=>by cases h;rfl|p::ps,acc,r,h=>by unfold putF at h;split at h;have:=aAk ps _ r h;rw[this,Av];cases h
theorem aGC{w:Way}{st r:List Int}(h:behF bs w st=some r):r.length=st.length:=by unfold behF at h;split at h;exact aAk _ _ _ h;cases h
theorem SOk.go(o:dW bs.length hs){s s':St}(q:SOk bs.length hs s){p:Nat×Nat}(hp:p.1<hs.length)(h:goneF bs hs s p=some s'):SOk bs.length hs s':=by
 unfold goneF at h;split at h;rename_i B;obtain⟨st,h1,rfl⟩:=Bp.mp h;have W:=xF B;have q0:=q.pl;have U:=dE (l:=hs) [] hp;have hq:(s.2.getD p.1 0).toNat<(hs.getD p.1 []).length:=by
  by_cases z:(s.2.getD p.1 0).toNat<(hs.getD p.1 []).length;exact z;have e:bS hs s p.1=[]:=by unfold bS;rw[Ae (l:=hs.getD p.1 []),Bb (by omega)];rfl
  rw[e] at B;exact absurd B (CH _)
 have wo:=((o.ok _ (mG U)).ok _ (mG (dE [] hq))).ok (dU (bS hs s p.1) p.2) W.1;refine⟨by rw[aGC h1];exact q.st,by simp only[lA,A0,Bw,BK];omega,λk I=>?_⟩;show 0<=(s.2.take p.1++[(dU (bS hs s p.1) p.2).nx]++s.2.drop (p.1+1)).getD k 0/\(s.2.take p.1++[(dU (bS hs s p.1) p.2).nx]++s.2.drop (p.1+1)).getD k 0<=_;have L:(s.2.take p.1).length=p.1:=by rw[A0];omega
 by_cases h1:k<p.1;have:(s.2.take p.1++[(dU (bS hs s p.1) p.2).nx]++s.2.drop (p.1+1)).getD k 0=s.2.getD k 0:=by rw[Ae,Ba,AI (by omega),CD,if_pos h1,Ae]
 rw[this];exact q.rg k I;by_cases h2:k=p.1;subst h2;have:(s.2.take p.1++[(dU (bS hs s p.1) p.2).nx]++s.2.drop (p.1+1)).getD p.1 0=(dU (bS hs s p.1) p.2).nx:=by rw[Ae,Ba,AD (by omega),L,Fb];rfl
 rw[this];have:=wo.2;omega;have:(s.2.take p.1++[(dU (bS hs s p.1) p.2).nx]++s.2.drop (p.1+1)).getD k 0=s.2.getD k 0:=by
  have l1:(s.2.take p.1++[(dU (bS hs s p.1) p.2).nx]).length=p.1+1:=by rw[lA,L];rfl
  rw[Ae,AD (by omega),l1,Gn,Ae]
  congr 2
  omega
 rw[this];exact q.rg k I;cases h
theorem xL(n:Nat)(hb:bs∈boxSet){st:List Int}(h:st∈standsL bs):cP (n+3) 8 [.lst (aF bs),aR st]=.ok (.bl true,false,false):=by
 obtain⟨hl,L⟩:=kE h;obtain⟨l3,l4⟩:=eV hb;have v0:=aK (P:=pg) (W:=cP (n+2)) (Z:=[.T (.lst (aF bs)),.T (aR st)]) 0 rfl;have q:=aP (P:=pg) (W:=cP (n+2)) (Z:=[.T (.lst (aF bs)),.T (aR st)]) 1 rfl (aS st);have n0:=dL v0 rfl;have I:=dT (b:=.len) q (lG _);rw[show(aF bs).length=bs.length from lM _] at n0;rw[lM] at I;have U:=bR (a:=.k (.ret (.c (.bl false))) .z) (eS (dQ (fI (cs:=[.tTuple]) (k:=true) q rfl)) (cA (o:=.NotEq) (k:=false) I n0 (by
  simp_all)))
 have hz:fZ (aF bs) (st.map D.int)=(bs.zip st).map λx=>.tup [box x.1,.i x.2]:=by
  clear hl L U q I;have:∀(bs:List (Str×Int)) (st:List Int),fZ (bs.map box) (st.map D.int)=(bs.zip st).map λx=>.tup [box x.1,.i x.2]:=λbs=>by
   induction bs with
   | nil=>intro st;cases st <;> rfl|cons b bs B=>
    intro st;cases st with
    | nil=>rfl|cons i st=>show .tup [box b,.i i]::fZ (bs.map box) (st.map D.int)=_;rw[B st];rfl
  exact this bs st
 have hc:ev pg (cP (n+2)) [.T (.lst (aF bs)),.T (aR st)] (.comp 2 [] (.t [0,1]) (.zip eV0 eV1) .z (.call 15 (eL3 eV1 eC0 (.idx eV0 eC1))))=.ok ⟨.lst ((bs.zip st).map λ_=>.bl true),true,false,[]⟩:=by refine fG (ts:=bs.zip st) (al:=[]) (λx=>Vl.cl (.tup [box x.1,.i x.2])) (λ_=>.bl true) (λ_=>rfl) ?_ (by rw[List.length_zip];unfold lim;omega) λx hx=>?_;rw[jT,v0,aA,q,aA];show R.ok (items _ (fZ (aF bs) (st.map D.int)),[])=_;rw[hz,cU (g:=λx:(Str×Int)×Int=>D.tup [box x.1,.i x.2]) (λ_=>rfl)];obtain⟨i,hi⟩:=Cp hx;rw[Dc] at hi;have:=L i x.2 x.1 hi.2 hi.1;exact⟨[.F (box x.1),.F (.i x.2)],kA _ rfl rfl,bK (aB 1 rfl) (aE _) (aZ (aB 0 rfl) (aE (.i 1)) (gQ _ _ _ rfl)) (iK n x.2 0 x.1.2 this.1 this.2)⟩
 refine aI (F:=f8) rfl rfl (v:=.cl (.bl true)) (cs U (bB (dT hc ?_)));have:cS ((bs.zip st).map λ_=>D.bl true)=some ((bs.zip st).map λ_=>true):=by
  induction (bs.zip st) with
  | nil=>rfl|cons x r B=>rw[mC];unfold cS;rw[B];rfl
 show(match cS ((bs.zip st).map λ_=>D.bl true) with|some bs=>R.ok (Vl.cl (.bl (bs.all id)))|none=>.bad)=_;rw[this];grind
theorem tX(n:Nat)(I:bs∈boxSet){q:Cn}(w:q.wf bs.length true)(z:q.sz<=31):cP (n+32) 9 [.lst (aF bs),q.d]=.ok (.lst (((standsL bs).filter λst=>q.hold st st).map aR),true,false):=by
 have L:(standsL bs).length<=24:=by have:=aJs (aAg I) bs.length (Ao _);rwa [Bx] at this
 refine aI (F:=f9) rfl rfl (v:=⟨.lst (((standsL bs).filter λst=>q.hold st st).map aR),true,false,[]⟩) (bB (aBh (ts:=standsL bs) (al:=[]) (λst=>Vl.cl (aR st)) aR (λst=>q.hold st st) aS ?_ (by unfold lim;omega) λst B=>⟨[.F (aR st),.T q.d],rfl,hU (aP 1 rfl q.noL) (aB 0 rfl) (aE _) (sP n (kE B).1 w z),aB 0 rfl⟩));rw[bL,cX (aK 0 rfl) (aDI (P:=pg) (f:=7) rfl (n+30) (aAg I)),aA];show R.ok (items _ ((standsL bs).map aR),[])=_;rw[cU aS]
theorem aAl(q:bs∈boxSet)(p:Bool):(dC p).wf bs.length true/\(dC p).sz<=31:=by
 have:=eV q;cases p with
 | true=>exact⟨trivial,by decide⟩|false=>exact⟨⟨by show 0<bs.length;omega,by decide,by decide⟩,by decide⟩
theorem aDU(q:bs∈boxSet)(p:Bool):1<=((standsL bs).filter λst=>(dC p).hold st st).length:=by rcases box_six q with rfl|rfl|rfl|rfl|rfl|rfl <;> cases p <;> decide +kernel
theorem aDV(n:Nat)(I:bs∈boxSet){ns:List Int}(L:ns.length<=63)(p:Bool):∃st∈standsL bs,(dC p).hold st st=true/\cP (n+33) 49 [.lst (ns.map D.int),aU bs (dC p) hs]=.ok (aR st,false,false):=by
 obtain⟨w,z⟩:=aAl I p;have U:ex pg (cP (n+32)) [.T (.lst (ns.map D.int)),.T (aU bs (dC p) hs),.x] (hdS f49.body)=.next [.T (.lst (ns.map D.int)),.T (aU bs (dC p) hs),.O (((standsL bs).filter λst=>(dC p).hold st st).map aR)]:=bO (cW (aMt rfl) (aPi rfl) (tX n I w z))
 let xs:=jH ((ns++[0]).getD 0 0) 10
 have B:ev pg (cP (n+32)) [.T (.lst (ns.map D.int)),.T (aU bs (dC p) hs),.O (((standsL bs).filter λst=>(dC p).hold st st).map aR)] (.call 43 (eL2 (.idx (.op .Add eV0 (.lst (eL1 eC0))) eC0) aDL))=.ok ⟨.lst (xs.map D.int),true,false,[]⟩:=cW (kF (ms:=[0]) (k:=0) L (by decide) rfl (aH (aE _) bD) (aE _) (by simp)) (aE (.i 10)) (eG (P:=pg) (f:=43) rfl (n+31) _ (m:=10) (by decide));obtain⟨st,q,e⟩:=oV (P:=pg) (W:=cP (n+32)) (f:=aR) (aW 2 rfl) rfl (fK (k:=9) B rfl (aE _) (by rw[eB];decide)) (aDU I p) aS;rw[Cj] at q;exact⟨st,q.1,q.2,aI (F:=f49) rfl rfl (v:=.cl (aR st)) (cs U (bB e))⟩
variable {bs:List (Str×Int)} {g:Cn} {hs:W3}
abbrev aY(hs:W3):List Int:=Am hs.length 0
theorem aCC(o:dW bs.length hs){st:List Int}(h:st.length=bs.length):SOk bs.length hs (st,aY hs):=⟨h,AK,λk q=>by
 have:(aY hs).getD k 0=0:=by rw[Ae,Du,if_pos q];rfl
 rw[this];omega⟩
theorem sX{P:Pg}{W:Caller}{Z:Sg}{i:Nat}(B:hs.length<=3)(h:Z[i]? = some (.T (aU bs g hs))):ev P W Z (.bi .tuple (eL1 (.comp 1 [] (.n 0) (.seq (.idx (.v i) eC2)) .z eC0)))=.ok (.cl (aR (aY hs))):=by
 have q:ev P W Z (.comp 1 [] (.n 0) (.seq (.idx (.v i) eC2)) .z eC0)=.ok ⟨.lst (hs.map λ_=>.i 0),true,false,[]⟩:=by
  refine fG (al:=[]) (λh=>Vl.mk (.lst (bU h)) false true []) (λ_=>.i 0) (λ_=>rfl) ?_ (by unfold lim;omega) λh _=>⟨[.T (.lst (bU h))],rfl,aE _⟩
  rw[bL,aGB h,aA];show R.ok (items _ (cH hs),[])=_;unfold items;rw[As];rfl
 have e:(hs.map λ_=>D.int 0)=(aY hs).map D.int:=by rw[Gm];exact Hj ..
 rw[e] at q;refine dT q ?_;show R.ok (Vl.mk (.tup ((aY hs).map D.int)) false (false&&!noLs ((aY hs).map D.int)) (if noLs ((aY hs).map D.int)=true then [] else []))=_;rw[fA];rfl
theorem aDW(n:Nat)(q:hs.length<=3)(st:List Int):cP (n+1) 37 [aU bs g hs,aR st]=.ok (bI (st,aY hs),false,false):=
 aI (F:=f37) rfl rfl (bB (iC (aP 1 rfl (aS st)) (sX q rfl)))
structure Wov (bs:List (Str×Int)) (hs:W3) (s0:St) (ps:List (Nat×Nat)) (ss:List St):Prop where
 len:ss.length=ps.length+1
 z:ss.getD 0 s0=s0
 go:∀i,i<ps.length->goneF bs hs (ss.getD i s0) (ps.getD i (0,0))=some (ss.getD (i+1) s0)
 hd:∀p∈ps,p.1<hs.length
 ok:∀i,SOk bs.length hs (ss.getD i s0)
theorem iN{α:Type}(l r:List α)(d:α){i:Nat}(h:i<l.length):(l++r).getD i d=l.getD i d:=by rw[Ae,Ae,AI h]
theorem iO{α:Type}(l:List α)(x d:α):(l++[x]).getD l.length d=x:=by rw[Ae,AD (Ao _),Fb];rfl
theorem Wov.nil{s0:St}(q:SOk bs.length hs s0):Wov bs hs s0 [] [s0]:=⟨rfl,rfl,λi h=>absurd h (CH _),λ_ h=>absurd h AJ,λi=>by
 cases i with
 | zero=>exact q|succ i=>exact q⟩
theorem Wov.snoc(o:dW bs.length hs){s0 s':St}{ps:List (Nat×Nat)}{ss:List St}(I:Wov bs hs s0 ps ss){p:Nat×Nat}(U:p.1<hs.length)(h:goneF bs hs (ss.getD ps.length s0) p=some s'):Wov bs hs s0 (ps++[p]) (ss++[s']):=by
 have L:=I.len;refine⟨by rw[lA,lA,L];rfl,by rw[iN _ _ _ (by omega)];exact I.z,λi hi=>?_,λq hq=>?_,λi=>?_⟩;rw[lA,BK] at hi;by_cases B:i<ps.length;rw[iN ss _ _ (by omega),iN ps _ _ B,iN ss _ _ (by omega)];exact I.go i B;have:i=ps.length:=by omega
 subst this;rw[iN ss _ _ (by omega),iO];have e:=iO ss s' s0;rw[L] at e;rw[e];exact h;rcases Bl.mp hq with z|z;exact I.hd q z;rw[AE.mp z];exact U;by_cases B:i<ss.length;rw[iN ss _ _ B];exact I.ok i;by_cases W:i=ss.length;subst W;rw[iO];exact((I.ok ps.length).go o U h);rw[Ae,Bb (by simp;omega)];have:=I.ok 0;rw[I.z] at this;exact this
theorem eT{α q:Type}(f:α->q)(l:List α)(d:α){i:Nat}(h:i<l.length):(l.take (i+1)).map f=(l.take i).map f++[f (l.getD i d)]:=by rw[D7,Ax,Ac h,Ae,Ac h];rfl
theorem aAm{α:Type}(f:α->D)(q:α):∀(xs:List α) (a:Nat),iG (a:Int) (xs.map f)=(Ai xs.length).map λi=>.tup [aG (a+i),f (xs.getD i q)]
 | [],_=>rfl|x::xs,a=>by rw[lC,CC,mC,mC,As];show .tup [.i (a:Int),f x]::iG ((a:Int)+1) (xs.map f)=_;rw[show((a:Int)+1)=((a+1:Nat):Int) by omega,aAm f q xs (a+1)];refine congrArg _ (Bf λi _=>?_);rw[show a+1+i=a+(i+1) by omega];rfl
theorem vC(n:Nat)(hb:bs∈boxSet)(o:dW bs.length hs)(gw:g.wf bs.length true)(gz:g.sz<=31){st:List Int}(U:st∈standsL bs)(hg:g.hold st st=true){ps:List (Nat×Nat)}{ss:List St}(B:Wov bs hs (st,aY hs) ps ss)(hp:ps.length<=100) :
 cP (n+34) 36 [aU bs g hs,aR st,.lst (ps.map aD)]=.ok (.lst (ss.map bI),true,false):=by
 obtain⟨l3,l4⟩:=eV hb;obtain⟨h2,h3⟩:=iD o
 let s0:St:=(st,aY hs)
 let q:Sl->Sl->Sl->Sl->Sg:=λs3 s4 W s6=>[.T (aU bs g hs),.T (aR st),.T (.lst (ps.map aD)),s3,s4,W,s6]
 have k1:ex pg (cP (n+33)) (q .x .x .x .x) (hdS f36.body)=.next (q .x .x .x .x):=bR (eS (dQ (by
  have e:evs pg (cP (n+33)) (q .x .x .x .x) (eL2 (.idx eV0 eC0) eV1)=.ok [⟨.lst (aF bs),false,true,[]⟩,.cl (aR st)]:=by rw[aM,aMt rfl,aA,aM,(λ_ _ _ _=>aP 1 rfl (aS st)),aA,cN];rfl
  rw[gP,e,aA];show(cP (n+33) 8 [.lst (aF bs),aR st] >>= λr=>jJ (lO _ r))=_;rw[xL (n+30) hb U];rfl)) (dQ (hU (aPi rfl) ((λ_ _ _ _=>aP 1 rfl (aS st)) _ _ _ _) (aE _) (by
  have:=sP (n+2) (kE U).1 gw gz;rw[hg] at this;exact this))))
 have k3:ex pg (cP (n+33)) (q (.F (bI s0)) .x .x .x) (hdS (drp 2 f36.body))=.next (q (.F (bI (ss.getD 0 s0))) (.O ((ss.take 1).map bI)) .x .x):=by rw[eT bI ss s0 (by rw[B.len];omega),show ss.getD 0 s0=s0 from B.z];exact bO (dK (aH (aB 3 rfl) bD))
 have hw:walk pg (cP (n+33)) (q (.F (bI (ss.getD 0 s0))) (.O ((ss.take 1).map bI)) .x .x) (.enum eV2)=.ok ((Ai ps.length).map (λi=>Vl.cl (.tup [aG i,aD (ps.getD i (0,0))])),[]):=by rw[aIv (aK 2 rfl) rfl];have:=aAm aD (0,0) ps 0;rw[show((0:Nat):Int)=0 from rfl] at this;rw[this];refine congrArg R.ok (congrArg (·,[]) ((cU (λi=>rfl) _).trans (Bf λi _=>?_)));rw[IQ]
 obtain⟨Z',ef,W,s6,rfl⟩:=cT (t:=.t [5,6]) (b:=match hdS (drp 3 f36.body) with|.for _ _ b=>b|_=>.z) (λi Z=>∃W s6,Z=q (.F (bI (ss.getD i s0))) (.O ((ss.take (i+1)).map bI)) W s6) hw ⟨_,_,rfl⟩ λi hi Z ⟨W,s6,q0⟩=>by
  have L:i<ps.length:=by simpa using hi
  subst q0;have hl:=B.len;have gr:=kG (g:=g) n l4 o (B.ok i) (B.hd (ps.getD i (0,0)) (mG (dE (0,0) L)));rw[B.go i L] at gr;refine⟨q (.F (bI (ss.getD i s0))) (.O ((ss.take (i+1)).map bI)) (.F (aG i)) (.F (aD (ps.getD i (0,0)))),_,?_,cs (aV (bK (gU rfl) (aB 3 rfl) (aB 6 rfl) gr)) (cs (bR (cA (aB 3 rfl) (aE _) rfl)) (bG (gC (aB 3 rfl) rfl (by rw[lM,A0];unfold lim;omega) rfl (eT bI ss s0 (by omega))))),_,_,rfl⟩;rw[A6,AR];exact kA _ rfl rfl
 have I:(ss.take ((Ai ps.length).map (λi=>Vl.cl (.tup [aG i,aD (ps.getD i (0,0))]))).length.succ)=ss:=by rw[lM,AG];exact BE (by rw[B.len];exact Ao _)
 refine aI (F:=f36) rfl rfl (v:=⟨.lst (ss.map bI),true,false,[]⟩) (cs k1 (cs (aV (fH (gU rfl) ((λ_ _ _ _=>aP 1 rfl (aS st)) _ _ _ _) (aDW (n+32) h3 st))) (cs k3 (cs ef (lV ?_)))));show O.ret ⟨.lst ((ss.take ((Ai ps.length).map (λi=>Vl.cl (.tup [aG i,aD (ps.getD i (0,0))]))).length.succ).map bI),true,false,[]⟩=_;rw[I]
noncomputable def sY(ps:List (Nat×Nat))(ss:List St)(s0:St)(i:Nat):D:=.tup [aG (ps.getD i (0,0)).1,.i ((ss.getD i s0).2.getD (ps.getD i (0,0)).1 0),aG (ps.getD i (0,0)).2]
theorem oW{α B:Type}(f:α->D)(h:B->D)(I:α)(L:B):∀(xs:List α) (q:List B),xs.length<=q.length->fZ (xs.map f) (q.map h)=(Ai xs.length).map λi=>.tup [f (xs.getD i I),h (q.getD i L)]
 | [],q,_=>by cases q <;> rfl|x::xs,[],hl=>by simp at hl|x::xs,y::q,hl=>by rw[lC,CC,mC,mC,mC,As];show .tup [f x,h y]::fZ (xs.map f) (q.map h)=_;rw[oW f h I L xs q (by simpa using hl)];rfl
theorem aBw(n:Nat)(hb:bs∈boxSet)(o:dW bs.length hs)(gw:g.wf bs.length true)(gz:g.sz<=31){st:List Int}(I:st∈standsL bs)(hg:g.hold st st=true){ps:List (Nat×Nat)}{ss:List St}(q:Wov bs hs (st,aY hs) ps ss)(hp:ps.length<=100) :
 cP (n+35) 38 [aU bs g hs,aR st,.lst (ps.map aD)]=.ok (.lst ((Ai ps.length).map (sY ps ss (st,aY hs))),true,false):=by
 let s0:St:=(st,aY hs)
 have hc:ev pg (cP (n+34)) [.T (aU bs g hs),.T (aR st),.T (.lst (ps.map aD)),.O (ss.map bI)] (match hdS (drp 1 f38.body) with|.ret e=>e|_=>.c .non)=.ok ⟨.lst ((Ai ps.length).map (sY ps ss s0)),true,false,[]⟩:=by refine fG (al:=[3]) (λi=>Vl.cl (.tup [aD (ps.getD i (0,0)),bI (ss.getD i s0)])) (sY ps ss s0) (λ_=>rfl) ?_ (by rw[AG];unfold lim;omega) λi hi=>?_;rw[jT,aK 2 rfl,aA,aW 3 rfl,aA];show R.ok (items _ (fZ (ps.map aD) (ss.map bI)),[3])=_;rw[oW aD bI (0,0) s0 ps ss (by rw[q.len];omega),cU (λi=>iX rfl (iM _))];have B:=AC.mp hi;have U:=aB (P:=pg) (W:=cP (n+34)) (Z:=[.F (aD (ps.getD i (0,0))),.F (bI (ss.getD i s0))]) 0 rfl;have L:=aZ U (aE (.i 0)) (fP _ _ rfl);exact⟨[.F (aD (ps.getD i (0,0))),.F (bI (ss.getD i s0))],kA _ rfl (iM _),aBm L (aZ (aZ (aB 1 rfl) (aE (.i 1)) (gQ _ _ _ (aS _))) L (nQ (by rw[(q.ok i).pl];exact(q.hd (ps.getD i (0,0)) (mG (dE (0,0) B)))))) (aZ U (aE (.i 1)) (gQ _ _ _ rfl))⟩
 exact aI rfl rfl (v:=⟨.lst ((Ai ps.length).map (sY ps ss s0)),true,false,[]⟩) (cs (bO (fV (gU rfl) (aP 1 rfl (aS st)) (aK 2 rfl) (vC n hb o gw gz I hg q hp))) (bB hc))
variable {bs:List (Str×Int)} {g:Cn} {hs:W3}
abbrev gsF(bs:List (Str×Int))(g:Cn)(hs:W3)(s:St)(gl:List (Nat×Nat))(s3 s4:Sl):Sg:=[.T (aU bs g hs),.T (bI s),.O (gl.map aD),s3,s4]
abbrev gsB:Ss:=match hdS (drp 1 f50.body) with|.for _ _ b=>b|_=>.z
abbrev gsI:Ss:=match hdS gsB with|.for _ _ b=>b|_=>.z
theorem aDX(n:Nat)(q3:bs.length<=4)(o:dW bs.length hs){s:St}(so:SOk bs.length hs s):∃gl:List (Nat×Nat),(∀p∈gl,p.1<hs.length/\(goneF bs hs s p).isSome=true)/\gl.length<=12/\cP (n+34) 50 [aU bs g hs,bI s]=.ok (.lst (gl.map aD),true,false):=by
 obtain⟨h2,h3⟩:=iD o;obtain⟨Z',ef,gl,s3,s4,W,g2,rfl⟩:=cT (t:=.n 3) (λi Z=>∃(gl:List (Nat×Nat)) (s3 s4:Sl),(∀p∈gl,p.1<hs.length/\(goneF bs hs s p).isSome=true)/\gl.length<=4*i/\Z=gsF bs g hs s gl s3 s4) (bM (aJy (i:=0) rfl) rfl (by omega)) ⟨[],_,_,λ_ z=>absurd z AJ,Ao _,rfl⟩ λi hi Z ⟨gl,s3,s4,W,g2,B⟩=>by
  have L:i<hs.length:=by simpa using hi
  subst B;obtain⟨I,e2,q0,t4,U,q2,rfl⟩:=cT (t:=.n 4) (b:=gsI) (λj Z=>∃(gl:List (Nat×Nat)) (s4:Sl),(∀p∈gl,p.1<hs.length/\(goneF bs hs s p).isSome=true)/\gl.length<=4*i+j/\Z=gsF bs g hs s gl (.F (aG i)) s4) (bM (aE (.i 4)) rfl (by decide)) ⟨gl,_,W,g2,rfl⟩ λj hj Z ⟨gl,t4,U,q2,B⟩=>by
   have q4:j<4:=by simpa using hj
   subst B
   let I:=gsF bs g hs s gl (.F (aG i)) (.F (aG j))
   have tp:ev pg (cP (n+33)) I (.tup (eL2 eV3 eV4))=.ok (.cl (aD (i,j))):=iC (aB 3 rfl) (aB 4 rfl);have t:=cA (o:=.IsNot) (k:=(goneF bs hs s (i,j)).isSome) (bK (gU (i:=0) rfl) (aP 1 rfl (iM s)) tp (kG n q3 o so L)) (aE .non) (by cases goneF bs hs s (i,j) <;> rfl);cases q:(goneF bs hs s (i,j)).isSome with
   | true=>rw[q] at t;refine⟨I,gsF bs g hs s (gl++[(i,j)]) (.F (aG i)) (.F (aG j)),?_,bG (oT t (bG (gC tp rfl (by rw[lM];unfold lim;omega) rfl (by rw[Ax];rfl)))),_,_,kC U ⟨L,q⟩,by rw[lA];simp;omega,rfl⟩;rw[A6,AR,dA];rfl|false=>rw[q] at t;refine⟨I,I,?_,bG (bR t),gl,_,U,by omega,rfl⟩;rw[A6,AR,dA];rfl
  refine⟨gsF bs g hs s gl (.F (aG i)) s4,_,?_,bG e2,q0,_,_,U,by simp at q2;omega,rfl⟩;rw[A6,AR,dA];rfl
 refine⟨gl,W,by simp at g2;omega,aI (F:=f50) rfl rfl (cs (Z':=gsF bs g hs s [] .x .x) rfl (cs ef (lV rfl)))⟩
abbrev spF(ns:List Int)(bs:List (Str×Int))(g:Cn)(hs:W3)(st:List Int)(at' m:Nat)(s:St)(ps:List (Nat×Nat))(s7 s8 s9 s10:Sl):Sg:=[.T (.lst (ns.map D.int)),.T (aU bs g hs),.T (aR st),.T (.i at'),.T (.i m),.F (bI s),.O (ps.map aD),s7,s8,s9,s10]
abbrev spB:Ss:=match hdS (drp 2 f51.body) with|.for _ _ b=>b|_=>.z
theorem aBx(n:Nat)(q1:bs.length<=4)(o:dW bs.length hs){ns:List Int}(hn:ns.length<=63){st:List Int}{a m i:Nat}(ha:a<=10)(hi:i<=100){ps:List (Nat×Nat)}{ss:List St}(W0:Wov bs hs (st,aY hs) ps ss)(pl:ps.length<=i)(U B q:Sl) :
 ∃(L:List (Nat×Nat)) (q3:List St) (t8 t9 w3:Sl),Wov bs hs (st,aY hs) L q3/\L.length<=i+1/\exs pg (cP (n+34)) (spF ns bs g hs st a m (ss.getD ps.length (st,aY hs)) ps (.F (aG i)) U B q) spB=.next (spF ns bs g hs st a m (q3.getD L.length (st,aY hs)) L (.F (aG i)) t8 t9 w3):=by
 let s:=ss.getD ps.length (st,aY hs)
 have so:SOk bs.length hs s:=W0.ok _;obtain⟨gl,g1,g2,g3⟩:=aDX n q1 o so
 let I:St->List (Nat×Nat)->Sl->Sl->Sl->Sg:=λs ps U B q=>spF ns bs g hs st a m s ps (.F (aG i)) U B q
 have v5:∀s ps U B q,ev pg (cP (n+34)) (I s ps U B q) eV5=.ok (.cl (bI s)):=λ_ _ _ _ _=>aB 5 rfl;have v0:∀s ps U B q,ev pg (cP (n+34)) (I s ps U B q) eV0=.ok ⟨.lst (ns.map D.int),false,true,[]⟩:=λ_ _ _ _ _=>aK 0 rfl;have v7:∀s ps U B q,ev pg (cP (n+34)) (I s ps U B q) eV7=.ok (.cl (aG i)):=λ_ _ _ _ _=>aB 7 rfl;have v8:∀s ps B q,ev pg (cP (n+34)) (I s ps (.O (gl.map aD)) B q) eV8=.ok ⟨.lst (gl.map aD),false,false,[8]⟩:=λ_ _ _ _=>aW 8 rfl;cases hg:gl with
 | nil=>exact⟨ps,ss,_,_,_,W0,by omega,cs (bO (cW (gU rfl) (v5 _ _ _ _ _) g3)) (bG (bR (cA (v8 _ _ _ _) rfl (by rw[hg];rfl))))⟩|cons p0 gr=>
  have q7:1<=gl.length:=by rw[hg];simp
  have t1:tst pg (cP (n+34)) (I s ps (.O (gl.map aD)) B q) (.cmp .NotEq eV8 (.lst .z))=.ok true:=cA (v8 _ _ _ _) rfl (by
   have e:eqD (.lst (gl.map aD)) (.lst [])=some false:=by show(if (gl.map aD).length=([]:List D).length then _ else some false)=_;rw[if_neg (by rw[lM,lN];omega)]
   show(eqD (.lst (gl.map aD)) (.lst [])).map (!·)=_;rw[e];rfl)
  have q4:opD .Mult (.cl (.i 11)) (.cl (.i (i:Int)))=.ok (.cl (.i (11*i))):=mul_int (by
   unfold iF;rw[Ak (by omega),Ak (by omega)];rfl)
  have W:∀B,ev pg (cP (n+34)) (I s ps (.O (gl.map aD)) B q) (.bi .len (eL1 eV0))=.ok (.cl (.i ns.length)):=λB=>by have:=dL (v0 s ps (.O (gl.map aD)) B q) rfl;rwa [lM] at this
  have ai:∀B,ev pg (cP (n+34)) (I s ps (.O (gl.map aD)) B q) (.op .Add eV3 eV7)=.ok (.cl (.i ((a+i:Nat):Int))):=λB=>by have:=dP (aP (Z:=I s ps (.O (gl.map aD)) B q) 3 rfl rfl) (v7 _ _ _ _ _);rw[show(a:Int)+(i:Int)=((a+i:Nat):Int) by omega] at this;exact this
  have m2:∃x:Int,ex pg (cP (n+34)) (I s ps (.O (gl.map aD)) (.F (.i (11*(i:Int)+ns.length))) q) (.iff (.cmp .Lt (.op .Add eV3 eV7) (.bi .len (eL1 eV0))) (.k (.set (.n 9) (.idx eV0 (.op .Add eV3 eV7))) .z) .z)=.next (I s ps (.O (gl.map aD)) (.F (.i x)) q):=by have t:=cA (o:=.Lt) (ai (.F (.i (11*(i:Int)+ns.length)))) (W _) rfl;by_cases q6:a+i<ns.length;rw[Ak (by omega)] at t;exact⟨ns.getD (a+i) 0,oT t (bG (aV (fK (v0 _ _ _ _ _) rfl (ai _) q6)))⟩;rw[A3 (by omega)] at t;exact⟨_,bR t⟩
  obtain⟨x,m2⟩:=m2;obtain⟨p,hp,q5⟩:=oV (v8 s ps (.F (.i x)) q) rfl (fK (k:=0) (cW (aB 9 rfl) (aE (.i 1)) (eG (f:=43) rfl (n+33) x (by decide))) rfl (aE _) (by rw[eB];decide)) q7 (λ_=>rfl);obtain⟨q2,q8⟩:=g1 p hp;obtain⟨s',es⟩:=Cu.mp q8;have q0:=kG (g:=g) (n+1) q1 o so q2;rw[es] at q0;have q9:(ss++[s']).getD (ps++[p]).length (st,aY hs)=s':=by rw[show(ps++[p]).length=ss.length by rw[lA,W0.len];rfl];exact iO _ _ _
  refine⟨ps++[p],ss++[s'],.O (gl.map aD),.F (.i x),.F (aD p),W0.snoc o q2 es,by rw[lA,BK];omega,?_⟩;rw[q9];exact cs (bO (cW (gU rfl) (v5 _ _ _ _ _) g3)) (bG (oT t1 (cs (aV (dP (eF (aE (.i 11)) (v7 _ _ _ _ _) q4) (W _))) (cs m2 (cs (aV q5) (cs (gC (aB 10 rfl) rfl (by rw[lM];unfold lim;omega) rfl (by rw[Ax];rfl)) (bG (aV (bK (gU rfl) (v5 _ _ _ _ _) (aB 10 rfl) q0)))))))))
theorem vD(n:Nat)(hb:bs∈boxSet)(o:dW bs.length hs){ns:List Int}(hn:ns.length<=63){st:List Int}(U:st∈standsL bs){a m:Nat}(ha:a<=10)(hm:m<=100):∃(ps:List (Nat×Nat)) (ss:List St),Wov bs hs (st,aY hs) ps ss/\ps.length<=m/\cP (n+35) 51 [.lst (ns.map D.int),aU bs g hs,aR st,.i a,.i m]=.ok (.lst (ps.map aD),true,false):=by
 obtain⟨l3,l4⟩:=eV hb;obtain⟨h2,h3⟩:=iD o;obtain⟨Z',ef,ps,ss,s7,B,I,q,L,pl,rfl⟩:=cT (t:=.n 7) (λi Z=>∃(ps:List (Nat×Nat)) (ss:List St) (s7 B I q:Sl),Wov bs hs (st,aY hs) ps ss/\ps.length<=i/\Z=spF ns bs g hs st a m (ss.getD ps.length (st,aY hs)) ps s7 B I q) (bM (aP 4 rfl rfl) rfl (by omega)) ⟨[],[(st,aY hs)],_,_,_,_,Wov.nil (aCC o (kE U).1),Ao _,rfl⟩ λi hi Z ⟨ps,ss,s7,B,I,q,L,pl,W⟩=>by
  have q3:i<m:=by simpa using hi
  subst W;obtain⟨q1,q2,t8,t9,q4,W',q0,e⟩:=aBx n l4 o hn ha (by omega) L pl B I q;refine⟨spF ns bs g hs st a m (ss.getD ps.length (st,aY hs)) ps (.F (aG i)) B I q,_,?_,e,q1,q2,_,_,_,_,W',q0,rfl⟩;rw[A6,AR,dA];rfl
 exact⟨ps,ss,L,by simpa using pl,aI rfl rfl (v:=⟨.lst (ps.map aD),true,false,[]⟩) (cs (aV (iC (aP 2 rfl (aS st)) (sX h3 rfl))) (cs rfl (cs ef (lV rfl))))⟩
inductive Px where
 | s (x:Sm)|c (x:Cn)
noncomputable def Px.d:Px->D
 | .s x=>x.d|.c x=>x.d
noncomputable def Px.sz:Px->Nat
 | .s x=>x.sz|.c x=>x.sz
noncomputable def Px.word:Px->Str
 | .s (.num _) => "number"|.s (.box _) => "box"|.s (.aft _) => "after"|.s (.two p _ _)=>aDJ p|.c .yes => "yes"|.c (.cmp i _ _)=>wY i|.c (.nt _) => "not"|.c (.two p _ _)=>sK p
noncomputable def Px.items:Px->List (Int ⊕ Px)
 | .s (.num k)=>[.inl k]
 | .s (.box k)=>[.inl k]
 | .s (.aft k)=>[.inl k]
 | .s (.two _ a b)=>[.inr (.s a),.inr (.s b)]
 | .c .yes=>[]
 | .c (.cmp _ a b)=>[.inr (.s a),.inr (.s b)]
 | .c (.nt x)=>[.inr (.c x)]
 | .c (.two _ a b)=>[.inr (.c a),.inr (.c b)]
noncomputable def itD:Int ⊕ Px->D
 | .inl k=>.i k|.inr p=>p.d
theorem Px.noL:∀p:Px,Hp.noL p.d=true
 | .s x=>x.noL|.c x=>x.noL
theorem aMu:∀t,noL (itD t)=true
 | .inl _=>rfl|.inr p=>p.noL
theorem Px.d_eq:∀p:Px,p.d=.tup (.str p.word::p.items.map itD)
 | .s (.num _)=>rfl|.s (.box _)=>rfl|.s (.aft _)=>rfl|.s (.two _ _ _)=>rfl|.c .yes=>rfl|.c (.cmp _ _ _)=>rfl|.c (.nt _)=>rfl|.c (.two _ _ _)=>rfl
theorem xM:∀(p q:Px),BR q∈p.items->q.sz+1<=p.sz:=λp q h=>by
 cases p with
 | s x=>cases x with
  | two t a b=>simp only[Px.items,A4,E8,AJ,Ev] at h;rcases h with rfl|rfl <;> simp only[Px.sz,Sm.sz] <;> omega
  | num _=>simp[Px.items] at h|box _=>simp[Px.items] at h|aft _=>simp[Px.items] at h
 | c x=>cases x with
  | yes=>simp[Px.items] at h|cmp t a b=>simp only[Px.items,A4,E8,AJ,Ev] at h;rcases h with rfl|rfl <;> simp only[Px.sz,Cn.sz] <;> omega
  | nt y=>simp only[Px.items,A4,E8,AJ,Ev] at h;subst h;simp only[Px.sz,Cn.sz];omega|two t a b=>simp only[Px.items,A4,E8,AJ,Ev] at h;rcases h with rfl|rfl <;> simp only[Px.sz,Cn.sz] <;> omega
theorem Px.pos:∀p:Px,1<=p.sz
 | .s x=>x.sz_pos|.c x=>x.sz_pos
noncomputable def rdS:Sm->List Nat
 | .box k=>[k]
 | .two _ a b=>rdS a++rdS b|_=>[]
noncomputable def rdC:Cn->List Nat
 | .yes=>[]
 | .cmp _ a b=>rdS a++rdS b|.nt c=>rdC c|.two _ a b=>rdC a++rdC b
noncomputable def Px.rd:Px->List Nat
 | .s x=>rdS x|.c x=>rdC x
noncomputable def rdT:Int ⊕ Px->List Nat
 | .inl _=>[]
 | .inr p=>p.rd
noncomputable def Px.bx:Px->Option Nat
 | .s (.box k)=>some k|_=>none
theorem aPj:∀i,(wY i == "box")=false:=by decide +kernel
theorem aPk:∀i,(sK i == "box")=false:=by decide +kernel
theorem aCD:∀p:Px,(p.word == "box")=p.bx.isSome
 | .s (.num _)=>by show(("number" : Str) == "box")=false;decide +kernel|.s (.box _)=>by show(("box" : Str) == "box")=true;grind|.s (.aft _)=>by show(("after" : Str) == "box")=false;decide +kernel|.s (.two p _ _)=>aOV p|.c .yes=>by show(("yes" : Str) == "box")=false;decide +kernel|.c (.cmp i _ _)=>aPj i|.c (.nt _)=>by show(("not" : Str) == "box")=false;decide +kernel|.c (.two p _ _)=>aPk p
theorem aCE{p:Px}{k:Nat}(h:p.bx=some k):p=.s (.box k):=by
 cases p with
 | s x=>cases x <;> cases h;rfl|c x=>cases h
theorem aGD{p:Px}(h:p.bx=none):p.rd=(p.items.map rdT).flatten:=by
 cases p with
 | s x=>cases x with|box k=>cases h|num _=>rfl|aft _=>rfl|two _ a b=>simp[Px.rd,Px.items,rdT,rdS]
 | c x=>cases x with|yes=>rfl|cmp _ a b=>simp[Px.rd,Px.items,rdT,rdC]|nt y=>simp[Px.rd,Px.items,rdT,rdC]|two _ a b=>simp[Px.rd,Px.items,rdT,rdC]
noncomputable def prS:Sm->List Px
 | .two p a b=>.s (.two p a b)::(prS a++prS b)|x=>[.s x]
noncomputable def prC:Cn->List Px
 | .yes=>[.c .yes]
 | .cmp i a b=>.c (.cmp i a b)::(prS a++prS b)|.nt x=>.c (.nt x)::prC x|.two p a b=>.c (.two p a b)::(prC a++prC b)
noncomputable def Px.pr:Px->List Px
 | .s x=>prS x|.c x=>prC x
noncomputable def prT:Int ⊕ Px->List Px
 | .inl _=>[]
 | .inr p=>p.pr
theorem aGE(p:Px):p.pr=p::(p.items.map prT).flatten:=by
 cases p with
 | s x=>cases x with|box k=>rfl|num _=>rfl|aft _=>rfl|two _ a b=>simp[Px.pr,Px.items,prT,prS]
 | c x=>cases x with|yes=>rfl|cmp _ a b=>simp[Px.pr,Px.items,prT,prC]|nt y=>simp[Px.pr,Px.items,prT,prC]|two _ a b=>simp[Px.pr,Px.items,prT,prC]
theorem sZ:∀x:Sm,(prS x).filterMap Px.bx=rdS x
 | .num _=>rfl|.box _=>rfl|.aft _=>rfl|.two p a b=>by show(Ew Px.bx (.s (.two p a b)::(prS a++prS b)))=_;rw[BP rfl,CM,sZ a,sZ b];rfl
theorem xN:∀x:Cn,(prC x).filterMap Px.bx=rdC x
 | .yes=>rfl|.cmp i a b=>by show(Ew Px.bx (.c (.cmp i a b)::(prS a++prS b)))=_;rw[BP rfl,CM,sZ a,sZ b];rfl|.nt x=>by show(Ew Px.bx (.c (.nt x)::prC x))=_;rw[BP rfl,xN x];rfl|.two p a b=>by show(Ew Px.bx (.c (.two p a b)::(prC a++prC b)))=_;rw[BP rfl,CM,xN a,xN b];rfl
theorem aJA:∀p:Px,p.pr.filterMap Px.bx=p.rd
 | .s x=>sZ x|.c x=>xN x
theorem nY:∀x:Sm,(prS x).length=x.sz
 | .num _=>rfl|.box _=>rfl|.aft _=>rfl|.two p a b=>by show(prS a++prS b).length+1=1+a.sz+b.sz;rw[lA,nY a,nY b];omega
theorem qK:∀x:Cn,(prC x).length=x.sz
 | .yes=>rfl|.cmp i a b=>by show(prS a++prS b).length+1=1+a.sz+b.sz;rw[lA,nY a,nY b];omega|.nt x=>by show(prC x).length+1=1+x.sz;rw[qK x];omega|.two p a b=>by show(prC a++prC b).length+1=1+a.sz+b.sz;rw[lA,qK a,qK b];omega
theorem aBy:∀p:Px,p.pr.length=p.sz
 | .s x=>nY x|.c x=>qK x
theorem xO(p:Px):p.rd.length<=p.sz:=by rw[<-aJA,<-aBy];grind
theorem mT{m:Nat}:∀x:Sm,x.wf m true->∀k∈rdS x,k<m
 | .num _,_,_,h=>by cases h|.box j,w,k,h=>by rw[AE.mp h];exact w|.aft _,_,_,h=>by cases h|.two _ a b,w,k,h=>by rcases Bl.mp h with z|z;exact mT a w.1 k z;exact mT b w.2 k z
theorem tB{m:Nat}:∀x:Cn,x.wf m true->∀k∈rdC x,k<m
 | .yes,_,_,h=>by cases h|.cmp _ a b,w,k,h=>by rcases Bl.mp h with z|z;exact mT a w.1 k z;exact mT b w.2 k z
 | .nt x,w,k,h=>tB x w k h|.two _ a b,w,k,h=>by rcases Bl.mp h with z|z;exact tB a w.1 k z;exact tB b w.2 k z
section
variable {P:Pg} {W:Caller} {Z:Sg}
theorem tD{p:Px}{i:Nat}(h:Z[i]? = some (.T p.d)):walk P W Z (.seq (.sli (.v i) (eL1 eC1) .z))=.ok (p.items.map (λt=>Vl.cl (itD t)),[]):=by
 have B:noLs (.str p.word::p.items.map itD)=true:=by have:=p.noL;rw[p.d_eq] at this;exact this
 have v:ev P W Z (.v i)=.ok (.cl (.tup (.str p.word::p.items.map itD))):=by rw[<-p.d_eq];exact aP i h p.noL
 have e:ev P W Z (.sli (.v i) (eL1 eC1) .z)=.ok (.cl (.tup (p.items.map itD))):=by have q:evs P W Z (eL1 eC1)=.ok [.cl (.i ((1:Nat):Int))]:=rfl;show(ev P W Z (.v i) >>= λx=>evs P W Z (eL1 eC1) >>= λl=>evs P W Z .z >>= λh=>_)=_;rw[v,aA,q,aA,cN,aA];show R.iff (aO ((1:Nat):Int)) (eC (.cl (.tup (.str p.word::p.items.map itD))) (some ((1:Nat):Int)) none)=_;rw[iW (by decide),aMq B,aBv];rfl
 rw[bL,e,aA];show R.ok (items _ (p.items.map itD),[])=_;rw[cU aMu]
end
theorem aDY:∀p:Px,p.items.length<=2
 | .s (.num _)=>by simp[Px.items]|.s (.box _)=>by simp[Px.items]|.s (.aft _)=>by simp[Px.items]|.s (.two _ _ _)=>by simp[Px.items]|.c .yes=>by simp[Px.items]|.c (.cmp _ _ _)=>by simp[Px.items]|.c (.nt _)=>by simp[Px.items]|.c (.two _ _ _)=>by simp[Px.items]
theorem fQ{α q:Type}(f:α->List q)(l:List α){i:Nat}(h:i<l.length):((l.take (i+1)).map f).flatten=((l.take i).map f).flatten++f l[i]:=by rw[D7,Ac h,Ax,List.flatten_append];simp
theorem qC{p:Px}{α:Type}(f:Int ⊕ Px->List α)(q:∀t∈p.items,(f t).length<=100):∀i,((p.items.take i).map f).flatten.length<=200:=λi=>by
 have h2:=aDY p;have:∀l:List (Int ⊕ Px),(∀t∈l,(f t).length<=100)->(l.map f).flatten.length<=100*l.length:=λl=>by
  induction l with
  | nil=>intro _;exact Ao _|cons t l I=>grind
 have h1:=this (p.items.take i) λt B=>q t (Cq B);have:(p.items.take i).length<=2:=by rw[A0];omega
 omega
theorem oX:∀(N:Nat) (p:Px),p.sz<=N->p.sz<=50->∀n,cP (n+N) 52 [p.d]=.ok (.lst (p.rd.map aG),true,false)
 | 0,p,h,_,_=>absurd h (by have:=p.pos;omega)|N+1,p,h,h50,n=>by
  have v0:∀s1 s2,ev pg (cP (n+N)) [.T p.d,s1,s2] (.idx eV0 eC0)=.ok (.cl (.str p.word)):=λs1 s2=>by refine aZ (aP 0 rfl p.noL) (aE _) ?_;rw[p.d_eq];exact fP _ _ rfl
  have t0:=cQ (v0 .x .x) (aCD p);cases hb:p.bx with
  | some k=>have e:=aCE hb;subst e;exact aI (F:=f52) rfl rfl (v:=⟨.lst [aG k],true,false,[]⟩) (eQ t0 (bB (dK (aH (aZ (aP 0 rfl rfl) (aE (.i 1)) (gQ _ _ _ rfl)) bD))))|none=>
   rw[hb] at t0
   let B:Nat->Sl->Sg:=λi s2=>[.T p.d,.O ((((p.items.take i).map rdT).flatten).map aG),s2]
   obtain⟨Z',ef,s2,rfl⟩:=cT (P:=pg) (W:=cP (n+N)) (Z:=B 0 .x) (t:=.n 2) (b:=match hdS (drp 2 f52.body) with|.for _ _ b=>b|_=>.z) (λi Z=>∃s2,Z=B i s2) (tD (i:=0) rfl) ⟨_,rfl⟩ λi hi Z ⟨s2,q0⟩=>by
    have I:i<p.items.length:=by simpa using hi
    subst q0;have w2:ev pg (cP (n+N)) (B i (.F (itD p.items[i]))) eV2=.ok (.cl (itD p.items[i])):=aB 2 rfl;have hm:=AF I;cases L:p.items[i] with
    | inl k=>
     rw[L] at w2;refine⟨B i (.F (itD p.items[i])),B (i+1) (.F (itD p.items[i])),?_,?_,_,rfl⟩;rw[A6,dA];rfl;have:B (i+1) (.F (itD p.items[i]))=B i (.F (itD p.items[i])):=by
      show [_,_,_]=[_,_,_]
      rw[fQ rdT p.items I,L];simp[rdT]
     rw[this,L];exact bG (bR (fI w2 rfl))
    | inr q=>
     rw[L] at w2 hm;have qs:=xM p q hm;have ih:=oX N q (by omega) (by omega) n;have fl:=qC (p:=p) rdT (λt ht=>by
      cases t with
      | inl _=>exact B6 _|inr q=>have:=xO q;have:=xM p q ht;show q.rd.length<=100;omega) i
     refine⟨B i (.F (itD p.items[i])),B (i+1) (.F (itD p.items[i])),?_,?_,_,rfl⟩;rw[A6,dA];rfl;rw[L];refine bG (oT (fI w2 (by show isI [.tTuple] pg q.d=some true;rw[q.d_eq];rfl)) (bG ?_));have e:=bO (i:=1) (eF (o:=.Add) (aW (P:=pg) (W:=cP (n+N)) (Z:=B i (.F (itD (.inr q)))) 1 rfl) (cX w2 ih) (sR rfl rfl (bQ cY _) (bQ cY _) (by
      rw[lM,lM];have:=xO q;unfold lim;omega)))
     refine e.trans ?_;show O.next [_,_,_]=O.next [_,_,_];rw[fQ rdT p.items I,L,Ax];rfl
   have U:((p.items.take (p.items.map λt=>Vl.cl (itD t)).length).map rdT).flatten=p.rd:=by rw[lM,Bx,aGD hb]
   refine aI (F:=f52) rfl rfl (v:=⟨.lst (p.rd.map aG),true,false,[]⟩) (cs (bR t0) (cs (Z':=B 0 .x) rfl (cs ef (lV ?_))));show O.ret ⟨.lst ((((p.items.take (p.items.map λt=>Vl.cl (itD t)).length).map rdT).flatten).map aG),true,false,[]⟩=_;rw[U]
section
variable {P:Pg} {W:Caller} {Z:Sg}
theorem aGF{i:Nat}{e:E}{ds ds' r:List D}(h:ev P W Z e=.ok ⟨.lst ds',true,false,[]⟩)(n:noLs ds'=true)(hi:Z[i]? = some (.O ds))(B:r.length<=lim)(q:r=ds++ds'):ex P W Z (.ext i e)=.next (Z.set i (.O r)):=by
 subst q;have s:qY (⟨.lst ds',true,false,[]⟩:Vl)=some (.cl .non,ds'):=by show some (Vl.mk .non false (false&&!noLs ds') (if noLs ds'=true then [] else []),ds')=_;rw[n];rfl
 rw[aGa,h,cF,s];show put Z i (.cl .non) (λds=>some (ds++ds'))=_;unfold put iH;rw[sJ,hG,hi];simp_all
theorem aBz{k:Nat}{caps al:List Nat}{T:T}{it:It}{c elt:E}{α:Type}{ts:List α}(f:α->Vl)(g:α->D)(p:α->Bool)(ng:∀t,noL (g t)=true)(hw:walk P W Z it=.ok (ts.map f,al))(hl:ts.length<=lim)
 (L:∀t∈ts,∃q,bT (Am k .x++caps.map λi=>((freeze Z al)[i]?).getD .x) (f t) T=.ok q/\tst P W q c=.ok (p t)/\(p t=true->ev P W q elt=.ok (.cl (g t)))):ev P W Z (.comp k caps T it (.k c .z) elt)=.ok ⟨.lst ((ts.filter p).map g),true,false,[]⟩:=by
 rw[lD,hw,aA,jY (f:=f) (g:=g) (p:=p) λt U=>by
  obtain⟨q,B,I,e3⟩:=L t U;show(bT _ (f t) T >>= λq=>_)=_;rw[B];show(tsts P W q (.k c .z) >>= λk=>if k then (ev P W q elt >>= λy=>R.ok (some y)) else R.ok none)=_;rw[uY,I,aA];cases hp:p t with
  | false=>rfl|true=>
   simp_all]
 show R.iff (decide (((ts.filter p).map λt=>Vl.cl (g t)).length<=lim)) (R.ok (fE k caps al _))=_;rw[wW ng,Ak (by rw[lM];grind)];rfl
end
theorem vE:∀(N:Nat) (p:Px),p.sz<=N->p.sz<=50->∀n,cP (n+N) 11 [p.d]=.ok (.lst (p.pr.map Px.d),true,false)
 | 0,p,h,_,_=>absurd h (by have:=p.pos;omega)|N+1,p,h,h50,n=>by
  let B:Nat->Sl->Sg:=λi s2=>[.T p.d,.O ((p::((p.items.take i).map prT).flatten).map Px.d),s2]
  obtain⟨Z',ef,s2,rfl⟩:=cT (P:=pg) (W:=cP (n+N)) (Z:=B 0 .x) (t:=.n 2) (b:=match hdS (drp 1 f11.body) with|.for _ _ b=>b|_=>.z) (λi Z=>∃s2,Z=B i s2) (tD (i:=0) rfl) ⟨_,rfl⟩ λi hi Z ⟨s2,q0⟩=>by
   have I:i<p.items.length:=by simpa using hi
   subst q0;have w2:ev pg (cP (n+N)) (B i (.F (itD p.items[i]))) eV2=.ok (.cl (itD p.items[i])):=aB 2 rfl;have hm:=AF I;cases L:p.items[i] with
   | inl k=>
    rw[L] at w2;refine⟨B i (.F (itD p.items[i])),B (i+1) (.F (itD p.items[i])),?_,?_,_,rfl⟩;rw[A6,dA];rfl;have:B (i+1) (.F (itD p.items[i]))=B i (.F (itD p.items[i])):=by
     show [_,_,_]=[_,_,_]
     rw[fQ prT p.items I,L];simp[prT]
    rw[this,L];exact bG (bR (fI w2 rfl))
   | inr q=>
    rw[L] at w2 hm;have qs:=xM p q hm;have ih:=vE N q (by omega) (by omega) n;have fl:=qC (p:=p) prT (λt ht=>by
     cases t with
     | inl _=>exact B6 _|inr q=>have:=aBy q;have:=xM p q ht;show q.pr.length<=100;omega) (i+1)
    refine⟨B i (.F (itD p.items[i])),B (i+1) (.F (itD p.items[i])),?_,?_,_,rfl⟩;rw[A6,dA];rfl;rw[L];exact bG (oT (fI w2 (by show isI [.tTuple] pg q.d=some true;rw[q.d_eq];rfl)) (bG (aGF (cX w2 ih) (bQ Px.noL _) rfl (by
     rw[lM,lC];unfold lim;omega) (by rw[fQ prT p.items I,L,<-Ax];rfl))))
  have U:p::((p.items.take (p.items.map λt=>Vl.cl (itD t)).length).map prT).flatten=p.pr:=by rw[lM,Bx,<-aGE]
  refine aI (F:=f11) rfl rfl (v:=⟨.lst (p.pr.map Px.d),true,false,[]⟩) (cs (Z':=B 0 .x) (bO (dK (aH (aP 0 rfl p.noL) bD))) (cs ef (lV ?_)));show O.ret ⟨.lst ((p::((p.items.take (p.items.map λt=>Vl.cl (itD t)).length).map prT).flatten).map Px.d),true,false,[]⟩=_;rw[U]
abbrev dG(ks:List Nat):D:=.lst (ks.map aG)
theorem vF:∀{ks:List Nat},(∀k∈ks,k<4)->qX (ks.map aG)=some ks
 | [],_=>rfl|k::ks,h=>by have h1:=h k Ar;have B:=vF (ks:=ks) λj q=>h j (Al _ q);show(if 0<=(k:Int)/\(k:Int)<=3 then (match qX (ks.map aG) with|some r=>some ((k:Int).toNat::r)|none=>none) else none)=_;rw[if_pos (by omega),B,B7]
theorem nZ{ks:List Nat}(h:∀k∈ks,k<4)(k:Nat):k∈eW ks↔k∈ks:=by unfold eW;rw[Cj,AC,AO];grind
theorem aCF{ks:List Nat}(k:Nat)(h:k∈eW ks):k<4:=AC.mp (Cj.mp h).1
theorem tE(ks:List Nat):(eW ks).length<=4:=AM (DF _ _) (by decide)
theorem aGG{P:Pg}{W:Caller}{Z:Sg}{a:E}{v:Vl}{ks:List Nat}(h:ev P W Z a=.ok v)(B:v.d=dG ks)(q:∀k∈ks,k<4):ev P W Z (.sset a)=.ok ⟨dG (eW ks),true,false,[]⟩:=by show(ev P W Z a >>= λx=>_)=_;rw[h,aA];show(match v.d with|.lst ds=>(match qX ds with|some ns=>R.ok (⟨.lst ((eW ns).map λ(k:Nat)=>.i (k:Int)),true,false,[]⟩:Vl)|none=>.bad)|_=>.bad)=_;rw[B];show(match qX (ks.map aG) with|some ns=>R.ok (⟨.lst ((eW ns).map λ(k:Nat)=>.i (k:Int)),true,false,[]⟩:Vl)|none=>.bad)=_;rw[vF q]
noncomputable def Px.wf(m:Nat):Px->Prop
 | .s x=>x.wf m true|.c x=>x.wf m true
theorem Px.rd_lt{m:Nat}:∀{p:Px},p.wf m->∀k∈p.rd,k<m
 | .s x,w=>mT x w|.c x,w=>tB x w
theorem aAn{α B:Type}(f:α->Option B)(d:B):∀l:List α,((l.filter λa=>(f a).isSome).map λa=>(f a).getD d)=l.filterMap f
 | []=>rfl|a::l=>by
  have q:=aAn f d l;cases h:f a with
  | none=>rw[BP h,<-q,EI (by rw[h];grind)]|some b=>rw[E7 h,<-q,EH (by rw[h];rfl),mC,h];rfl
theorem vG(n:Nat){p:Px}{N m:Nat}(w:p.wf m)(W:m<=4)(U:p.sz<=N)(B:p.sz<=50):cP (n+N+1) 10 [p.d]=.ok (dG (eW p.rd),true,false):=by
 have hw:walk pg (cP (n+N)) [.T p.d] (.seq (.call 11 (eL1 eV0)))=.ok (p.pr.map (λq=>Vl.cl q.d),[]):=by rw[bL,cX (aP 0 rfl p.noL) (vE N p U B n),aA];show R.ok (items _ (p.pr.map Px.d),[])=_;rw[cU Px.noL]
 have L:ev pg (cP (n+N)) [.T p.d] (.comp 1 [] (.n 0) (.seq (.call 11 (eL1 eV0))) (eL1 (.cmp .Eq (.idx eV0 eC0) (.c (.str "box")))) (.idx eV0 eC1))=.ok ⟨.lst ((p.pr.filter λq=>q.bx.isSome).map λq=>aG (q.bx.getD 0)),true,false,[]⟩:=by
  refine aBz (ts:=p.pr) (al:=[]) (λq=>Vl.cl q.d) (λq=>aG (q.bx.getD 0)) (λq=>q.bx.isSome) (λ_=>rfl) hw (by rw[aBy];unfold lim;omega) λq _=>⟨[.F q.d],dA _,?_,λh=>?_⟩
  refine cQ (aZ (aB 0 rfl) (aE _) ?_) (aCD q);rw[q.d_eq];exact fP _ _ rfl;obtain⟨k,I⟩:=Cu.mp h;have e:=aCE I;subst e;exact aZ (aB 0 rfl) (aE (.i 1)) (gQ _ _ _ rfl)
 have e:((p.pr.filter λq=>q.bx.isSome).map λq=>aG (q.bx.getD 0))=p.rd.map aG:=by rw[<-aJA,<-aAn Px.bx 0,As];rfl
 rw[e] at L;exact aI (F:=f10) rfl rfl (v:=⟨dG (eW p.rd),true,false,[]⟩) (bB (aGG L rfl λk I=>A1 (Px.rd_lt w k I) W))
noncomputable def Way.wr(w:Way):List Nat:=w.ps.map (·.1)
noncomputable def Way.rdl(w:Way):List Nat:=rdC w.g++(w.ps.map λp=>rdS p.2).flatten
noncomputable def Way.rds(w:Way):List Nat:=eW (eW (rdC w.g)++(w.ps.map λp=>eW (rdS p.2)).flatten)
theorem oA{α:Type}{f:α->List Nat}{l:List α}{k:Nat}:k∈(l.map f).flatten↔∃a∈l,k∈f a:=by rw[List.mem_flatten];grind
variable {m:Nat}
theorem aJB(I:m<=4){w:Way}(o:cV m w):∀k∈eW (rdC w.g)++(w.ps.map λp=>eW (rdS p.2)).flatten,k<4:=λk q=>by rcases Bl.mp q with z|z;exact aCF k z;obtain⟨p,_,B⟩:=oA.mp z;exact aCF k B
theorem qL(B:m<=4){w:Way}(o:cV m w)(k:Nat):k∈w.rds↔k∈w.rdl:=by unfold Way.rds Way.rdl;rw[nZ (aJB B o),Bl,Bl,nZ λk h=>A1 (tB _ o.g k h) B,oA,oA];refine or_congr Iff.rfl ⟨λ⟨p,q,h⟩=>⟨p,q,?_⟩,λ⟨p,q,h⟩=>⟨p,q,?_⟩⟩;exact(nZ (λk h=>A1 (mT _ (o.ps p q).wf k h) B) k).mp h;exact(nZ (λk h=>A1 (mT _ (o.ps p q).wf k h) B) k).mpr h
theorem aGH:∀{ps:List (Nat×Sm)} {a:Nat},Up ps->(∀p∈ps,a<=p.1/\p.1<m)->a<=m->ps.length+a<=m
 | [],a,_,_,h=>by simpa using h|p::ps,a,u,h,_=>by have L:=h p Ar;have I:=Cf.mp u;have:=aGH (ps:=ps) (a:=p.1+1) I.2 (λq B=>⟨I.1 q B,(h q (Al _ B)).2⟩) L.2;rw[lC];omega
theorem oY{w:Way}(o:cV m w):w.ps.length<=m:=by have:=aGH (a:=0) o.up (λp q=>⟨B6 _,(o.ps p q).box⟩) (B6 _);omega
theorem tF{α:Type}{f:α->List Nat}{b:Nat}:∀{l:List α},(∀a∈l,(f a).length<=b)->(l.map f).flatten.length<=b*l.length
 | [],_=>Ao _|a::l,h=>by have:=tF (l:=l) λx q=>h x (Al _ q);have:=h a Ar;rw[mC,BV,lA,lC,Nat.mul_add,Nat.mul_one];omega
section
variable {P:Pg} {W:Caller} {Z:Sg} {w:Way}
theorem w_g{e:E}(h:ev P W Z e=.ok (.cl w.d)):ev P W Z (.idx e eC0)=.ok (.cl w.g.d):=aZ h (aE _) (fP _ _ w.g.noL)
theorem aMv{e:E}(h:ev P W Z e=.ok (.cl w.d)):walk P W Z (.seq (.idx e eC1))=.ok (w.ps.map (λp=>Vl.cl (eR p)),[]):=by have q:noL (.tup (w.ps.map eR))=true:=gL w.ps;rw[bL,aZ h (aE _) (gQ _ _ _ q),aA];show R.ok (items _ (w.ps.map eR),[])=_;rw[mS]
theorem aPl{e:E}(h:ev P W Z e=.ok (.cl w.d))(q:m<=4)(o:cV m w):ev P W Z (.comp 2 [] (.t [0,1]) (.seq (.idx e eC1)) .z eV0)=.ok ⟨dG w.wr,true,false,[]⟩:=by
 have:=fG (k:=2) (caps:=[]) (T:=.t [0,1]) (elt:=.v 0) (ts:=w.ps) (al:=[]) (λp=>Vl.cl (eR p)) (λp=>aG p.1) (λ_=>rfl) (aMv h) (by have:=oY o;unfold lim;omega) λp _=>⟨[.F (aG p.1),.F p.2.d],kA _ rfl p.2.noL,aB 0 rfl⟩
 rw[this];unfold Way.wr;rw[dG,As];rfl
end
theorem aBA(n:Nat)(q:m<=4){w:Way}(o:cV m w):cP (n+1) 13 [w.d]=.ok (dG w.wr,true,false):=
 aI (F:=f13) rfl rfl (v:=⟨dG w.wr,true,false,[]⟩) (bB (aPl (aP 0 rfl (eU w)) q o))
theorem aDZ(n:Nat)(L:m<=4){w:Way}(o:cV m w):cP (n+33) 12 [w.d]=.ok (dG w.rds,true,false):=by
 let I:Nat->Sl->Sl->Sg:=λi s2 B=>[.T w.d,.O ((eW (rdC w.g)++((w.ps.take i).map λp=>eW (rdS p.2)).flatten).map aG),s2,B]
 have pl:=oY o;have v0:ev pg (cP (n+32)) [.T w.d,.x,.x,.x] eV0=.ok (.cl w.d):=aP 0 rfl (eU w);have k1:ex pg (cP (n+32)) [.T w.d,.x,.x,.x] (hdS f12.body)=.next (I 0 .x .x):=by have:=bO (i:=1) (cX (w_g v0) (vG n (p:=.c w.g) (N:=31) o.g L o.gs (AM o.gs (by decide))));refine this.trans ?_;show O.next [_,_,_,_]=O.next [_,_,_,_];rw[HW,mN,GQ,Bu];rfl
 obtain⟨Z',ef,s2,B,rfl⟩:=cT (P:=pg) (W:=cP (n+32)) (Z:=I 0 .x .x) (t:=.t [2,3]) (b:=match hdS (drp 1 f12.body) with|.for _ _ b=>b|_=>.z) (λi Z=>∃s2 B,Z=I i s2 B) (aMv (aP 0 rfl (eU w))) ⟨_,_,rfl⟩ λi hi Z ⟨s2,B,U⟩=>by
  have q:i<w.ps.length:=by simpa using hi
  subst U;have op:=o.ps _ (AF q);have ff:=tF (f:=λp:Nat×Sm=>eW (rdS p.2)) (b:=4) (l:=w.ps.take (i+1)) λ_ _=>tE _;have:=tE (rdC w.g);have tl:(w.ps.take (i+1)).length<=4:=by rw[A0];omega
  refine⟨I i (.F (aG w.ps[i].1)) (.F w.ps[i].2.d),I (i+1) (.F (aG w.ps[i].1)) (.F w.ps[i].2.d),?_,bG (aGF (cX (aB 3 rfl) (vG (n+28) (p:=.s w.ps[i].2) (N:=3) op.wf L op.sz (AM op.sz (by decide)))) (bQ cY _) rfl (by
   rw[lM,lA];unfold lim;omega) (by rw[fQ (λp:Nat×Sm=>eW (rdS p.2)) w.ps q,<-Ax,Ba];rfl)),_,_,rfl⟩
  rw[A6];exact kA _ rfl w.ps[i].2.noL
 refine aI (F:=f12) rfl rfl (v:=⟨dG w.rds,true,false,[]⟩) (cs k1 (cs ef (bB (aGG (aW 1 rfl) ?_ (aJB L o)))));grind
noncomputable def kH(hs:W3)(h p j:Nat)(w:Way):Prop:=∃hd ws,hs[h]? = some hd/\hd[p]? = some ws/\ws[j]? = some w
theorem kH.ok{hs:W3}{h p j:Nat}{w:Way}(a:kH hs h p j w)(o:dW m hs):cV m w:=by obtain⟨hd,ws,h1,h2,q⟩:=a;exact(((o.ok hd (mG h1)).ok ws (mG h2)).ok w (mG q)).1
abbrev tkD(h p j:Nat):D:=.tup [aG h,aG p,aG j]
noncomputable def gD(h:Nat)(w:Way):D:=.tup [aG h,dG w.wr,dG (w.rds++w.wr)]
section
variable {P:Pg} {W:Caller} {Z:Sg} {h p j:Nat}
theorem aGI{e:E}(a:ev P W Z e=.ok (.cl (tkD h p j))):ev P W Z (.idx e eC0)=.ok (.cl (aG h)):=aZ a (aE _) (fP _ _ rfl)
theorem aPm{e:E}(a:ev P W Z e=.ok (.cl (tkD h p j))):ev P W Z (.idx e eC1)=.ok (.cl (aG p)):=aZ a (aE _) (gQ _ _ _ rfl)
theorem aPn{e:E}(a:ev P W Z e=.ok (.cl (tkD h p j))):ev P W Z (.idx e eC2)=.ok (.cl (aG j)):=aZ a (aE _) (aPe _ _ _ rfl)
end
variable {bs:List (Str×Int)} {g:Cn} {hs:W3}
theorem aEa(n:Nat)(B:bs.length<=4)(o:dW bs.length hs){h p j:Nat}{w:Way}(a:kH hs h p j w):cP (n+34) 40 [aU bs g hs,tkD h p j]=.ok (gD h w,false,false):=by
 have L:=a.ok o;obtain⟨hd,ws,h1,h2,h3⟩:=a;have pl:=oY L
 let q:Sl->Sg:=λs=>[.T (aU bs g hs),.T (tkD h p j),s]
 have I:∀s,ev pg (cP (n+33)) (q s) eV1=.ok (.cl (tkD h p j)):=λs=>aP 1 rfl rfl;have k1:ex pg (cP (n+33)) (q .x) (hdS f40.body)=.next (q (.F w.d)):=aV (aZ (aAa (aZ (aGB rfl) (aGI (I _)) (sV h1)) (aPm (I _)) (sW (n+32) hd h2) rfl rfl) (aPn (I _)) (by
  rw[pK (f:=Way.d) (v:=⟨gR ws,false,true,[]⟩) rfl h3];exact congrArg R.ok (dD (eU w))))
 have W:ev pg (cP (n+33)) (q (.F w.d)) eV2=.ok (.cl w.d):=aB 2 rfl;have U:=cX W (aBA (n+32) B L);have cr:=eF (o:=.Add) (cX W (aDZ n B L)) U (sR rfl rfl (bQ cY _) (bQ cY _) (by
  have:=tE (eW (rdC w.g)++(w.ps.map λp=>eW (rdS p.2)).flatten);rw[lM,lM];unfold Way.rds Way.wr lim;rw[lM];omega))
 have e:evs pg (cP (n+33)) (q (.F w.d)) (eL3 (.idx eV1 eC0) (.call 13 (eL1 eV2)) (.op .Add (.call 12 (eL1 eV2)) (.call 13 (eL1 eV2))))=.ok [.cl (aG h),⟨dG w.wr,true,false,[]⟩,⟨.lst (w.rds.map aG++w.wr.map aG),true,false,[]⟩]:=by rw[aM,aGI (I _),aA,aM,U,aA,aM,cr,aA,cN];rfl
 refine aI (F:=f40) rfl rfl (v:=.cl (gD h w)) (cs k1 (bB ?_));show ev pg (cP (n+33)) (q (.F w.d)) (.tup _)=_;rw[sD,e,aA,<-Ax];rfl
theorem aGJ(a b:Nat):((a:Int)==(b:Int))=(a==b):=by grind
theorem aAo(k:Nat):∀ks:List Nat,tR (aG k) (ks.map aG)=some (decide (k∈ks))
 | []=>rfl|a::ks=>by have q:=aAo k ks;show(match eqD (aG a) (aG k),tR (aG k) (ks.map aG) with|some a,some b=>some (a||b)|_,_=>none)=_;rw[q,aCp,aGJ];grind
theorem xP(k:Nat)(ks:List Nat):cZ .In (aG k) (dG ks)=some (decide (k∈ks)):=by show tR (aG k) (ks.map aG)=_;rw[aAo]
theorem oZ{α:Type}(f:α->Bool):∀l:List α,cS (l.map λa=>D.bl (f a))=some (l.map f)
 | []=>rfl|a::l=>by show(match cS (l.map λa=>D.bl (f a)) with|some bs=>some (f a::bs)|none=>none)=_;rw[oZ f l];rfl
theorem aAp(n:Nat){q cs:List Nat}(I:q.length<=100):cP (n+1) 42 [dG q,dG cs]=.ok (.bl (q.any λk=>decide (k∈cs)),false,false):=by
 have B:ev pg (cP n) [.T (dG q),.T (dG cs)] (.comp 1 [1] (.n 0) (.seq eV0) .z (.cmp .In eV0 eV1))=.ok ⟨.lst (q.map λk=>D.bl (decide (k∈cs))),true,false,[]⟩:=by
  refine fG (ts:=q) (al:=[]) (λk=>Vl.cl (aG k)) (λk=>D.bl (decide (k∈cs))) (λ_=>rfl) ?_ (by unfold lim;omega) λk _=>⟨[.F (aG k),.T (dG cs)],dA _,mD (aB 0 rfl) (aK 1 rfl) (xP k cs)⟩
  rw[bL,aK 0 (ds:=q.map aG) rfl,aA];show R.ok (items _ (q.map aG),[])=_;rw[cU cY]
 refine aI (F:=f42) rfl rfl (v:=.cl (.bl (q.any λk=>decide (k∈cs)))) (bB (dT B ?_));show(match cS (q.map λk=>D.bl (decide (k∈cs))) with|some bs=>R.ok (Vl.cl (.bl (bs.any id)))|none=>.bad)=_;rw[oZ];simp_all
noncomputable def pA(h h':Nat)(w w':Way):Bool:=!(h==h')&&(!(w.wr.any λk=>decide (k∈w'.rds++w'.wr))&&!(w'.wr.any λk=>decide (k∈w.rds++w.wr)))
section
variable {P:Pg} {W:Caller} {Z:Sg} {h:Nat} {w:Way}
theorem aID{i:Nat}(a:Z[i]? = some (.T (gD h w))):ev P W Z (.v i)=.ok ⟨gD h w,false,true,[]⟩:=by show dI Z i=_;unfold dI;rw[a];rfl
theorem aPo{i:Nat}(a:Z[i]? = some (.T (gD h w))):ev P W Z (.idx (.v i) eC0)=.ok (.cl (aG h)):=aZ (aID a) (aE _) rfl
theorem aPp{i:Nat}(a:Z[i]? = some (.T (gD h w))):ev P W Z (.idx (.v i) eC1)=.ok ⟨dG w.wr,false,true,[]⟩:=aZ (aID a) (aE _) rfl
theorem aPq{i:Nat}(a:Z[i]? = some (.T (gD h w))):ev P W Z (.idx (.v i) eC2)=.ok ⟨dG (w.rds++w.wr),false,true,[]⟩:=aZ (aID a) (aE _) rfl
end
theorem aGK(a b:Nat):cZ .NotEq (aG a) (aG b)=some (!(a==b)):=by rw[aBg,aCp,aGJ];rfl
theorem aEb(n:Nat)(B:m<=4){h h':Nat}{w q:Way}(o:cV m w)(o':cV m q):cP (n+2) 41 [gD h w,gD h' q]=.ok (.bl (pA h h' w q),false,false):=by
 have l:∀{w:Way},cV m w->w.wr.length<=100:=λ{w} o=>by have:=oY o;unfold Way.wr;rw[lM];omega
 exact aI (F:=f41) rfl rfl (v:=.cl (.bl (pA h h' w q))) (bB (aGe (mD (aPo rfl) (aPo rfl) (aGK h h')) (aGe (aMh (fH (aPp rfl) (aPq rfl) (aAp n (l o)))) (aMh (fH (aPp rfl) (aPq rfl) (aAp n (l o')))))))
variable {m:Nat} {bs:List (Str×Int)} {g:Cn} {hs:W3}
noncomputable def bW(w:Way):D:=.tup [dG w.rdl,dG w.wr]
theorem aCG{w:Way}(I:m<=4)(o:cV m w):∀i,(rdC w.g++((w.ps.take i).map λp=>rdS p.2).flatten).length<=100:=λi=>by
 have pl:=oY o;have h1:(rdC w.g).length<=31:=AM (xO (.c w.g)) o.gs;have B:=tF (f:=λp:Nat×Sm=>rdS p.2) (b:=3) (l:=w.ps.take i) λp q=>AM (xO (.s p.2)) (o.ps p (Cq q)).sz;have L:(w.ps.take i).length<=4:=by rw[A0];omega
 rw[lA];omega
theorem aMw{P:Pg}{W:Caller}{Z:Sg}{h p j:Nat}{w:Way}(a:kH hs h p j w){i:Nat}{e:E}(hi:Z[i]? = some (.T (aU bs g hs)))(q:ev P W Z e=.ok (.cl (tkD h p j))):ev P W Z (.idx (.idx (.idx (.idx (.v i) eC2) (.idx e eC0)) (.idx e eC1)) (.idx e eC2))=.ok (.cl w.d):=by obtain⟨hd,ws,h1,h2,B⟩:=a;refine aZ (aZ (aZ (aGB hi) (aGI q) (sV h1)) (aPm q) (aCB h2)) (aPn q) ?_;rw[pK (f:=Way.d) (v:=⟨gR ws,false,true,[]⟩) rfl B];exact congrArg R.ok (dD (eU w))
theorem tG(n:Nat)(L:bs.length<=4)(o:dW bs.length hs){h p j:Nat}{w:Way}(a:kH hs h p j w):cP (n+32) 53 [aU bs g hs,tkD h p j]=.ok (bW w,false,false):=by
 have U:=a.ok o
 let I:Nat->Sl->Sl->Sg:=λi s4 B=>[.T (aU bs g hs),.T (tkD h p j),.F w.d,.O ((rdC w.g++((w.ps.take i).map λp=>rdS p.2).flatten).map aG),s4,B]
 let ρ:Sl->Sl->Sg:=λs2 s3=>[.T (aU bs g hs),.T (tkD h p j),s2,s3,.x,.x]
 have k1:ex pg (cP (n+31)) (ρ .x .x) (hdS f53.body)=.next (ρ (.F w.d) .x):=aV (aMw a rfl (aP 1 rfl rfl));have k2:ex pg (cP (n+31)) (ρ (.F w.d) .x) (hdS (drp 1 f53.body))=.next (I 0 .x .x):=by have:=bO (i:=3) (cX (w_g (aB (P:=pg) (W:=cP (n+31)) (Z:=ρ (.F w.d) .x) 2 rfl)) (oX 31 (.c w.g) U.gs (AM U.gs (by decide)) n));refine this.trans ?_;show O.next [_,_,_,_,_,_]=O.next [_,_,_,_,_,_];rw[HW,mN,GQ,Bu];rfl
 obtain⟨Z',ef,s4,B,rfl⟩:=cT (P:=pg) (W:=cP (n+31)) (Z:=I 0 .x .x) (t:=.t [4,5]) (b:=match hdS (drp 2 f53.body) with|.for _ _ b=>b|_=>.z) (λi Z=>∃s4 B,Z=I i s4 B) (aMv (aB 2 rfl)) ⟨_,_,rfl⟩ λi hi Z ⟨s4,B,q0⟩=>by
  have q:i<w.ps.length:=by simpa using hi
  subst q0;have op:=U.ps _ (AF q);have ll:=aCG L U (i+1);rw[fQ (λp:Nat×Sm=>rdS p.2) w.ps q,<-Ba,lA] at ll;refine⟨I i (.F (aG w.ps[i].1)) (.F w.ps[i].2.d),I (i+1) (.F (aG w.ps[i].1)) (.F w.ps[i].2.d),?_,bG ?_,_,_,rfl⟩;rw[A6];exact kA _ rfl w.ps[i].2.noL;have:=bO (i:=3) (eF (o:=.Add) (aW (P:=pg) (W:=cP (n+31)) (Z:=I i (.F (aG w.ps[i].1)) (.F w.ps[i].2.d)) 3 rfl) (cX (aB 5 rfl) (oX 3 (.s w.ps[i].2) op.sz (AM op.sz (by decide)) (n+28))) (sR rfl rfl (bQ cY _) (bQ cY _) (by
   rw[lM,lM];show _+(rdS w.ps[i].2).length<=lim;unfold lim;omega)))
  refine this.trans ?_;show O.next [_,_,_,_,_,_]=O.next [_,_,_,_,_,_];rw[fQ (λp:Nat×Sm=>rdS p.2) w.ps q,<-Ba,<-Ax];rfl
 have q2:rdC w.g++((w.ps.take (w.ps.map λp=>Vl.cl (eR p)).length).map λp=>rdS p.2).flatten=w.rdl:=by rw[lM,Bx];rfl
 let ω:Sg:=[.T (aU bs g hs),.T (tkD h p j),.F w.d,.O (w.rdl.map aG),s4,B]
 have q1:I (w.ps.map λp=>Vl.cl (eR p)).length s4 B=ω:=by grind
 have e:evs pg (cP (n+31)) ω (eL2 eV3 (.comp 2 [] (.t [0,1]) (.seq (.idx eV2 eC1)) .z eV0))=.ok [⟨dG w.rdl,false,false,[3]⟩,⟨dG w.wr,true,false,[]⟩]:=by rw[aM,aW 3 (pa:=false) (ds:=w.rdl.map aG) rfl,aA,aM,aPl (w:=w) (aB 2 rfl) L U,aA,cN];rfl
 have hr:ev pg (cP (n+31)) ω (.tup (eL2 eV3 (.comp 2 [] (.t [0,1]) (.seq (.idx eV2 eC1)) .z eV0)))=.ok ⟨bW w,false,false,[3]⟩:=by rw[sD,e,aA];rfl
 exact aI (F:=f53) rfl rfl (v:=⟨bW w,false,false,[3]⟩) (cs k1 (cs k2 (cs (ef.trans (congrArg O.next q1)) (bB hr))))
noncomputable def aEc(w w':Way):List Nat:=(w.wr.filter λk=>decide (k∈w'.rdl++w'.wr))++(w'.wr.filter λk=>decide (k∈w.rdl))
theorem qM{q cs:List Nat}:(!(q.any λk=>decide (k∈cs)))=true↔∀k∈q,k∉cs:=by rw[G8,List.any_eq_false];simp
theorem aMx(B:m<=4){w q:Way}(o:cV m w)(o':cV m q):(!(w.wr.any λk=>decide (k∈q.rds++q.wr))&&!(q.wr.any λk=>decide (k∈w.rds++w.wr)))=(aEc w q).isEmpty:=by rw[Bv,bA,qM,qM,GM];unfold aEc;rw[List.append_eq_nil_iff,DB,DB];simp only[AO,Bl,qL B o,qL B o'];grind
theorem aMy(ks:List Nat):cZ .Eq (dG ks) (.lst [])=some ks.isEmpty:=by cases ks <;> rfl
section
variable {P:Pg} {W:Caller} {Z:Sg} {w:Way}
theorem aPr{i:Nat}(a:Z[i]? = some (.F (bW w))):ev P W Z (.idx (.v i) eC0)=.ok (.cl (dG w.rdl)):=aZ (aB i a) (aE _) rfl
theorem aPs{i:Nat}(a:Z[i]? = some (.F (bW w))):ev P W Z (.idx (.v i) eC1)=.ok (.cl (dG w.wr)):=aZ (aB i a) (aE _) rfl
theorem aPt{i:Nat}(a:Z[i]? = some (.F (bW w))):walk P W Z (.seq (.idx (.v i) eC1))=.ok (w.wr.map (λk=>Vl.cl (aG k)),[]):=by rw[bL,aPs a,aA];show R.ok (items _ (w.wr.map aG),[])=_;rw[cU cY]
end
theorem aGL{w:Way}(q:m<=4)(o:cV m w):w.wr.length<=4:=by have:=oY o;unfold Way.wr;rw[lM];omega
theorem vH(n:Nat)(B:bs.length<=4)(o:dW bs.length hs){h p j h' p' U:Nat}{w q:Way}(a:kH hs h p j w)(a':kH hs h' p' U q):cP (n+33) 54 [aU bs g hs,tkD h p j,tkD h' p' U]=.ok (.bl (pA h h' w q),false,false):=by
 have wo:=a.ok o;have L:=a'.ok o
 let I:Sl->Sl->Sl->Sg:=λs3 s4 s5=>[.T (aU bs g hs),.T (tkD h p j),.T (tkD h' p' U),s3,s4,s5]
 have l1:=aGL B wo;have l2:=aGL B L;have l3:=aCG B L q.ps.length;rw[Bx] at l3;have hF:=DF (λk=>decide (k∈q.rdl++q.wr)) w.wr;have q0:=DF (λk=>decide (k∈w.rdl)) q.wr;have k1:ex pg (cP (n+32)) (I .x .x .x) (hdS f54.body)=.next (I (.F (bW w)) .x .x):=aV (fH (gU rfl) (aP 1 rfl rfl) (tG n B o a));have k2:ex pg (cP (n+32)) (I (.F (bW w)) .x .x) (hdS (drp 1 f54.body))=.next (I (.F (bW w)) (.F (bW q)) .x):=aV (fH (gU rfl) (aP 2 rfl rfl) (tG n B o a'));have k3:ex pg (cP (n+32)) (I (.F (bW w)) (.F (bW q)) .x) (hdS (drp 2 f54.body))=.next (I (.F (bW w)) (.F (bW q)) (.O ((w.wr.filter λk=>decide (k∈q.rdl++q.wr)).map aG))):=by
  refine bO (aBz (ts:=w.wr) (al:=[]) (λk=>Vl.cl (aG k)) aG (λk=>decide (k∈q.rdl++q.wr)) (λ_=>rfl) (aPt rfl) (by unfold lim;omega) λk _=>⟨[.F (aG k),.F (bW q)],dA _,cA (aB 0 rfl) (eF (o:=.Add) (aPr rfl) (aPs rfl) (sR rfl rfl (bQ cY _) (bQ cY _) (by
   rw[lM,lM];show(rdC q.g++_).length+_<=lim;unfold lim;omega))) ?_,λ_=>aB 0 rfl⟩)
  rw[<-Ax];exact xP k _
 have k4:ex pg (cP (n+32)) (I (.F (bW w)) (.F (bW q)) (.O ((w.wr.filter λk=>decide (k∈q.rdl++q.wr)).map aG))) (hdS (drp 3 f54.body))=.next (I (.F (bW w)) (.F (bW q)) (.O ((aEc w q).map aG))):=by
  have:=bO (i:=5) (eF (o:=.Add) (aW (P:=pg) (W:=cP (n+32)) (Z:=I (.F (bW w)) (.F (bW q)) (.O ((w.wr.filter λk=>decide (k∈q.rdl++q.wr)).map aG))) 5 rfl) (aBz (k:=1) (caps:=[3]) (T:=.n 0) (c:=.cmp .In eV0 (.idx eV1 eC0)) (elt:=.v 0) (ts:=q.wr) (al:=[]) (λk=>Vl.cl (aG k)) aG (λk=>decide (k∈w.rdl)) (λ_=>rfl) (aPt (i:=4) rfl) (by unfold lim;omega) λk _=>⟨[.F (aG k),.F (bW w)],dA _,cA (aB 0 rfl) (aPr rfl) (xP k _),λ_=>aB 0 rfl⟩) (sR rfl rfl (bQ cY _) (bQ cY _) (by
   rw[lM,lM];unfold lim;omega)))
  refine this.trans ?_;rw[<-Ax];rfl
 have e5:=mD (aW (P:=pg) (W:=cP (n+32)) (Z:=I (.F (bW w)) (.F (bW q)) (.O ((aEc w q).map aG))) 5 rfl) (dK bD) (aMy (aEc w q));refine aI (F:=f54) rfl rfl (v:=.cl (.bl (pA h h' w q))) (cs k1 (cs k2 (cs k3 (cs k4 (bB ?_)))));have:=aGe (mD (aGI (aP (P:=pg) (W:=cP (n+32)) (Z:=I (.F (bW w)) (.F (bW q)) (.O ((aEc w q).map aG))) 1 rfl rfl)) (aGI (aP 2 rfl rfl)) (aGK h h')) e5;refine this.trans ?_;unfold pA;rw[aMx B wo L]
theorem tH{m:Nat}{a a' b b':List Int}:∀{s:Sm},s.wf m true->(∀k∈rdS s,a.getD k 0=b.getD k 0)->s.val a a'=s.val b b'
 | .num _,_,_=>rfl|.box j,_,h=>h j (AE.mpr rfl)|.aft _,w,_=>by cases w.2|.two p x y,w,h=>by
  have B:=tH (a':=a') (b':=b') (s:=x) w.1 λk q=>h k (AY _ q);have I:=tH (a':=a') (b':=b') (s:=y) w.2 λk q=>h k (A5 _ q);show(if p=true then _ else _)=(if p=true then _ else _)
  rw[B,I]
theorem oC{m:Nat}{a a' b b':List Int}:∀{s:Cn},s.wf m true->(∀k∈rdC s,a.getD k 0=b.getD k 0)->s.hold a a'=s.hold b b'
 | .yes,_,_=>rfl|.cmp i x y,w,h=>by
  have B:=tH (a':=a') (b':=b') (s:=x) w.1 λk q=>h k (AY _ q);have I:=tH (a':=a') (b':=b') (s:=y) w.2 λk q=>h k (A5 _ q);show(if i=true then _ else _)=(if i=true then _ else _)
  rw[B,I]
 | .nt x,w,h=>by
  show(!x.hold a a')=(!x.hold b b')
  rw[oC (s:=x) w h]
 | .two p x y,w,h=>by
  have B:=oC (a':=a') (b':=b') (s:=x) w.1 λk q=>h k (AY _ q);have I:=oC (a':=a') (b':=b') (s:=y) w.2 λk q=>h k (A5 _ q);show(if p=true then _ else _)=(if p=true then _ else _)
  rw[B,I]
noncomputable def apl:List (Nat×Int)->List Int->List Int
 | [],acc=>acc|p::ps,acc=>apl ps (acc.set p.1 p.2)
noncomputable def vls(st:List Int)(ps:List (Nat×Sm)):List (Nat×Int):=ps.map λp=>(p.1,p.2.val st st)
noncomputable def okV(bs:List (Str×Int))(vs:List (Nat×Int)):Prop:=∀v∈vs,0<=v.2/\v.2<=gJ bs v.1
theorem aAq{bs:List (Str×Int)}{st:List Int}:∀{ps:List (Nat×Sm)} {acc r:List Int},putF bs st acc ps=some r↔okV bs (vls st ps)/\r=apl (vls st ps) acc
 | [],acc,r=>⟨λh=>⟨λ_ z=>absurd z AJ,(A9 h).symm⟩,λh=>congrArg some h.2.symm⟩
 | p::ps,acc,r=>by
  show(if 0<=p.2.val st st/\p.2.val st st<=gJ bs p.1 then putF bs st (acc.set p.1 (p.2.val st st)) ps else none)=some r↔_;have ok:okV bs (vls st (p::ps))↔(0<=p.2.val st st/\p.2.val st st<=gJ bs p.1)/\okV bs (vls st ps):=⟨λh=>⟨h _ Ar,λv B=>h v (Al _ B)⟩,λh v B=>by
   rcases A4.mp B with rfl|z;exact h.1;exact h.2 v z⟩
  rw[ok];by_cases q:0<=p.2.val st st/\p.2.val st st<=gJ bs p.1;rw[if_pos q,aAq];exact⟨λh=>⟨⟨q,h.1⟩,h.2⟩,λh=>⟨h.1.2,h.2⟩⟩;rw[if_neg q];exact⟨λh=>(by cases h),λh=>absurd h.1.1 q⟩
theorem oD{bs:List (Str×Int)}{w:Way}{st r:List Int}:behF bs w st=some r↔w.g.hold st st=true/\okV bs (vls st w.ps)/\r=apl (vls st w.ps) st:=by unfold behF;by_cases h:w.g.hold st st=true;rw[if_pos h,aAq];grind;grind
theorem xQ(st:List Int)(w:Way):(vls st w.ps).map (·.1)=w.wr:=by unfold vls Way.wr;rw[As];rfl
theorem xR:∀{vs:List (Nat×Int)} {acc:List Int} {k:Nat},k∉vs.map (·.1)->(apl vs acc).getD k 0=acc.getD k 0
 | [],_,_,_=>rfl|v::vs,acc,k,h=>by rw[mC,A4,not_or] at h;show(apl vs (acc.set v.1 v.2)).getD k 0=_;rw[xR h.2,Ae,Af (λz=>h.1 z.symm),Ae]
theorem aCH:∀{vs:List (Nat×Int)} {acc:List Int} {k:Nat} {x:Int},k∉vs.map (·.1)->apl vs (acc.set k x)=(apl vs acc).set k x
 | [],_,_,_,_=>rfl|v::vs,acc,k,x,h=>by rw[mC,A4,not_or] at h;show apl vs ((acc.set k x).set v.1 v.2)=(apl vs (acc.set v.1 v.2)).set k x;rw[Iu _ _ h.1,aCH h.2]
theorem aAr:∀{us vs:List (Nat×Int)} {acc:List Int},(∀k∈us.map (·.1),k∉vs.map (·.1))->apl vs (apl us acc)=apl us (apl vs acc)
 | [],_,_,_=>rfl|u::us,vs,acc,h=>by show apl vs (apl us (acc.set u.1 u.2))=apl us ((apl vs acc).set u.1 u.2);rw[aAr λk q=>h k (by rw[mC];grind),aCH (h u.1 (by rw[mC];grind))]
structure Apt (w v:Way):Prop where
 a:∀k∈w.wr,k∉v.rdl/\k∉v.wr
 b:∀k∈v.wr,k∉w.rdl/\k∉w.wr
theorem Apt.symm{w v:Way}(h:Apt w v):Apt v w:=⟨h.b,h.a⟩
variable {m:Nat}
theorem tJ(q:m<=4){w v:Way}(o:cV m w)(o':cV m v){h h':Nat}:pA h h' w v=true↔h≠h'/\Apt w v:=by
 unfold pA;rw[bA,bA,qM,qM];have e:(!(h==h'))=true↔h≠h':=by simp
 rw[e];simp only[Bl,qL q o,qL q o',not_or];exact⟨λz=>⟨z.1,z.2.1,z.2.2⟩,λz=>⟨z.1,z.2.a,z.2.b⟩⟩
theorem aEd(q:m<=4){w v:Way}(o:cV m w)(o':cV m v){h h':Nat}:pA h h' w v=pA h' h v w:=by rw[Bv,tJ q o o',tJ q o' o];exact⟨λz=>⟨λe=>z.1 e.symm,z.2.symm⟩,λz=>⟨λe=>z.1 e.symm,z.2.symm⟩⟩
theorem aGM{w:Way}(o:cV m w){a b:List Int}(h:∀k∈w.rdl,a.getD k 0=b.getD k 0):vls a w.ps=vls b w.ps:=by unfold vls;refine Bf λp q=>?_;rw[tH (a':=a) (b':=b) (o.ps p q).wf λk B=>h k (A5 _ (oA.mpr ⟨p,q,B⟩))]
theorem aGN{bs:List (Str×Int)}{w v:Way}(o:cV m w)(o':cV m v)(ap:Apt w v){s a b:List Int}(h1:behF bs w s=some a)(h2:behF bs v a=some b):∃c,behF bs v s=some c/\behF bs w c=some b:=by obtain⟨g1,k1,rfl⟩:=oD.mp h1;obtain⟨L,U,rfl⟩:=oD.mp h2;have B:∀k∈v.rdl,(apl (vls s w.ps) s).getD k 0=s.getD k 0:=λk q=>xR (by rw[xQ];exact λz=>(ap.a k z).1 q);have I:∀k∈w.rdl,(apl (vls s v.ps) s).getD k 0=s.getD k 0:=λk q=>xR (by rw[xQ];exact λz=>(ap.b k z).1 q);have W:=aGM o' B;have q2:=aGM o I;rw[oC (b':=s) o'.g λk q=>B k (AY _ q)] at L;rw[W] at U;refine⟨_,oD.mpr ⟨L,U,rfl⟩,oD.mpr ⟨?_,?_,?_⟩⟩;rw[oC (b':=s) o.g λk q=>I k (AY _ q)];exact g1;rw[q2];exact k1;rw[W,q2];exact aAr λk q=>by rw[xQ] at q ⊢;exact(ap.a k q).2
variable {bs:List (Str×Int)} {g:Cn} {hs:W3}
theorem aAs{α:Type}{l:List α}{i:Nat}{x d:α}(h:i<l.length):(l.set i x).getD i d=x:=by rw[Ae,Az h];rfl
theorem mF{α:Type}{l:List α}{i j:Nat}{x d:α}(h:i≠j):(l.set i x).getD j d=l.getD j d:=by rw[Ae,Af h,Ae]
theorem aMz{l:List Int}{i:Nat}{x:Int}(h:i<l.length):l.take i++[x]++l.drop (i+1)=l.set i x:=by rw[List.set_eq_take_append_cons_drop,if_pos h,Ba];rfl
abbrev wyS(hs:W3)(s:St)(p:Nat×Nat):Way:=dU (bS hs s p.1) p.2
theorem fX{s t:St}{p:Nat×Nat}(h:p.1<s.2.length):goneF bs hs s p=some t↔p.2<(bS hs s p.1).length/\behF bs (wyS hs s p) s.1=some t.1/\t.2=s.2.set p.1 (wyS hs s p).nx:=by unfold goneF;rw[aMz h];by_cases q:p.2<(bS hs s p.1).length;rw[if_pos q];constructor;intro e;obtain⟨st,h1,h2⟩:=Bp.mp e;subst h2;exact⟨q,h1,rfl⟩;rintro ⟨_,h1,h2⟩;rw[h1];show some _=some t;rw[<-h2];rw[if_neg q];exact⟨λe=>(by cases e),λe=>absurd e.1 q⟩
theorem aBB{m:Nat}{s:St}(I:SOk m hs s){p:Nat×Nat}(B:p.1<hs.length)(q:p.2<(bS hs s p.1).length):kH hs p.1 (s.2.getD p.1 0).toNat p.2 (wyS hs s p):=by refine⟨hs.getD p.1 [],bS hs s p.1,dE [] B,?_,(xF q).2⟩;refine dE [] ?_;rcases Nat.lt_or_ge (s.2.getD p.1 0).toNat (hs.getD p.1 []).length with z|z;exact z;unfold bS at q;rw[Ae (l:=hs.getD p.1 []),Bb z] at q;exact absurd q (CH _)
theorem xS{s t:St}{h:Nat}(e:s.2.getD h 0=t.2.getD h 0):bS hs s h=bS hs t h:=by unfold bS;rw[e]
theorem aEe{m:Nat}(o:dW m hs){s a b:St}(I:SOk m hs s){p q:Nat×Nat}(hp:p.1<hs.length)(hq:q.1<hs.length)(B:p.1≠q.1)(h1:goneF bs hs s p=some a)(h2:goneF bs hs a q=some b)(ap:Apt (wyS hs s p) (wyS hs a q)) :
 ∃c,goneF bs hs s q=some c/\goneF bs hs c p=some b/\c.2.getD p.1 0=s.2.getD p.1 0/\a.2.getD q.1 0=s.2.getD q.1 0:=by
 have lp:p.1<s.2.length:=by rw[I.pl];exact hp
 have lq:q.1<s.2.length:=by rw[I.pl];exact hq
 obtain⟨r1,b1,L⟩:=(fX lp).mp h1;have ea:a.2.getD q.1 0=s.2.getD q.1 0:=by rw[L,mF B]
 have ra:=xS (hs:=hs) ea;obtain⟨U,W,e2⟩:=(fX (by rw[L,Av];exact lq)).mp h2;have ew:wyS hs a q=wyS hs s q:=by show dU (bS hs a q.1) q.2=dU (bS hs s q.1) q.2;rw[ra]
 rw[ra] at U;rw[ew] at W e2 ap;obtain⟨c,c1,c2⟩:=aGN ((aBB I hp r1).ok o) ((aBB I hq U).ok o) ap b1 W;have ec:(s.2.set q.1 (wyS hs s q).nx).getD p.1 0=s.2.getD p.1 0:=mF λz=>B z.symm;have rc:bS hs (c,s.2.set q.1 (wyS hs s q).nx) p.1=bS hs s p.1:=xS ec;have wc:wyS hs (c,s.2.set q.1 (wyS hs s q).nx) p=wyS hs s p:=by show dU (bS hs _ p.1) p.2=dU (bS hs s p.1) p.2;rw[rc]
 refine⟨(c,s.2.set q.1 (wyS hs s q).nx),(fX lq).mpr ⟨U,c1,rfl⟩,(fX (by rw[Av];exact lp)).mpr ⟨by rw[rc];exact r1,by rw[wc];exact c2,?_⟩,ec,ea⟩;rw[wc,e2,L];exact Iu _ _ B
noncomputable def sw(i:Nat)(ps:List (Nat×Nat)):List (Nat×Nat):=(ps.set i (ps.getD (i+1) (0,0))).set (i+1) (ps.getD i (0,0))
theorem mU(i:Nat)(ps:List (Nat×Nat)):(sw i ps).length=ps.length:=by unfold sw;rw[Av,Av]
section
variable {ps:List (Nat×Nat)} {i:Nat}
theorem aGO(h:i+1<ps.length):(sw i ps).getD i (0,0)=ps.getD (i+1) (0,0):=by unfold sw;rw[mF (by omega),aAs (by omega)]
theorem aIE(h:i+1<ps.length):(sw i ps).getD (i+1) (0,0)=ps.getD i (0,0):=by unfold sw;rw[aAs (by rw[Av];exact h)]
theorem aMA{k:Nat}(q:i≠k)(h1:i+1≠k):(sw i ps).getD k (0,0)=ps.getD k (0,0):=by unfold sw;rw[mF h1,mF q]
theorem aGP{α:Type}{l r:List α}(d:α)(q:l.length=r.length)(h:∀k,k<l.length->l.getD k d=r.getD k d):l=r:=by refine List.ext_getElem q λk h1 h2=>?_;have:=h k h1;rw[Ae,Ae,Ac h1,Ac h2] at this;exact this
end
noncomputable def apI(hs:W3)(s0:St)(ps:List (Nat×Nat))(ss:List St)(i:Nat):Bool:=pA (ps.getD i (0,0)).1 (ps.getD (i+1) (0,0)).1 (wyS hs (ss.getD i s0) (ps.getD i (0,0))) (wyS hs (ss.getD (i+1) s0) (ps.getD (i+1) (0,0)))
section
variable {s0:St} {ps:List (Nat×Nat)} {ss:List St} {i:Nat}
theorem Wov.at(o:dW bs.length hs)(q:Wov bs hs s0 ps ss)(h:i<ps.length):(ps.getD i (0,0)).1<hs.length/\kH hs (ps.getD i (0,0)).1 ((ss.getD i s0).2.getD (ps.getD i (0,0)).1 0).toNat (ps.getD i (0,0)).2 (wyS hs (ss.getD i s0) (ps.getD i (0,0))):=by have B:=q.hd (ps.getD i (0,0)) (mG (dE (0,0) h));have I:=q.ok i;exact⟨B,aBB I B ((fX (by rw[I.pl];exact B)).mp (q.go i h)).1⟩
theorem Wov.swap(U:bs.length<=4)(o:dW bs.length hs)(q:Wov bs hs s0 ps ss)(h:i+1<ps.length)(ha:apI hs s0 ps ss i=true):∃c,Wov bs hs s0 (sw i ps) (ss.set (i+1) c)/\apI hs s0 (sw i ps) (ss.set (i+1) c) i=true:=by
 obtain⟨hp,wp⟩:=q.at o (i:=i) (by omega);obtain⟨hq,wq⟩:=q.at o (i:=i+1) h;obtain⟨q0,ap⟩:=(tJ U (wp.ok o) (wq.ok o)).mp ha;obtain⟨c,c1,c2,c3,c4⟩:=aEe o (q.ok i) hp hq q0 (q.go i (by omega)) (q.go (i+1) h) ap;have hl:=q.len;have I:∀k,i+1≠k->(ss.set (i+1) c).getD k s0=ss.getD k s0:=λk B=>mF B;have W:(ss.set (i+1) c).getD (i+1) s0=c:=aAs (by omega);have so:=(q.ok i).go o hq c1;refine⟨c,⟨by rw[Av,mU];exact hl,by rw[I 0 (by omega)];exact q.z,λk B=>?_,λp q1=>?_,λk=>?_⟩,?_⟩;rw[mU] at B;by_cases L:i=k;subst L;rw[aGO h,I i (by omega),W];exact c1;by_cases h1:i+1=k;subst h1;rw[aIE h,W,I (i+1+1) (by omega)];exact c2;rw[aMA L h1,I k h1,I (k+1) (by omega)];exact q.go k B;obtain⟨k,B,e⟩:=List.getElem_of_mem q1;have e2:(sw i ps).getD k (0,0)=p:=by rw[Ae,Ac B,e];rfl
 rw[mU] at B;rw[<-e2];by_cases L:i=k;subst L;rw[aGO h];exact hq;by_cases h1:i+1=k;subst h1;rw[aIE h];exact hp;rw[aMA L h1];exact(q.at o B).1;by_cases h1:i+1=k;subst h1;rw[W];exact so;rw[I k h1];exact q.ok k;unfold apI;rw[aGO h,aIE h,I i (by omega),W];have e1:wyS hs c (ps.getD i (0,0))=wyS hs (ss.getD i s0) (ps.getD i (0,0)):=by show dU (bS hs c _) _=dU (bS hs _ _) _;rw[xS c3]
 have e2:wyS hs (ss.getD i s0) (ps.getD (i+1) (0,0))=wyS hs (ss.getD (i+1) s0) (ps.getD (i+1) (0,0)):=by show dU (bS hs _ _) _=dU (bS hs _ _) _;rw[xS c4]
 rw[e1,e2,aEd U (wq.ok o) (wp.ok o)];exact ha
end
end K68
noncomputable section
set_option maxHeartbeats 4000000
namespace K68
open Hp HpS PySem
abbrev Tk3:=Nat×Nat×Nat
noncomputable def wyT(hs:W3)(t:Tk3):Way:=dU ((hs.getD t.1 []).getD t.2.1 []) t.2.2
noncomputable def apT(hs:W3)(x y:Tk3):Bool:=pA x.1 y.1 (wyT hs x) (wyT hs y)
noncomputable def bP(t:Tk3):Nat×Nat:=(t.1,t.2.2)
noncomputable def hdT(t:Tk3):Nat:=t.1
variable {hs:W3}
theorem mV(a b:Tk3):apT hs a b=apT hs b a:=by unfold apT pA;rw[Bool.and_comm (!(wyT hs a).wr.any _),show(a.1==b.1)=(b.1==a.1) from Bool.beq_comm ..]
theorem tK(a b:Tk3)(h:apT hs a b=true):hdT a≠hdT b:=by unfold apT pA at h;rw[bA] at h;intro z;have h:=h.1;rw[show a.1=b.1 from z] at h;simp at h
theorem xT(a:Tk3):(bP a).1=hdT a:=rfl
section
variable {m:Nat}
noncomputable def lfD(hs:W3)(t:Tk3):D:=.tup [aD (bP t),gD t.1 (wyT hs t)]
theorem aIF{ts:List Tk3}(h:ts≠[]):noLs (ts.map (lfD hs))=false:=by
 cases ts with
 | nil=>exact absurd rfl h|cons t ts=>rfl
theorem aGQ(n:Nat)(U:m<=4){ts:List Tk3}(o:∀t∈ts,cV m (wyT hs t))(hl:ts.length<=100){i:Nat}(hi:i<ts.length):cP (n+3) 56 [.lst (ts.map (lfD hs)),.i (i:Int)]=.ok (.bl (dF (apT hs) ts i),false,false):=by
 obtain⟨u,q⟩:∃u,ts[i]? = some u:=⟨_,Ac hi⟩
 have ou:=o u (mG q);have ne:ts≠[]:=λz=>by rw[z] at hi;exact absurd hi (CH _)
 have I:dF (apT hs) ts i=(ts.take i).all λt=>apT hs u t:=by unfold dF;rw[q]
 rw[I]
 let Z:Sg:=[.T (.lst (ts.map (lfD hs))),.T (.i (i:Int))]
 have hw:walk pg (cP (n+2)) Z (.seq (.sli eV0 .z (eL1 eV1)))=.ok ((ts.take i).map (λt=>(⟨lfD hs t,false,true,[]⟩:Vl)),[]):=by rw[bL,pZ,aK 0 (ds:=ts.map (lfD hs)) rfl,aA,aP 1 (d:=.i (i:Int)) rfl rfl,aA];show(R.iff (aO (i:Int)) (eC _ none (some (i:Int))) >>= λx=>_)=_;rw[show aO (i:Int)=true by unfold aO;rw[bA];exact⟨Ak (by omega),Ak (by omega)⟩,nN];show((R.ok (⟨.lst (cut (ts.map (lfD hs)) none (some (i:Int))),true,true&&!noLs (ts.map (lfD hs)),if noLs (ts.map (lfD hs)) then [] else []⟩:Vl)) >>= λx=>_)=_;rw[aIF ne,xK,aA,<-Cy];show R.ok (items _ ((ts.take i).map (lfD hs)),[])=_;unfold items;rw[As];rfl
 have L:ev pg (cP (n+2)) Z (.comp 2 [0,1] (.t [0,1]) (.seq (.sli eV0 .z (eL1 eV1))) .z (.call 41 (eL2 (.idx (.idx eV2 eV3) eC1) eV1)))=.ok ⟨.lst ((ts.take i).map λt=>D.bl (apT hs u t)),true,false,[]⟩:=by
  refine fG (ts:=ts.take i) (al:=[]) (λt=>(⟨lfD hs t,false,true,[]⟩:Vl)) (λt=>D.bl (apT hs u t)) (λ_=>rfl) hw (by rw[A0];unfold lim;omega) λt W=>⟨[.F (aD (bP t)),.T (gD t.1 (wyT hs t)),.T (.lst (ts.map (lfD hs))),.T (.i (i:Int))],rfl,?_⟩
  have B:ev pg (cP (n+2)) [.F (aD (bP t)),.T (gD t.1 (wyT hs t)),.T (.lst (ts.map (lfD hs))),.T (.i (i:Int))] (.idx eV2 eV3)=.ok ⟨lfD hs u,false,true,[]⟩:=aZ (aK 2 rfl) (aP 3 (d:=.i (i:Int)) rfl rfl) ((pK (f:=lfD hs) rfl q).trans rfl);exact fH (aZ B (aE (.i 1)) rfl) (aID rfl) (aEb n U ou (o t (Cq W)))
 refine aI (F:=f56) rfl rfl (v:=.cl (.bl ((ts.take i).all λt=>apT hs u t))) (bB (dT L ?_));show(match cS ((ts.take i).map λt=>D.bl (apT hs u t)) with|some bs=>R.ok (Vl.cl (.bl (bs.all id)))|none=>.bad)=_;rw[oZ];show R.ok (Vl.cl (.bl (((ts.take i).map λt=>apT hs u t).all id)))=_;rw[Ec];rfl
theorem aIG{P:Pg}{W:Caller}{Z:Sg}{f:Nat}{a b:E}{x y:Vl}{k:Bool}(h1:ev P W Z a=.ok x)(h2:ev P W Z b=.ok y)(q:W f [x.d,y.d]=.ok (.bl k,false,false)):tst P W Z (.call f (.k a (.k b .z)))=.ok k:=by
 have e:evs P W Z (.k a (.k b .z))=.ok [x,y]:=by rw[aM,h1,aA,aM,h2,aA,cN];rfl
 rw[gP,e,aA];show(W f [x.d,y.d] >>= λr=>jJ (lO _ r))=_;rw[q];rfl
theorem aIH(i j:Int):(hW i j).map Vl.cl=(Ai (j-i).toNat).map λ(k:Nat)=>Vl.cl (.i (i+(k:Int))):=by unfold hW;rw[As];rfl
theorem aII(a b:Nat×Nat):cZ .Lt (aD a) (aD b)=some (lt2 a b):=by
 show some (aDd [(a.1:Int),(a.2:Int)] [(b.1:Int),(b.2:Int)])=_;unfold lt2;simp only[aDd]
 congr 1
 by_cases h1:a.1<b.1;have:¬ ((a.1:Int)=(b.1:Int)):=by omega
 simp[h1,this];by_cases h2:a.1=b.1;simp[h2];omega;have:¬ ((a.1:Int)=(b.1:Int)):=by omega
 simp[h1,h2,this]
theorem aEf{ts:List Tk3}{i k q:Nat}{x y:Tk3}(B:ts[i]? = some x)(I:ts[k]? = some y):lU (apT hs) bP ts (q+1) i k=lU (apT hs) bP ts q (i+1) (if (lt2 (bP x) (bP y)&&dF (apT hs) ts i)=true then i else k):=by rw[lU,B,I]
theorem lJ{k:Int}(h:-1000000<=k)(h':k<=1000000):aO k=true:=by unfold aO;rw[bA];exact⟨Ak (by omega),Ak (by omega)⟩
theorem aBC(n:Nat)(hm:m<=4){ts:List Tk3}(o:∀t∈ts,cV m (wyT hs t))(hl:ts.length<=100)(ne:0<ts.length):cP (n+4) 55 [.lst (ts.map (lfD hs))]=.ok (.i (pick (apT hs) bP ts:Int),false,false):=by
 let τ:Sl->Sl->Sg:=λs1 s2=>[.T (.lst (ts.map (lfD hs))),s1,s2]
 have v0:∀s1 s2,ev pg (cP (n+3)) (τ s1 s2) eV0=.ok ⟨.lst (ts.map (lfD hs)),false,true,[]⟩:=λ_ _=>aK 0 rfl;have hw:walk pg (cP (n+3)) (τ (.F (.i ((0:Nat):Int))) .x) (.rng eC1 (.bi .len (eL1 eV0)))=.ok ((Ai (ts.length-1)).map (λ(i:Nat)=>Vl.cl (.i ((i+1:Nat):Int))),[]):=by have e:=dL (v0 (.F (.i ((0:Nat):Int))) .x) rfl;rw[lM] at e;rw[zS,aE,aA,e,aA];show R.iff (aO 1&&aO (ts.length:Int)) (R.ok ((hW 1 (ts.length:Int)).map Vl.cl,[]))=_;rw[show aO (ts.length:Int)=true from lJ (by omega) (by omega),show(aO 1&&true)=true by decide,nN,aIH,show((ts.length:Int)-1).toNat=ts.length-1 by omega];refine congrArg R.ok (congrArg (·,[]) (Bf λi _=>?_));rw[show(1:Int)+(i:Int)=((i+1:Nat):Int) by omega]
 obtain⟨Z',ef,k,hk,B,s2,rfl⟩:=cT (P:=pg) (W:=cP (n+3)) (t:=.n 2) (b:=match hdS (drp 1 f55.body) with|.for _ _ b=>b|_=>.z) (λi Z=>∃k:Nat,k<ts.length/\lU (apT hs) bP ts (ts.length-1-i) (i+1) k=pick (apT hs) bP ts/\∃s2,Z=τ (.F (.i (k:Int))) s2) hw ⟨0,ne,rfl,_,rfl⟩ λi hi Z ⟨k,hk,B,s2,q0⟩=>by
  have q1:i<ts.length-1:=by simpa using hi
  have L:i+1<ts.length:=by omega
  subst q0;obtain⟨x,hx⟩:∃x,ts[i+1]? = some x:=⟨_,Ac L⟩
  obtain⟨y,hy⟩:∃y,ts[k]? = some y:=⟨_,Ac hk⟩
  have hb:=aGQ n hm o hl L
  let U:=τ (.F (.i (k:Int))) (.F (.i ((i+1:Nat):Int)))
  have w1:ev pg (cP (n+3)) U eV1=.ok (.cl (.i (k:Int))):=aB 1 rfl;have w2:ev pg (cP (n+3)) U eV2=.ok (.cl (.i ((i+1:Nat):Int))):=aB 2 rfl;have ex:ev pg (cP (n+3)) U (.idx eV0 eV2)=.ok ⟨lfD hs x,false,true,[]⟩:=aZ (v0 _ _) w2 ((pK (f:=lfD hs) rfl hx).trans rfl);have ey:ev pg (cP (n+3)) U (.idx eV0 eV1)=.ok ⟨lfD hs y,false,true,[]⟩:=aZ (v0 _ _) w1 ((pK (f:=lfD hs) rfl hy).trans rfl);have t1:=aGm (cA (o:=.Lt) (aZ ex (aE (.i 0)) (x:=⟨lfD hs x,false,true,[]⟩) (z:=.cl (aD (bP x))) rfl) (aZ ey (aE (.i 0)) (x:=⟨lfD hs y,false,true,[]⟩) (z:=.cl (aD (bP y))) rfl) (aII (bP x) (bP y))) (aIG (v0 _ _) w2 hb);have q:lU (apT hs) bP ts (ts.length-1-(i+1)) (i+1+1) (if (lt2 (bP x) (bP y)&&dF (apT hs) ts (i+1))=true then i+1 else k)=pick (apT hs) bP ts:=by rw[show ts.length-1-i=(ts.length-1-(i+1))+1 by omega] at B;rw[aEf hx hy] at B;exact B
  refine⟨U,if (lt2 (bP x) (bP y)&&dF (apT hs) ts (i+1))=true then τ (.F (.i ((i+1:Nat):Int))) (.F (.i ((i+1:Nat):Int))) else U,?_,?_,?_⟩;rw[A6,AR];exact dA _;cases I:(lt2 (bP x) (bP y)&&dF (apT hs) ts (i+1)) with
  | true=>rw[I] at t1;exact bG (oT t1 (bG rfl))|false=>rw[I] at t1;exact bG (bR t1)
  cases I:(lt2 (bP x) (bP y)&&dF (apT hs) ts (i+1)) with
  | true=>rw[I] at q;exact⟨i+1,L,q,_,rfl⟩|false=>rw[I] at q;exact⟨k,hk,q,_,rfl⟩
 have ek:k=pick (apT hs) bP ts:=by rw[lM,AG,Fb] at B;exact B
 subst ek;exact aI (F:=f55) rfl rfl (v:=.cl (.i _)) (cs (Z':=τ (.F (.i ((0:Nat):Int))) .x) rfl (cs ef rfl))
end
section
variable {P:Pg} {W:Caller} {Z:Sg}
theorem aGR{t:Sg->R Bool}{f:Sg->O}(n:Nat)(h:t Z=.ok false):jK t f (n+1) Z=.next Z:=by show O.from Z (t Z) _=_;rw[h];rfl
theorem aGS{t:Sg->R Bool}{f:Sg->O}{Z':Sg}(n:Nat)(h:t Z=.ok true)(q:f Z=.next Z'):jK t f (n+1) Z=jK t f n Z':=by show O.from Z (t Z) _=_;rw[h];simp_all
end
section
variable {m:Nat} {hs:W3}
noncomputable def lsS(hs:W3)(a b c:Sl)(L:List Tk3)(F:List (Nat×Nat))(T:List Int)(s6:Sl):Sg:=[a,b,c,.O (L.map (lfD hs)),.O (F.map aD),.O (T.map D.int),s6]
noncomputable def lsB:Ss:=match hdS (drp 3 f39.body) with|.whl _ b=>b|_=>.z
theorem aPu{k:Int}(h:aO k=true):yR (some (R.ok (Vl.cl (.i k))))=.ok (some k):=by show R.iff (aO k) (R.ok (some k))=_;rw[h,nN]
theorem vI{α q:Type}(f:α->q):∀(l:List α) (k:Nat),(l.map f).eraseIdx k=(l.eraseIdx k).map f
 | [],_=>rfl|x::l,0=>rfl|x::l,k+1=>congrArg (f x::·) (vI f l k)
theorem aIJ(n:Nat)(hm:m<=4)(a b c:Sl){L:List Tk3}{F:List (Nat×Nat)}{T:List Int}(o:∀t∈L,cV m (wyT hs t))(ne:0<L.length)(hl:L.length+F.length<=100)(hT:T.length<=100*F.length)(U:Sl) :
 ∃(t:Tk3) (q:List Int) (t6:Sl),L[pick (apT hs) bP L]? = some t/\pick (apT hs) bP L<L.length/\q.length<=100*(F.length+1)/\exs pg (cP (n+4)) (lsS hs a b c L F T U) lsB=.next (lsS hs a b c (L.eraseIdx (pick (apT hs) bP L)) (F++[bP t]) q t6):=by
 have I:=aBC n hm o (by omega) ne;have B:=(qF (ap:=apT hs) (key:=bP) ne).1;revert I B;generalize pick (apT hs) bP L=k;intro I B;obtain⟨t,ht⟩:∃t,L[k]? = some t:=⟨_,Ac B⟩
 let q:=T++(Ai k).map λ(j:Nat)=>(F.length:Int)+((k:Int)-1-(j:Int))
 have lT:q.length<=100*(F.length+1):=by show(T++_).length<=_;rw[lA,lM,AG];omega
 have k1:ex pg (cP (n+4)) (lsS hs a b c L F T U) (hdS lsB)=.next (lsS hs a b c L F T (.F (.i (k:Int)))):=aV (cX (aW (Z:=lsS hs a b c L F T U) 3 rfl) I);have w6:ev pg (cP (n+4)) (lsS hs a b c L F T (.F (.i (k:Int)))) eV6=.ok (.cl (.i (k:Int))):=aB 6 rfl;have hc:ev pg (cP (n+4)) (lsS hs a b c L F T (.F (.i (k:Int)))) (.comp 1 [4] (.n 0) (.dwn (.op .Sub eV6 eC1)) .z (.op .Add (.bi .len (eL1 eV1)) eV0))=.ok ⟨.lst ((Ai k).map λ(j:Nat)=>D.int ((F.length:Int)+((k:Int)-1-(j:Int)))),true,false,[]⟩:=by
  refine fG (ts:=Ai k) (al:=[]) (λ(j:Nat)=>Vl.cl (.i ((k:Int)-1-(j:Int)))) (λ(j:Nat)=>D.int ((F.length:Int)+((k:Int)-1-(j:Int)))) (λ_=>rfl) ?_ (by rw[AG];unfold lim;omega) λj _=>⟨[.F (.i ((k:Int)-1-(j:Int))),.O (F.map aD)],dA _,?_⟩
  rw[aFZ,eF (o:=.Sub) w6 (aE (.i 1)) (sub_int _ 1),aA];show R.iff (aO ((k:Int)-1)) (R.ok ((lY ((k:Int)-1)).map Vl.cl,[]))=_;rw[lJ (by omega) (by omega),nN];unfold lY;rw[As,show((k:Int)-1+1).toNat=k by omega];rfl;have e:=dL (aW (P:=pg) (W:=cP (n+4)) (Z:=[.F (.i ((k:Int)-1-(j:Int))),.O (F.map aD)]) 1 rfl) rfl;rw[lM] at e;exact dP e (aB 0 rfl)
 have k2:ex pg (cP (n+4)) (lsS hs a b c L F T (.F (.i (k:Int)))) (hdS (drp 1 lsB))=.next (lsS hs a b c L F q (.F (.i (k:Int)))):=
  (aGF (i:=5) (r:=q.map D.int) hc (bQ (λ_=>rfl) _) rfl (by rw[lM];unfold lim;omega) (by rw[Ax,As];rfl)).trans rfl
 have k3:ex pg (cP (n+4)) (lsS hs a b c L F q (.F (.i (k:Int)))) (.appPop 4 3 eV6 0)=.next (lsS hs a b c (L.eraseIdx k) (F++[bP t]) q (.F (.i (k:Int)))):=by
  rw[aDG,show ev pg (cP (n+4)) (lsS hs a b c L F q (.F (.i (k:Int)))) eV6=.ok (.cl (.i (k:Int))) from aB 6 rfl];rw[aPu (lJ (by omega) (by omega)),cF];have ep:mZ (lsS hs a b c L F q (.F (.i (k:Int)))) 3 (some (k:Int))=.ok (⟨lfD hs t,false,false,[]⟩,lsS hs a b c (L.eraseIdx k) F q (.F (.i (k:Int)))):=by show(match ixN (L.map (lfD hs)).length (k:Int) with|some j=>(match (L.map (lfD hs))[j]? with|some d=>R.ok (Vl.sub ⟨.non,false,false,[]⟩ d,(lsS hs a b c L F q (.F (.i (k:Int)))).set 3 (.O ((L.map (lfD hs)).eraseIdx j)))|none=>.bad)|none=>.bad)=_;rw[show ixN (L.map (lfD hs)).length (k:Int)=some k by unfold ixN;rw[if_pos (by omega),if_pos (by rw[lM];omega)];rfl];show(match (L.map (lfD hs))[k]? with|some d=>R.ok (Vl.sub ⟨.non,false,false,[]⟩ d,_)|none=>.bad)=_;rw[Ay,ht,vI];rfl
  rw[ep,cF];show O.from _ (R.ok (Vl.cl (aD (bP t)))) _=_;rw[cF];show(if (F.map aD++[aD (bP t)]).length<=lim then O.next _ else .bad)=_;rw[if_pos (by rw[lA,lM];unfold lim;simp;omega)];show O.next [a,b,c,.O ((L.eraseIdx k).map (lfD hs)),.O (F.map aD++[aD (bP t)]),.O (q.map D.int),.F (.i (k:Int))]=O.next [a,b,c,.O ((L.eraseIdx k).map (lfD hs)),.O ((F++[bP t]).map aD),.O (q.map D.int),.F (.i (k:Int))];rw[show(F++[bP t]).map aD=F.map aD++[aD (bP t)] from Ax]
 exact⟨t,q,.F (.i (k:Int)),ht,B,lT,cs k1 (cs k2 (bG k3))⟩
theorem aCI{W:Caller}(a b c:Sl)(L:List Tk3)(F:List (Nat×Nat))(T:List Int)(q:Sl):tst pg W (lsS hs a b c L F T q) eV3=.ok (!(L.map (lfD hs)).isEmpty):=by rw[aOR];rfl
theorem aCJ(n:Nat)(W:m<=4)(a b c:Sl):∀(N:Nat) (L:List Tk3) (F:List (Nat×Nat)) (T:List Int) (q:Sl) (B:Nat),L.length=N->N<B->(∀t∈L,cV m (wyT hs t))->L.length+F.length<=100->T.length<=100*F.length ->
 ∃(I:List Int) (U:Sl),jK (λZ=>tst pg (cP (n+4)) Z eV3) (λZ=>exs pg (cP (n+4)) Z lsB) B (lsS hs a b c L F T q)=.next (lsS hs a b c [] (F++(norm (apT hs) bP N L).map bP) I U)
 | 0,L,F,T,q,B+1,e,_,_,hl,_=>by cases BB.mp e;refine⟨T,q,?_⟩;rw[show F++(norm (apT hs) bP 0 []).map bP=F from Bu F];exact aGR (t:=λZ=>tst pg (cP (n+4)) Z eV3) _ (aCI a b c [] F T q)|N+1,L,F,T,q,B+1,e,h,o,hl,hT=>by
  obtain⟨t,I,U,h1,h2,h3,h4⟩:=aIJ n W a b c o (by omega) hl hT q;obtain⟨T2,u6,g2⟩:=aCJ n W a b c N (L.eraseIdx (pick (apT hs) bP L)) (F++[bP t]) I U B (by rw[BF h2];omega) (by omega) (λt ht=>o t (List.mem_of_mem_eraseIdx ht)) (by rw[lA,BF h2];simp;omega) (by rw[lA];simpa using h3);refine⟨T2,u6,(aGS (t:=λZ=>tst pg (cP (n+4)) Z eV3) (f:=λZ=>exs pg (cP (n+4)) Z lsB) _ ((aCI a b c L F T q).trans ?_) h4).trans (g2.trans ?_)⟩;cases L with
  | nil=>cases e|cons x L=>rfl
  rw[show norm (apT hs) bP (N+1) L=t::norm (apT hs) bP N (L.eraseIdx (pick (apT hs) bP L)) by rw[norm,h1],mC,Ba];rfl
end
variable {bs:List (Str×Int)} {g:Cn} {hs:W3}
section
variable {s0:St} {ps:List (Nat×Nat)} {ss:List St} {i:Nat}
noncomputable def trT(ps:List (Nat×Nat))(ss:List St)(s0:St)(i:Nat):Tk3:=((ps.getD i (0,0)).1,((ss.getD i s0).2.getD (ps.getD i (0,0)).1 0).toNat,(ps.getD i (0,0)).2)
noncomputable def trL(ps:List (Nat×Nat))(ss:List St)(s0:St):List Tk3:=(Ai ps.length).map (trT ps ss s0)
noncomputable def t3D(t:Tk3):D:=tkD t.1 t.2.1 t.2.2
theorem dO:(trL ps ss s0).length=ps.length:=by unfold trL;rw[lM,AG]
theorem aGT(q:Wov bs hs s0 ps ss)(h:i<ps.length):sY ps ss s0 i=t3D (trT ps ss s0 i):=by have B:=q.hd (ps.getD i (0,0)) (mG (dE (0,0) h));have:=((q.ok i).rg _ B).1;unfold sY t3D tkD aG trT;rw[C5 this]
theorem fR(h:i<ps.length):(trL ps ss s0)[i]? = some (trT ps ss s0 i):=by unfold trL;rw[Ay,Ca h];rfl
theorem aGU(o:dW bs.length hs)(q:Wov bs hs s0 ps ss){t:Tk3}(h:t∈trL ps ss s0):kH hs t.1 t.2.1 t.2.2 (wyT hs t):=by obtain⟨i,hi,rfl⟩:=A8.mp h;exact(q.at o (AC.mp hi)).2
theorem aIK:(trL ps ss s0).map bP=ps:=by refine aGP (0,0) (by rw[lM,dO]) λk q=>?_;rw[lM,dO] at q;rw[Ae,Ay,fR q];rfl
end
theorem aGV{α:Type}(g:α->D):∀ts:List α,dX (ts.map λt=>Vl.cl (g t))=false
 | []=>rfl|t::ts=>aGV g ts
theorem aJC{α:Type}(g:α->D):∀ts:List α,bZ (ts.map λt=>Vl.cl (g t))=[]
 | []=>rfl|t::ts=>by unfold bZ;rw[mC,DA];exact aJC g ts
theorem aIL{α:Type}(k:Nat)(caps:List Nat)(g:α->D)(ts:List α):fE k caps [] (ts.map λt=>Vl.cl (g t))=⟨.lst (ts.map g),true,false,[]⟩:=by
 have e:(ts.map λt=>Vl.cl (g t)).map (·.d)=ts.map g:=by rw[As];rfl
 unfold fE;rw[e,aGV,aJC];split <;> rfl
theorem aMB{P:Pg}{W:Caller}{Z:Sg}{k:Nat}{caps:List Nat}{T:T}{it:It}{elt:E}{α:Type}{ts:List α}(f:α->Vl)(g:α->D)(hw:walk P W Z it=.ok (ts.map f,[]))(U:ts.length<=lim)
 (I:∀t∈ts,∃q,bT (Am k .x++caps.map λi=>((freeze Z [])[i]?).getD .x) (f t) T=.ok q/\ev P W q elt=.ok (.cl (g t))):ev P W Z (.comp k caps T it .z elt)=.ok ⟨.lst (ts.map g),true,false,[]⟩:=by
 rw[lD,hw,aA,jY (f:=f) (g:=g) (p:=λ_=>true) λt ht=>by
  obtain⟨q,e1,e2⟩:=I t ht;simp_all]
 have L:ts.filter (λ_=>true)=ts:=FM.mpr λ_ _=>rfl;have B:decide ((ts.map λt=>Vl.cl (g t)).length<=lim)=true:=Ak (by rw[lM];exact U);rw[L,aA];show R.iff (decide ((ts.map λt=>Vl.cl (g t)).length<=lim)) (R.ok (fE k caps [] (ts.map λt=>Vl.cl (g t))))=_;rw[B,nN,aIL]
noncomputable def lst(hs:W3)(L:List Tk3):List Tk3:=norm (apT hs) bP L.length L
theorem lK(n:Nat)(U:bs∈boxSet)(o:dW bs.length hs)(gw:g.wf bs.length true)(gz:g.sz<=31){st:List Int}(I:st∈standsL bs)(hg:g.hold st st=true){ps:List (Nat×Nat)}{ss:List St}(B:Wov bs hs (st,aY hs) ps ss)(hp:ps.length<=100) :
 ∃(T:List Int),cP (n+36) 39 [aU bs g hs,aR st,.lst (ps.map aD)]=.ok (.tup [.lst (((lst hs (trL ps ss (st,aY hs))).map bP).map aD),.lst (T.map D.int)],false,false):=by
 obtain⟨l3,W⟩:=eV U
 let s0:St:=(st,aY hs)
 let a:Sl:=.T (aU bs g hs)
 let b:Sl:=.T (aR st)
 let c:Sl:=.T (.lst (ps.map aD))
 let L:=trL ps ss s0
 have hc:ev pg (cP (n+35)) [a,b,c,.x,.x,.x,.x] (.comp 2 [0] (.t [0,1]) (.zip eV2 (.call 38 (eL3 eV0 eV1 eV2))) .z (.tup (eL2 eV0 (.call 40 (eL2 eV2 eV1)))))=.ok ⟨.lst (L.map (lfD hs)),true,false,[]⟩:=by rw[show L.map (lfD hs)=(Ai ps.length).map (λi=>lfD hs (trT ps ss s0 i)) from As];refine aMB (ts:=Ai ps.length) (λi=>Vl.cl (.tup [aD (ps.getD i (0,0)),sY ps ss s0 i])) (λi=>lfD hs (trT ps ss s0 i)) ?_ (by rw[AG];unfold lim;omega) λi hi=>?_;rw[jT,aK 2 (ds:=ps.map aD) rfl,aA,fV (gU (i:=0) (bs:=bs) (g:=g) (hs:=hs) rfl) (aP 1 rfl (aS st)) (aK 2 (ds:=ps.map aD) rfl) (aBw n U o gw gz I hg B hp),aA];show R.ok (items _ (fZ (ps.map aD) ((Ai ps.length).map (sY ps ss s0))),[])=_;rw[oW aD (sY ps ss s0) (0,0) 0 ps (Ai ps.length) (by simp),cU (g:=λi=>D.tup [aD (ps.getD i (0,0)),sY ps ss s0 ((Ai ps.length).getD i 0)]) (λi=>rfl)];simp_all;have q:=AC.mp hi;obtain⟨h1,wa⟩:=B.at o q;refine⟨[.F (aD (ps.getD i (0,0))),.F (sY ps ss s0 i),a],kA _ rfl rfl,?_⟩;rw[aGT B q];exact iC (aB 0 rfl) (fH (gU (i:=2) rfl) (aB 1 rfl) (aEa (n+1) W o wa))
 obtain⟨T,t6,e⟩:=aCJ (hs:=hs) (m:=bs.length) (n+31) W a b c L.length L [] [] .x aBP rfl (by rw[dO];unfold aBP;omega) (λt ht=>(aGU o B ht).ok o) (by rw[dO];simp;omega) (by simp);refine⟨T,?_⟩;have k1:ex pg (cP (n+35)) [a,b,c,.x,.x,.x,.x] (hdS f39.body)=.next [a,b,c,.O (L.map (lfD hs)),.x,.x,.x]:=bO hc;exact aI (F:=f39) rfl rfl (v:=⟨.tup [.lst (((lst hs L).map bP).map aD),.lst (T.map D.int)],false,false,[4,5]⟩) (cs k1 (cs (Z':=[a,b,c,.O (L.map (lfD hs)),.O [],.x,.x]) rfl (cs (Z':=lsS hs a b c L [] [] .x) rfl (cs (s:=.whl eV3 lsB) e rfl))))
theorem aMC(n:Nat)(p q:Nat×Nat):eqF (n+2) (aD p) (aD q)=some (decide (p=q)):=by
 obtain⟨a,b⟩:=p;obtain⟨c,d⟩:=q;show some (decide ((a:Int)=(c:Int))&&(decide ((b:Int)=(d:Int))&&true))=_
 congr 1
 rw[Dh,Bv];simp;omega
theorem xU(n:Nat):∀F B:List (Nat×Nat),F.length=B.length->fY (n+2) (F.map aD) (B.map aD)=some (decide (F=B))
 | [],[],_=>rfl|[],_::_,h=>by cases h|_::_,[],h=>by cases h|p::F,q::B,h=>by rw[mC,mC,fY,aMC,xU n F B (by simpa using h)];simp_all
theorem aJD(F q:List (Nat×Nat)):eqD (.lst (F.map aD)) (.lst (q.map aD))=some (decide (F=q)):=by
 show(if (F.map aD).length=(q.map aD).length then eqL (eqF 119) (F.map aD) (q.map aD) else some false)=_;split;rename_i h;rw[qV];exact xU 117 F q (by simpa using h)
 . rename_i h
   congr 1
   grind
theorem pB(n:Nat)(hb:bs∈boxSet)(o:dW bs.length hs)(gw:g.wf bs.length true)(gz:g.sz<=31){st:List Int}(B:st∈standsL bs)(hg:g.hold st st=true){ps q:List (Nat×Nat)}{ss us:List St}(W0:Wov bs hs (st,aY hs) ps ss)(hp:ps.length<=100)(V:Wov bs hs (st,aY hs) q us)(hq:q.length<=100) :
 cP (n+37) 57 [aU bs g hs,aR st,.lst (ps.map aD),.lst (q.map aD)]=.ok (.bl (decide ((lst hs (trL ps ss (st,aY hs))).map bP=(lst hs (trL q us (st,aY hs))).map bP)),false,false):=by
 obtain⟨T,L⟩:=lK n hb o gw gz B hg W0 hp;obtain⟨T',U⟩:=lK n hb o gw gz B hg V hq;have W:=aJD ((lst hs (trL ps ss (st,aY hs))).map bP) ((lst hs (trL q us (st,aY hs))).map bP);revert L U W;generalize (lst hs (trL ps ss (st,aY hs))).map bP=F;generalize (lst hs (trL q us (st,aY hs))).map bP=F';intro L U W
 let I:Sl->Sl->Sg:=λs4 s5=>[.T (aU bs g hs),.T (aR st),.T (.lst (ps.map aD)),.T (.lst (q.map aD)),s4,s5]
 have k1:ex pg (cP (n+36)) (I .x .x) (hdS f57.body)=.next (I (.F (.tup [.lst (F.map aD),.lst (T.map D.int)])) .x):=aV (bK (gU (i:=0) rfl) (aP 1 rfl (aS st)) (aK 2 rfl) L);have k2:ex pg (cP (n+36)) (I (.F (.tup [.lst (F.map aD),.lst (T.map D.int)])) .x) (hdS (drp 1 f57.body))=.next (I (.F (.tup [.lst (F.map aD),.lst (T.map D.int)])) (.F (.tup [.lst (F'.map aD),.lst (T'.map D.int)]))):=aV (bK (gU (i:=0) rfl) (aP 1 rfl (aS st)) (aK 3 rfl) U);refine aI (F:=f57) rfl rfl (v:=.cl (.bl (decide (F=F')))) (cs k1 (cs k2 (bB (mD (x:=⟨.lst (F.map aD),false,false,[]⟩) (y:=⟨.lst (F'.map aD),false,false,[]⟩) ?_ ?_ W))));refine aZ (x:=.cl (.tup [.lst (F.map aD),.lst (T.map D.int)])) (aB 4 rfl) (aE _) ?_;show R.ok (Vl.sub _ (.lst (F.map aD)))=_;unfold Vl.sub;split <;> rfl;refine aZ (x:=.cl (.tup [.lst (F'.map aD),.lst (T'.map D.int)])) (aB 5 rfl) (aE _) ?_;show R.ok (Vl.sub _ (.lst (F'.map aD)))=_;unfold Vl.sub;split <;> rfl
section
variable {P:Pg} {W:Caller} {Z:Sg}
theorem aMD{v:Vl}{ds:List D}(q:v.d=.lst ds)(n:noLs ds=true)(lo hi:Option Int):eC v lo hi=.ok ⟨.lst (cut ds lo hi),true,false,[]⟩:=by unfold eC;rw[q];show R.ok (Vl.mk (.lst (cut ds lo hi)) true (v.pa&&!noLs ds) (if noLs ds=true then [] else v.al))=_;rw[n,if_pos rfl,CJ,HA]
theorem aME{a b:E}{v:Vl}{ds:List D}{k:Nat}(h:ev P W Z a=.ok v)(I:v.d=.lst ds)(n:noLs ds=true)(q:ev P W Z b=.ok (.cl (.i (k:Int))))(B:k<=1000000):ev P W Z (.sli a .z (.k b .z))=.ok ⟨.lst (ds.take k),true,false,[]⟩:=by rw[pZ,h,aA,q,aA];show R.iff (aO (k:Int)) (eC v none (some (k:Int)))=_;rw[iW B,aMD I n,xK];rfl
theorem aGW{a b:E}{v:Vl}{ds:List D}{k:Nat}(h:ev P W Z a=.ok v)(L:v.d=.lst ds)(n:noLs ds=true)(B:ev P W Z b=.ok (.cl (.i (k:Int))))(I:k<=1000000):ev P W Z (.sli a (.k b .z) .z)=.ok ⟨.lst (ds.drop k),true,false,[]⟩:=by
 have q:evs P W Z (.k b .z)=.ok [.cl (.i (k:Int))]:=by rw[aM,B];rfl
 show(ev P W Z a >>= λx=>evs P W Z (.k b .z) >>= λl=>evs P W Z .z >>= λh=>_)=_;rw[h,aA,q,aA,cN,aA];show R.iff (aO (k:Int)) (eC v (some (k:Int)) none)=_;rw[iW I,aMD L n,aBv];rfl
end
abbrev aT(ps:List (Nat×Nat)):D:=.lst (ps.map aD)
abbrev lW(L:List Tk3):D:=.lst (L.map t3D)
theorem oE(ps:List (Nat×Nat)):noLs (ps.map aD)=true:=bQ (λ_=>rfl) ps
theorem aAt(L:List Tk3):noLs (L.map t3D)=true:=bQ (λ_=>rfl) L
variable {bs:List (Str×Int)} {g:Cn} {hs:W3}
theorem kI(n:Nat)(hb:bs∈boxSet)(o:dW bs.length hs)(gw:g.wf bs.length true)(gz:g.sz<=31){st:List Int}(q1:st∈standsL bs)(hg:g.hold st st=true){ps:List (Nat×Nat)}{ss:List St}(W0:Wov bs hs (st,aY hs) ps ss)(hp:ps.length<=100) :
 cP (n+36) 58 [aU bs g hs,aR st,aT ps]=.ok (lW (trL ps ss (st,aY hs)),true,false):=by
 let s0:St:=(st,aY hs)
 let L:=trL ps ss s0
 let q:Sl->Sl->Sl->Sl->Sl->Sg:=λs3 s4 s5 B U=>[.T (aU bs g hs),.T (aR st),.T (aT ps),s3,s4,s5,B,U]
 let A:Sl:=.O (ss.map bI)
 have v2:∀s3 s4 s5 B U,ev pg (cP (n+35)) (q s3 s4 s5 B U) eV2=.ok ⟨aT ps,false,true,[]⟩:=λ_ _ _ _ _=>aK 2 rfl;have k1:ex pg (cP (n+35)) (q .x .x .x .x .x) (hdS f58.body)=.next (q A .x .x .x .x):=bO (fV (gU rfl) (aP 1 rfl (aS st)) (aK 2 rfl) (vC (n+1) hb o gw gz q1 hg W0 hp));have ln:ev pg (cP (n+35)) (q A (.O []) .x .x .x) (.bi .len (eL1 eV2))=.ok (.cl (.i ps.length)):=by have:=dL (v2 A (.O []) .x .x .x) rfl;rw[lM] at this;exact this
 obtain⟨Z',ef,s5,B,U,rfl⟩:=cT (P:=pg) (W:=cP (n+35)) (t:=.n 5) (b:=match hdS (drp 2 f58.body) with|.for _ _ b=>b|_=>.z) (λi Z=>∃s5 B U,Z=q A (.O ((L.take i).map t3D)) s5 B U) (bM ln rfl (by omega)) ⟨_,_,_,rfl⟩ λi hi Z ⟨s5,B,U,q2⟩=>by
  have hi:i<ps.length:=by simpa using hi
  subst q2;have q0:=(W0.at o hi).1
  let p:=ps.getD i (0,0)
  let O:Sl:=.O ((L.take i).map t3D)
  let I:Sl:=.F (aG i)
  have m1:ex pg (cP (n+35)) (q A O I B U) (.set (.t [6,7]) (.idx eV2 eV5))=.next (q A O I (.F (aG p.1)) (.F (aG p.2))):=aMm (iL (f:=aD) (v2 _ _ _ _ _) rfl (aB 5 rfl) (dE (0,0) hi) rfl) (kA _ rfl rfl)
  let μ:=q A O I (.F (aG p.1)) (.F (aG p.2))
  have w3:ev pg (cP (n+35)) μ eV3=.ok ⟨.lst (ss.map bI),false,false,[3]⟩:=aW 3 rfl;have w6:ev pg (cP (n+35)) μ eV6=.ok (.cl (aG p.1)):=aB 6 rfl;have e1:ev pg (cP (n+35)) μ (.idx (.idx (.idx eV3 eV5) eC1) eV6)=.ok (.cl (.i ((ss.getD i s0).2.getD p.1 0))):=aZ (aZ (iL (f:=bI) w3 rfl (aB 5 rfl) (dE s0 (by rw[W0.len];omega)) (iM _)) (aE (.i 1)) (gQ _ _ _ (aS _))) w6 (nQ (by rw[(W0.ok i).pl];exact q0));have e2:ev pg (cP (n+35)) μ (.tup (eL3 eV6 (.idx (.idx (.idx eV3 eV5) eC1) eV6) eV7))=.ok (.cl (t3D (trT ps ss s0 i))):=by have:=aBm w6 e1 (aB (P:=pg) (W:=cP (n+35)) (Z:=μ) 7 rfl);rw[<-aGT W0 hi];exact this
  refine⟨q A O I B U,q A (.O ((L.take (i+1)).map t3D)) I (.F (aG p.1)) (.F (aG p.2)),?_,cs m1 (bG (gC e2 rfl (by rw[lM,A0];unfold lim;omega) rfl ?_)),_,_,_,rfl⟩;rw[A6,AR];exact dA _;rw[eT t3D L (0,0,0) (by show i<(trL ps ss s0).length;rw[dO];exact hi),show L.getD i (0,0,0)=trT ps ss s0 i by show(trL ps ss s0).getD i _=_;rw[Ae,fR hi];rfl];rfl
 have e3:((L.take ((Ai ps.length).map λ(k:Nat)=>Vl.cl (.i (k:Int))).length).map t3D)=L.map t3D:=by rw[lM,AG,BE (by show(trL ps ss s0).length<=_;rw[dO];exact Ao _)]
 rw[e3] at ef;exact aI (F:=f58) rfl rfl (v:=⟨lW L,true,false,[]⟩) (cs k1 (cs (Z':=q A (.O []) .x .x .x) rfl (cs ef rfl)))
noncomputable def tsw(i:Nat)(L:List Tk3):List Tk3:=L.take i++[L.getD (i+1) (0,0,0),L.getD i (0,0,0)]++L.drop (i+2)
theorem aIM{L:List Tk3}{i:Nat}(h:i+1<L.length)(k:Nat):(tsw i L)[k]? = if k=i then L[i+1]? else if k=i+1 then L[i]? else L[k]? := by
 unfold tsw;rw[Ae,Ae,Ac h,Ac (by omega:i<L.length)];have lt:(L.take i).length=i:=by rw[A0];omega
 by_cases a:k<i;rw[Ba,AI (by omega),CD,if_pos a,if_neg (by omega),if_neg (by omega)];rw[Ba,AD (by omega),lt];by_cases b:k=i;subst b;rw[Fb,if_pos rfl];rfl;rw[if_neg b];by_cases c:k=i+1;subst c;rw[show i+1-i=1 by omega,if_pos rfl];rfl
 . rw[if_neg c,AD (by simp;omega),Gn]
   congr 1
   simp;omega
theorem aAu{α:Type}{l r:List α}(h:∀k:Nat,l[k]? = r[k]?):l=r:=Ez h
theorem aGX(o:dW bs.length hs){s0:St}{ps:List (Nat×Nat)}{ss:List St}{i:Nat}{c:St}(q:Wov bs hs s0 ps ss)(h:i+1<ps.length)(W':Wov bs hs s0 (sw i ps) (ss.set (i+1) c))(B:(ps.getD i (0,0)).1≠(ps.getD (i+1) (0,0)).1) :
 trL (sw i ps) (ss.set (i+1) c) s0=tsw i (trL ps ss s0):=by refine aAu λk=>?_;rw[aIM (by rw[dO];exact h)];have hl:=q.len;have L:∀k,i+1≠k->(ss.set (i+1) c).getD k s0=ss.getD k s0:=λk I=>mF I;have W:(ss.set (i+1) c).getD (i+1) s0=c:=aAs (by omega);obtain⟨hp,_⟩:=q.at o (i:=i) (by omega);obtain⟨hq,_⟩:=q.at o (i:=i+1) h;by_cases I:k<ps.length;rw[fR (by rw[mU];exact I)];by_cases U:k=i;subst U;rw[if_pos rfl,fR h];unfold trT;rw[aGO h,L k (by omega)];have e:=((fX (by rw[(q.ok k).pl];exact hp)).mp (q.go k (by omega))).2.2;rw[e,mF B];rw[if_neg U];by_cases h1:k=i+1;subst h1;rw[if_pos rfl,fR (by omega)];unfold trT;rw[aIE h,W];have:=W'.go i (by rw[mU];omega);rw[aGO h,L i (by omega),W] at this;have e:=((fX (by rw[(q.ok i).pl];exact hq)).mp this).2.2;rw[e,mF λz=>B z.symm];rw[if_neg h1,fR I];unfold trT;rw[aMA (λz=>U z.symm) (λz=>h1 z.symm),L k (λz=>h1 z.symm)];have e1:(trL (sw i ps) (ss.set (i+1) c) s0)[k]? = none:=Bb (by rw[dO,mU];omega);have e2:(trL ps ss s0)[k]? = none:=Bb (by rw[dO];omega);rw[e1,if_neg (by omega),if_neg (by omega),e2]
theorem aEg{P:Pg}{W:Caller}{Z:Sg}{e:E}{v:Vl}{xs:List Int}(h:ev P W Z e=.ok v)(B:v.d=.lst (xs.map D.int))(q:v.al=[]):walk P W Z (.seq e)=.ok (xs.map (λx=>Vl.cl (.i x)),[]):=by rw[bL,h,aA,B];show R.ok (items v (xs.map D.int),v.al)=_;rw[q];unfold items;rw[As];refine congrArg R.ok (congrArg (·,[]) (Bf λx _=>?_));exact dD rfl
theorem aRh{a b:Int}:biD .max [.cl (.i a),.cl (.i b)]=.ok (.cl (.i (if b>a then b else a))):=rfl
variable {bs:List (Str×Int)} {g:Cn} {hs:W3}
theorem aPv{P:Pg}{W:Caller}{Z:Sg}{b:Bi}{x y:E}{u v w:Vl}(h1:ev P W Z x=.ok u)(h2:ev P W Z y=.ok v)(h:biD b [u,v]=.ok w):ev P W Z (.bi b (.k x (.k y .z)))=.ok w:=by simp_all
theorem aJE{P:Pg}{W:Caller}{Z:Sg}{a b:E}(h:tst P W Z a=.ok false):tst P W Z (.an a b)=.ok false:=by simp_all
theorem aCK(x y:Int):cZ .Gt (.i x) (.i y)=some (decide (y<x)):=rfl
theorem aBD(n:Nat)(hb:bs∈boxSet)(o:dW bs.length hs)(gw:g.wf bs.length true)(gz:g.sz<=31){st:List Int}(q3:st∈standsL bs)(hg:g.hold st st=true){ps:List (Nat×Nat)}{ss:List St}(W0:Wov bs hs (st,aY hs) ps ss)(hp:ps.length<=100)(x:Int) :
 ∃B us,Wov bs hs (st,aY hs) B us/\B.length=ps.length/\cP (n+37) 59 [aU bs g hs,aR st,aT ps,.i x]=.ok (aT B,true,false):=by
 obtain⟨l3,l4⟩:=eV hb
 let s0:St:=(st,aY hs)
 let U:Sl->Sl->Sl->Sg:=λs4 s5 I=>[.T (aU bs g hs),.T (aR st),.T (aT ps),.T (.i x),s4,s5,I]
 let T:List (Nat×Nat)->List St->Sl:=λB us=>.O ((trL B us s0).map t3D)
 have k1:ex pg (cP (n+36)) (U .x .x .x) (hdS f59.body)=.next (U (T ps ss) .x .x):=bO (fV (gU rfl) (aP 1 rfl (aS st)) (aK 2 rfl) (kI n hb o gw gz q3 hg W0 hp));have hw:walk pg (cP (n+36)) (U (T ps ss) .x .x) (.seq (.call 43 (eL2 eV3 aPb)))=.ok ((jH x 30).map (λx=>Vl.cl (.i x)),[]):=aEg (cW (aP 3 rfl rfl) (aE (.i 30)) (eG (P:=pg) (f:=43) rfl (n+35) x (m:=30) (by decide))) rfl rfl;obtain⟨Z',ef,B,us,W',hl,s5,I,rfl⟩:=cT (P:=pg) (W:=cP (n+36)) (t:=.n 5) (b:=match hdS (drp 1 f59.body) with|.for _ _ b=>b|_=>.z) (λi Z=>∃B us,Wov bs hs s0 B us/\B.length=ps.length/\∃s5 I,Z=U (T B us) s5 I) hw ⟨ps,ss,W0,rfl,_,_,rfl⟩ λi hi Z ⟨B,us,V,hl,s5,I,q4⟩=>by
  subst q4;obtain⟨y,hy⟩:∃y,(jH x 30)[i]? = some y:=⟨_,Ac (by simpa using hi)⟩
  let L:=trL B us s0
  have hL:L.length=B.length:=dO
  let Y:Sl:=.F (.i y)
  have v4:∀I,ev pg (cP (n+36)) (U (T B us) Y I) eV4=.ok ⟨lW L,false,false,[4]⟩:=λ_=>aW 4 rfl;have ln:∀I,ev pg (cP (n+36)) (U (T B us) Y I) (.bi .len (eL1 eV4))=.ok (.cl (.i B.length)):=λI=>by have:=dL (v4 I) rfl;rw[lM,hL] at this;exact this
  have e0:bT (U (T B us) s5 I) (((jH x 30).map (λx=>Vl.cl (.i x)))[i]) (.n 5)=.ok (U (T B us) Y I):=by
   have:((jH x 30).map (λx=>Vl.cl (.i x)))[i]=Vl.cl (.i y):=by rw[A6];grind
   rw[this];exact dA _
  have em:ev pg (cP (n+36)) (U (T B us) Y I) (.bi .max (eL2 eC1 (.op .Sub (.bi .len (eL1 eV4)) eC1)))=.ok (.cl (.i (if (B.length:Int)-1>1 then (B.length:Int)-1 else 1))):=aPv (aE (.i 1)) (eF (o:=.Sub) (ln I) (aE (.i 1)) (sub_int _ 1)) aRh;obtain⟨m,hm,q1⟩:∃m:Nat,(if (B.length:Int)-1>1 then (B.length:Int)-1 else 1)=(m:Int)/\0<m/\(2<=B.length->m+1<=B.length):=by split;exact⟨B.length-1,by omega,by omega,λ_=>by omega⟩;exact⟨1,rfl,by omega,λ_=>by omega⟩
  rw[hm] at em;obtain⟨q,hq,q5⟩:=xG y (n:=m) q1.1;have k6:ex pg (cP (n+36)) (U (T B us) Y I) (.set (.n 6) (.op .Mod eV5 (.bi .max (eL2 eC1 (.op .Sub (.bi .len (eL1 eV4)) eC1)))))=.next (U (T B us) Y (.F (aG q))):=by have:=aV (i:=6) (eJ (aB (P:=pg) (W:=cP (n+36)) (Z:=U (T B us) Y I) 5 (d:=.i y) rfl) em (by omega));rw[hq] at this;exact this
  let μ:=U (T B us) Y (.F (aG q))
  have w6:ev pg (cP (n+36)) μ eV6=.ok (.cl (aG q)):=aB 6 rfl;have t1:tst pg (cP (n+36)) μ (.cmp .Gt (.bi .len (eL1 eV4)) eC1)=.ok (decide ((1:Int)<B.length)):=cA (ln _) (aE (.i 1)) (aCK _ _);by_cases h2:2<=B.length;have q0:q+1<B.length:=by have:=q1.2 h2;omega
  rw[Ak (by omega)] at t1;have x1:ev pg (cP (n+36)) μ (.op .Add eV6 eC1)=.ok (.cl (aG (q+1))):=dP w6 (aE (.i 1));have x2:ev pg (cP (n+36)) μ (.op .Add eV6 eC2)=.ok (.cl (aG (q+2))):=dP w6 (aE (.i 2));have tk:∀{k:Nat} {e:E},k<B.length->ev pg (cP (n+36)) μ e=.ok (.cl (aG k))->ev pg (cP (n+36)) μ (.idx eV4 e)=.ok (.cl (t3D (trT B us s0 k))):=λ{k e} hk he=>iL (f:=t3D) (xs:=L) (v4 _) rfl he (fR hk) rfl;have t2:tst pg (cP (n+36)) μ (.call 54 (eL3 eV0 (.idx eV4 eV6) (.idx eV4 (.op .Add eV6 eC1))))=.ok (apI hs s0 B us q):=hU (gU rfl) (tk (by omega) w6) (tk q0 x1) (vH (n+3) l4 o (V.at o (i:=q) (by omega)).2 (V.at o q0).2);have tt:=aGm t1 t2;cases ha:apI hs s0 B us q with
  | false=>rw[ha] at tt;exact⟨_,μ,e0,cs k6 (bG (bR tt)),B,us,V,hl,_,_,rfl⟩|true=>
   rw[ha] at tt;obtain⟨c,V',_⟩:=V.swap l4 o q0 ha;have q2:(B.getD q (0,0)).1≠(B.getD (q+1) (0,0)).1:=tK (hs:=hs) (trT B us s0 q) (trT B us s0 (q+1)) ha;have es:=aGX o V q0 V' q2;have e1:=aME (v4 (.F (aG q))) rfl (aAt L) w6 (by omega);have e2:=dK (aH (tk q0 x1) (aH (tk (k:=q) (by omega) w6) bD));have e3:=aGW (v4 (.F (aG q))) rfl (aAt L) x2 (by omega);have n1:noLs ((L.map t3D).take q)=true:=by rw[<-Cy];exact aAt _
   have n3:noLs ((L.map t3D).drop (q+2))=true:=by rw[<-CI];exact aAt _
   have e4:=eF (o:=.Add) e1 e2 (sR rfl rfl n1 rfl (by rw[A0,lM];unfold lim;simp;omega));have n4:noLs ((L.map t3D).take q++[t3D (trT B us s0 (q+1)),t3D (trT B us s0 q)])=true:=by rw[<-Cy];exact(show noLs ((L.take q).map t3D++[trT B us s0 (q+1),trT B us s0 q].map t3D)=true by rw[<-Ax];exact aAt _)
   have e5:=eF (o:=.Add) e4 e3 (sR rfl rfl n4 n3 (by rw[lA,A0,Bw,lM];unfold lim;simp;omega));have ed:(L.map t3D).take q++[t3D (trT B us s0 (q+1)),t3D (trT B us s0 q)]++(L.map t3D).drop (q+2)=(trL (sw q B) (us.set (q+1) c) s0).map t3D:=by rw[es];unfold tsw;rw[Ax,Ax,Cy,CI,Ae,Ae,fR q0,fR (by omega)];rfl
   rw[ed] at e5;refine⟨_,U (T (sw q B) (us.set (q+1) c)) Y (.F (aG q)),e0,cs k6 (bG (oT tt (bG (bO e5)))),sw q B,us.set (q+1) c,V',by rw[mU];exact hl,_,_,rfl⟩
  rw[A3 (by omega)] at t1;exact⟨_,μ,e0,cs k6 (bG (bR (aJE t1))),B,us,V,hl,_,_,rfl⟩
 refine⟨B,us,W',hl,?_⟩
 let Z:=U (T B us) s5 I
 have hc:ev pg (cP (n+36)) Z (.comp 3 [] (.t [0,1,2]) (.seq eV4) .z (.tup (eL2 eV0 eV2)))=.ok ⟨aT B,true,false,[]⟩:=by
  have e:aT B=.lst ((trL B us s0).map λt=>aD (bP t)):=by have:=congrArg (JI aD) (aIK (ps:=B) (ss:=us) (s0:=s0));rw[As] at this;exact congrArg D.lst this.symm
  rw[e];refine fG (ts:=trL B us s0) (al:=[4]) (λt=>Vl.cl (t3D t)) (λt=>aD (bP t)) (λ_=>rfl) ?_ (by rw[dO];unfold lim;omega) λt _=>⟨[.F (aG t.1),.F (aG t.2.1),.F (aG t.2.2)],aPd _ rfl rfl rfl,iC (aB 0 rfl) (aB 2 rfl)⟩
  rw[bL,show ev pg (cP (n+36)) Z eV4=.ok ⟨lW (trL B us s0),false,false,[4]⟩ from aW 4 rfl,aA];show R.ok (items _ ((trL B us s0).map t3D),[4])=_;unfold items;rw[As];rfl
 exact aI (F:=f59) rfl rfl (v:=⟨aT B,true,false,[]⟩) (cs k1 (cs ef (bB hc)))
variable {bs:List (Str×Int)} {g:Cn} {hs:W3}
theorem aIN{P:Pg}{W:Caller}{Z:Sg}{i:Nat}{k:E}:ex P W Z (.pop2 i k)=O.from Z (ev P W Z k) λB=>match Z[i]?,B.d with
 | some (.own2 dss),.i k=>(match ixN dss.length k with
  | some q=>(match dss.getD q [] with
   | _::ds=>.next (Z.set i (.own2 (dss.set q ds)))|[]=>.bad)
  | none=>.bad)
 | _,_=>.bad:=id rfl
noncomputable def hdG(bs:List (Str×Int))(hs:W3)(s:St):List (Nat×Nat)->Option (Nat×Nat)
 | []=>none|p::_=>if (goneF bs hs s p).isSome=true then some p else none
noncomputable def cG(rows:List (List (Nat×Nat))):List (List D):=rows.map λr=>r.map aD
theorem pick_rows{f:List D->R Bool}{s:St}:∀{rows:List (List (Nat×Nat))},(∀r∈rows,f (r.map aD)=.ok (hdG bs hs s r).isSome)->eX f (cG rows)=.ok ((rows.filterMap (hdG bs hs s)).map aD)
 | [],_=>rfl|r::rows,h=>by
  have B:=pick_rows (rows:=rows) λr L=>h r (Al _ L);have I:=h r Ar;show(f (r.map aD) >>= λb=>(match b,r.map aD with|false,_=>eX f (cG rows)|true,[]=>.bad|true,d::_=>eX f (cG rows) >>= λes=>R.ok (d::es)))=_;rw[I,aA,C3];cases r with
  | nil=>exact B|cons p r=>by_cases q:(goneF bs hs s p).isSome=true;have e:hdG bs hs s (p::r)=some p:=if_pos q;rw[e];simp_all;have e:hdG bs hs s (p::r)=none:=if_neg q;rw[e];exact B
noncomputable def aIO(hs:W3)(rows:List (List (Nat×Nat))):Prop:=rows.length=3/\∀(k:Nat) (r:List (Nat×Nat)),rows[k]? = some r->∀p∈r,p.1=k/\p.1<hs.length
theorem aMF(x:Option St):cZ .IsNot (aJz x) .non=some x.isSome:=by cases x <;> rfl
theorem aCL(r:List (Nat×Nat)):cZ .NotEq (aT r) (.lst [])=some (!r.isEmpty):=by cases r <;> rfl
abbrev anS(bs:List (Str×Int))(g:Cn)(hs:W3)(st:List Int)(ps:List (Nat×Nat))(x:Int)(s4 s5 s6 s7 s8 s9 s10 s11 s12:Sl):Sg:=[.T (aU bs g hs),.T (aR st),.T (aT ps),.T (.i x),s4,s5,s6,s7,s8,s9,s10,s11,s12]
theorem aEh(n:Nat)(q4:bs.length<=4)(o:dW bs.length hs){st:List Int}(ps:List (Nat×Nat))(x y:Int){fs:List (Nat×Nat)}{us:List St}(V:Wov bs hs (st,aY hs) fs us)(hl:fs.length<=200){rows:List (List (Nat×Nat))}(ro:aIO hs rows)(s4 s7 q1 I:Sl) :
 ∃q0 q9 B w9 z0,Wov bs hs (st,aY hs) q0 q9/\q0.length<=fs.length+1/\aIO hs B/\exs pg (cP (n+36)) (anS bs g hs st ps x s4 (.F (bI (us.getD fs.length (st,aY hs)))) (.own2 (cG rows)) s7 (.O (fs.map aD)) (.F (.i y)) q1 .x I) (match hdS (drp 5 f60.body) with|.for _ _ b=>b|_=>.z)=.next (anS bs g hs st ps x s4 (.F (bI (q9.getD q0.length (st,aY hs)))) (.own2 (cG B)) s7 (.O (q0.map aD)) (.F (.i y)) w9 .x z0):=by
 let s0:St:=(st,aY hs)
 let s:=us.getD fs.length s0
 let L:Sl->Sl->Sl->Sl->Sl->Sg:=λs5 s6 s8 q1 I=>anS bs g hs st ps x s4 s5 s6 s7 s8 (.F (.i y)) q1 .x I
 let Q:Sl:=.F (bI s)
 let F:Sl:=.O (fs.map aD)
 let U:Sl:=.own2 (cG rows)
 have so:SOk bs.length hs s:=V.ok fs.length
 let gl:=rows.filterMap (hdG bs hs s)
 have k1:ex pg (cP (n+36)) (L Q U F q1 I) (.set (.n 10) (.lst .z))=.next (L Q U F (.O []) I):=rfl;have hf:∀r∈rows,tst pg (cP (n+36)) (vw (L Q U F (.O []) I) 10 11 6 (r.map aD)) (.an (.cmp .NotEq nT (.lst .z)) (.cmp .IsNot (.call 35 (eL3 eV0 eV5 (.idx nT eC0))) eCn))=.ok (hdG bs hs s r).isSome:=λr hr=>by
  obtain⟨k,hk,ek⟩:=DN.mp hr;have w3:ev pg (cP (n+36)) (vw (L Q U F (.O []) I) 10 11 6 (r.map aD)) nT=.ok (.cl (aT r)):=aB 11 rfl;have t1:=cA (o:=.NotEq) w3 (dK (P:=pg) (W:=cP (n+36)) (Z:=vw (L Q U F (.O []) I) 10 11 6 (r.map aD)) (ds:=[]) bD) (aCL r);cases r with
  | nil=>exact aJE t1|cons p r=>have hp:=(ro.2 k (p::r) (by rw[Ac hk,ek]) p Ar).2;have t2:=aGm t1 (cA (o:=.IsNot) (bK (gU (i:=0) rfl) (aB 5 rfl) (iL (f:=aD) (xs:=p::r) (k:=0) w3 rfl (aE (.i 0)) rfl rfl) (kG (g:=g) (n+3) q4 o so hp)) (aE .non) (aMF _));rw[t2];show R.ok (!(p::r).isEmpty&&(goneF bs hs s p).isSome)=R.ok (if (goneF bs hs s p).isSome=true then some p else none).isSome;cases(goneF bs hs s p).isSome <;> rfl
 have k2:ex pg (cP (n+36)) (L Q U F (.O []) I) (.pick 10 11 6 (.an (.cmp .NotEq nT (.lst .z)) (.cmp .IsNot (.call 35 (eL3 eV0 eV5 (.idx nT eC0))) eCn)))=.next (L Q U F (.O (gl.map aD)) I):=by
  show O.from (L Q U F (.O []) I) (eX (λds=>tst pg (cP (n+36)) (vw (L Q U F (.O []) I) 10 11 6 ds) _) (cG rows)) (λfs=>if (11:Nat)≠6/\(11:Nat)≠10/\11<(L Q U F (.O []) I).length/\([]:List D).length+fs.length<=lim then .next (((L Q U F (.O []) I).set 11 .x).set 10 (.O ([]++fs))) else .bad)=_;rw[pick_rows hf,cF,if_pos ⟨by decide,by decide,by show 11<13;decide,by
   have:=List.length_filterMap_le (hdG bs hs s) rows;rw[lM,lN,IQ];have r3:=ro.1;unfold lim;omega⟩]
  rfl
 have q3:ev pg (cP (n+36)) (L Q U F (.O (gl.map aD)) I) mR=.ok ⟨aT gl,false,false,[10]⟩:=aW 10 rfl;have t3:=cA (o:=.NotEq) q3 (dK (P:=pg) (W:=cP (n+36)) (Z:=L Q U F (.O (gl.map aD)) I) (ds:=[]) bD) (aCL gl);by_cases hg:gl=[]
 rw[hg] at t3;exact⟨fs,us,rows,.O (gl.map aD),I,V,by omega,ro,cs k1 (cs k2 (bG (bR (by rw[hg];exact t3))))⟩;have w5:0<gl.length:=List.length_pos_iff.mpr hg;have z1:tst pg (cP (n+36)) (L Q U F (.O (gl.map aD)) I) (.cmp .NotEq mR (.lst .z))=.ok true:=by
  rw[t3];cases w6:gl with
  | nil=>exact absurd w6 hg|cons _ _=>rfl
 obtain⟨q,hq,w8⟩:=xG y (n:=gl.length) w5;obtain⟨p,hp⟩:∃p,gl[q]? = some p:=⟨_,Ac w8⟩
 obtain⟨r,hr,er⟩:=Cc.mp (mG hp);obtain⟨k,hk,ek⟩:=DN.mp hr;have gk:rows[k]? = some r:=by rw[Ac hk,ek]
 cases r with
 | nil=>cases er|cons p' r=>
  by_cases q2:(goneF bs hs s p').isSome=true
  . rw[show hdG bs hs s (p'::r)=some p' from if_pos q2] at er;cases er;obtain⟨w7,q7⟩:=ro.2 k _ gk p Ar;obtain⟨s',q8⟩:=Cu.mp q2
    let Pp:Sl:=.F (aD p)
    have ln:ev pg (cP (n+36)) (L Q U F (.O (gl.map aD)) I) (.bi .len (eL1 mR))=.ok (.cl (.i gl.length)):=by have:=dL q3 rfl;rw[lM] at this;exact this
    have ei:ev pg (cP (n+36)) (L Q U F (.O (gl.map aD)) I) (.op .Mod eV9 (.bi .len (eL1 mR)))=.ok (.cl (.i (q:Int))):=by rw[<-hq];exact eJ (aB 9 rfl) ln (by omega)
    have k3:ex pg (cP (n+36)) (L Q U F (.O (gl.map aD)) I) (.set (.n 12) (.idx mR (.op .Mod eV9 (.bi .len (eL1 mR)))))=.next (L Q U F (.O (gl.map aD)) Pp):=aV (iL (f:=aD) q3 rfl ei hp rfl)
    let B:=rows.set k r
    have k4:ex pg (cP (n+36)) (L Q U F (.O (gl.map aD)) Pp) (.pop2 6 (.idx zY eC0))=.next (L Q (.own2 (cG B)) F (.O (gl.map aD)) Pp):=by
     have w4:ev pg (cP (n+36)) (L Q U F (.O (gl.map aD)) Pp) (.idx zY eC0)=.ok (.cl (aG p.1)):=aZ (aB 12 rfl) (aE (.i 0)) (fP _ _ rfl);rw[aIN,w4,cF];show(match ixN (cG rows).length (p.1:Int) with
      | some q=>(match (cG rows).getD q [] with
       | _::ds=>O.next ((L Q U F (.O (gl.map aD)) Pp).set 6 (.own2 ((cG rows).set q ds)))|[]=>.bad)
      | none=>.bad)=_
     have z2:k<(cG rows).length:=by unfold cG;rw[lM];exact hk
     rw[w7,show ixN (cG rows).length (k:Int)=some k by unfold ixN;rw[if_pos (by omega),if_pos (by omega)];rfl];show(match (cG rows).getD k [] with|_::ds=>O.next ((L Q U F (.O (gl.map aD)) Pp).set 6 (.own2 ((cG rows).set k ds)))|[]=>.bad)=_;have eg:(cG rows).getD k []=aD p::r.map aD:=by unfold cG;rw[Ae,Ay,gk];rfl
     rw[eg];show O.next ((L Q U F (.O (gl.map aD)) Pp).set 6 (.own2 ((cG rows).set k (r.map aD))))=_;rw[show(cG rows).set k (r.map aD)=cG B from GA.symm];rfl
    have k5:ex pg (cP (n+36)) (L Q (.own2 (cG B)) F (.O (gl.map aD)) Pp) (.app 8 zY)=.next (L Q (.own2 (cG B)) (.O ((fs++[p]).map aD)) (.O (gl.map aD)) Pp):=
     gC (i:=8) (aB 12 rfl) rfl (by rw[lM];unfold lim;omega) rfl (by rw[Ax];rfl)
    have V':=V.snoc o q7 (s':=s') q8;have es:(us++[s']).getD (fs++[p]).length s0=s':=by have:=iO us s' s0;rw[V.len] at this;rw[lA];exact this
    have k6:ex pg (cP (n+36)) (L Q (.own2 (cG B)) (.O ((fs++[p]).map aD)) (.O (gl.map aD)) Pp) (.set (.n 5) (.call 35 (eL3 eV0 eV5 zY)))=.next (L (.F (bI s')) (.own2 (cG B)) (.O ((fs++[p]).map aD)) (.O (gl.map aD)) Pp):=by have:=aV (i:=5) (bK (gU (P:=pg) (W:=cP (n+36)) (Z:=L Q (.own2 (cG B)) (.O ((fs++[p]).map aD)) (.O (gl.map aD)) Pp) (i:=0) rfl) (aB 5 rfl) (aB 12 rfl) (kG (g:=g) (n+3) q4 o so q7));rw[q8] at this;exact this
    refine⟨fs++[p],us++[s'],B,.O (gl.map aD),Pp,V',by rw[lA];exact Ao _,⟨by rw[Av];exact ro.1,λj r' hj p2 q6=>?_⟩,?_⟩;by_cases q5:k=j;subst q5;rw[Az hk] at hj;cases hj;exact ro.2 k _ gk p2 (Al _ q6);rw[Af q5] at hj;exact ro.2 j r' hj p2 q6;rw[es];exact cs k1 (cs k2 (bG (oT z1 (cs k3 (cs k4 (cs k5 (bG k6)))))))
  rw[show hdG bs hs s (p'::r)=none from if_neg q2] at er;cases er
variable {bs:List (Str×Int)} {g:Cn} {hs:W3}
theorem aIP{P:Pg}{W:Caller}{Z:Sg}{i:Nat}:ex P W Z (.new2 i)=if aHD Z then .next (Z.set i (.own2 [])) else .bad:=id rfl
theorem aMG{P:Pg}{W:Caller}{Z:Sg}{i:Nat}{e:E}{ds:List D}{dss:List (List D)}(h:ev P W Z e=.ok ⟨.lst ds,true,false,[]⟩)(hi:Z[i]? = some (.own2 dss))(I:noLs ds=true)(B:dss.length<1000):ex P W Z (.app2 i e)=.next (Z.set i (.own2 (dss++[ds]))):=by
 have q:ex P W Z (.app2 i e)=O.from Z (ev P W Z e) λv=>match Z[i]?,v.fr,v.d with|some (.own2 dss),true,.lst ds=>if noLs ds=true/\dss.length<1000 then .next (Z.set i (.own2 (dss++[ds]))) else .bad|_,_,_=>.bad:=id rfl
 rw[q,h,cF,hi];show(if noLs ds=true/\dss.length<1000 then O.next (Z.set i (.own2 (dss++[ds]))) else .bad)=_;rw[if_pos ⟨I,B⟩]
noncomputable def own(ps:List (Nat×Nat))(h:Nat):List (Nat×Nat):=ps.filter λp=>p.1==h
theorem aMH(n:Nat){Z:Sg}{ps:List (Nat×Nat)}{h:Nat}(B:ps.length<=100)(h2:Z[2]? = some (.T (aT ps)))(q:(freeze Z [])[7]? = some (.F (aG h))):ev pg (cP n) Z (.comp 1 [7] (.n 0) (.seq eV2) (eL1 (.cmp .Eq (.idx eV0 eC0) eV1)) eV0)=.ok ⟨aT (own ps h),true,false,[]⟩:=by
 refine aBh (ts:=ps) (al:=[]) (λp=>Vl.cl (aD p)) aD (λp=>p.1==h) (λ_=>rfl) ?_ (by unfold lim;omega) λp _=>⟨[.F (aD p),.F (aG h)],?_,?_,?_⟩
 rw[bL,aK 2 (ds:=ps.map aD) h2,aA];show R.ok (items _ (ps.map aD),[])=_;unfold items;rw[As];rfl;show bT (.x::[((freeze Z [])[7]?).getD .x]) (Vl.cl (aD p)) (.n 0)=_;rw[q];exact dA _
 . refine cA (o:=.Eq) (x:=.cl (aG p.1)) (y:=.cl (aG h)) (aZ (aB 0 rfl) (aE (.i 0)) (fP _ _ rfl)) (aB 1 rfl) ?_;show some (decide ((p.1:Int)=(h:Int)))=some (p.1==h)
   congr 1
   rw[Bv];simp;omega
 exact aB 0 rfl
theorem aGY(n:Nat)(hb:bs∈boxSet)(o:dW bs.length hs){st:List Int}(q7:st∈standsL bs){ps:List (Nat×Nat)}(hp:ps.length<=100)(hd:∀p∈ps,p.1<hs.length)(x:Int) :
 ∃qs us,Wov bs hs (st,aY hs) qs us/\qs.length<=ps.length+1/\cP (n+37) 60 [aU bs g hs,aR st,aT ps,.i x]=.ok (aT qs,true,false):=by
 obtain⟨l3,l4⟩:=eV hb;obtain⟨h2,h3⟩:=iD o
 let s0:St:=(st,aY hs)
 let B:=anS bs g hs st ps x
 let xs:=jH x (ps.length+1)
 have ln:ev pg (cP (n+36)) (B .x .x .x .x .x .x .x .x .x) (.op .Add (.bi .len (eL1 eV2)) eC1)=.ok (.cl (.i ((ps.length+1:Nat):Int))):=by have:=dP (dL (aK (P:=pg) (W:=cP (n+36)) (Z:=B .x .x .x .x .x .x .x .x .x) 2 rfl) rfl) (aE (.i 1));rw[lM] at this;exact this
 have k1:ex pg (cP (n+36)) (B .x .x .x .x .x .x .x .x .x) (hdS f60.body)=.next (B (.O (xs.map D.int)) .x .x .x .x .x .x .x .x):=bO (cW (aP 3 rfl rfl) ln (eG (P:=pg) (f:=43) rfl (n+35) x (m:=ps.length+1) (by omega)))
 let A:Sl:=.O (xs.map D.int)
 let Q:Sl:=.F (bI s0)
 have k2:ex pg (cP (n+36)) (B A .x .x .x .x .x .x .x .x) (hdS (drp 1 f60.body))=.next (B A Q .x .x .x .x .x .x .x):=aV (iC (aP 1 rfl (aS st)) (sX h3 rfl));have k3:ex pg (cP (n+36)) (B A Q .x .x .x .x .x .x .x) (.new2 6)=.next (B A Q (.own2 []) .x .x .x .x .x .x):=by rw[aIP];rfl
 let rows:List (List (Nat×Nat)):=(Ai 3).map (own ps)
 obtain⟨Z4,q2,s7,rfl⟩:=cT (P:=pg) (W:=cP (n+36)) (t:=.n 7) (b:=match hdS (drp 3 f60.body) with|.for _ _ b=>b|_=>.z) (λi Z=>∃s7,Z=B A Q (.own2 (cG (rows.take i))) s7 .x .x .x .x .x) (bM (P:=pg) (W:=cP (n+36)) (Z:=B A Q (.own2 []) .x .x .x .x .x .x) (aE (.i 3)) rfl (by decide)) ⟨_,rfl⟩ λi hi Z ⟨s7,q0⟩=>by
  have hi:i<3:=by simpa using hi
  subst q0;refine⟨B A Q (.own2 (cG (rows.take i))) (.F (aG i)) .x .x .x .x .x,B A Q (.own2 (cG (rows.take (i+1)))) (.F (aG i)) .x .x .x .x .x,?_,?_,_,rfl⟩;rw[A6,AR];exact dA _;have:=aMG (i:=6) (aMH (n+36) (h:=i) hp (Z:=B A Q (.own2 (cG (rows.take i))) (.F (aG i)) .x .x .x .x .x) rfl rfl) rfl (oE _) (by unfold cG;rw[lM,A0];omega);refine(bG this).trans ?_;rw[show cG (rows.take i)++[(own ps i).map aD]=cG (rows.take (i+1)) by
   unfold cG;rw[eT (λr:List (Nat×Nat)=>r.map aD) rows [] (by simp[rows];exact hi),show rows.getD i []=own ps i by rw[Ae,Ay,Ca hi];rfl]]
  rfl
 rw[show rows.take ((Ai 3).map λ(k:Nat)=>Vl.cl (.i (k:Int))).length=rows from rfl] at q2;have ro:aIO hs rows:=⟨rfl,λk r hk p U=>by
  rw[Ay] at hk;cases e:(Ai 3)[k]? with
  | none=>rw[e] at hk;cases hk|some j=>
   rw[e] at hk;cases hk;have hj:=(Au.mp e)
   obtain⟨w3,q3⟩:=hj;rw[AR] at q3;subst q3;unfold own at U;rw[Cj] at U;exact⟨by simpa using U.2,hd p U.1⟩⟩
 have so:SOk bs.length hs s0:=aCC o (kE q7).1
 let X:Sl:=.F (.lst (xs.map D.int))
 have hw:walk pg (cP (n+36)) (B A Q (.own2 (cG rows)) s7 (.O []) .x .x .x .x) (.seq eV4)=.ok (xs.map (λx=>Vl.cl (.i x)),[4]):=by rw[bL,show ev pg (cP (n+36)) (B A Q (.own2 (cG rows)) s7 (.O []) .x .x .x .x) eV4=.ok ⟨.lst (xs.map D.int),false,false,[4]⟩ from aW 4 rfl,aA];show R.ok (items _ (xs.map D.int),[4])=_;unfold items;rw[As];rfl
 obtain⟨Z6,q5,fs,us,q,V,hl,q4,s9,I,L,rfl⟩:=cT (P:=pg) (W:=cP (n+36)) (t:=.n 9) (b:=match hdS (drp 5 f60.body) with|.for _ _ b=>b|_=>.z) (λi Z=>∃fs us q,Wov bs hs s0 fs us/\fs.length<=i/\aIO hs q/\∃s9 I L,Z=B X (.F (bI (us.getD fs.length s0))) (.own2 (cG q)) s7 (.O (fs.map aD)) s9 I .x L) hw ⟨[],[s0],rows,Wov.nil so,Ao _,ro,.x,.x,.x,rfl⟩ λi hi Z ⟨fs,us,q,V,hl,q4,s9,I,L,q0⟩=>by
  have hi:i<ps.length+1:=by rw[lM] at hi;have:=eB x (ps.length+1);exact this▸hi
  subst q0;obtain⟨y,hy⟩:∃y,(xs.map (λx=>Vl.cl (.i x)))[i]? = some (Vl.cl (.i y)):=⟨xs[i]'(by rw[eB];exact hi),by rw[Ay,Ac (by rw[eB];exact hi)];rfl⟩
  obtain⟨q6,q9,q1,w5,w6,V',w4,q8,e⟩:=aEh (g:=g) n l4 o ps x y V (by omega) q4 X s7 I L;refine⟨B X (.F (bI (us.getD fs.length s0))) (.own2 (cG q)) s7 (.O (fs.map aD)) (.F (.i y)) I .x L,_,?_,e,q6,q9,q1,V',by omega,q8,_,_,_,rfl⟩;rw[(Au.mp hy).2];exact dA _
 refine⟨fs,us,V,by rw[lM,eB] at hl;exact hl,?_⟩;exact aI (F:=f60) rfl rfl (v:=⟨aT fs,true,false,[]⟩) (cs k1 (cs k2 (cs k3 (cs q2 (cs (Z':=B A Q (.own2 (cG rows)) s7 (.O []) .x .x .x .x) rfl (cs q5 rfl))))))
variable {bs:List (Str×Int)} {g:Cn} {hs:W3}
noncomputable def mkT(q:Nat)(k:Nat×Nat):Tk3:=(k.1,q,k.2)
noncomputable def nxT(hs:W3)(t:Tk3):Nat:=(wyT hs t).nx.toNat
section
variable {s0:St} {ps:List (Nat×Nat)} {ss:List St}
theorem aAv(o:dW bs.length hs)(q:Wov bs hs s0 ps ss):∀(m k:Nat),k+m=ps.length->Coh (λp k=>mkT (p k.1) k) (nxT hs) bP (λh=>((ss.getD k s0).2.getD h 0).toNat) ((trL ps ss s0).drop k)
 | 0,k,h=>by rw[List.drop_eq_nil_of_le (by rw[dO];omega)];exact Eo|m+1,k,h=>by
  have I:k<ps.length:=by omega
  have e:(trL ps ss s0).drop k=trT ps ss s0 k::(trL ps ss s0).drop (k+1):=by
   have hl:k<(trL ps ss s0).length:=by rw[dO];exact I
   rw[Bz hl]
   congr 1
   exact(Au.mp (fR I)).2
  rw[e];refine⟨rfl,?_⟩;have ih:=aAv o q m (k+1) (by omega);have L:=(q.at o I).1;have W:=((fX (by rw[(q.ok k).pl];exact L)).mp (q.go k I)).2.2;have U:(λh=>if h=(bP (trT ps ss s0 k)).1 then nxT hs (trT ps ss s0 k) else ((ss.getD k s0).2.getD h 0).toNat)=λh=>((ss.getD (k+1) s0).2.getD h 0).toNat:=by
   funext h
   rw[W];show(if h=(ps.getD k (0,0)).1 then _ else _)=_;by_cases B:h=(ps.getD k (0,0)).1;rw[if_pos B,B,aAs (by rw[(q.ok k).pl];exact L)];rfl;rw[if_neg B,mF λz=>B z.symm]
  rw[U];exact ih
end
theorem aJF(o:dW bs.length hs){st:List Int}{ps:List (Nat×Nat)}{ss:List St}(q:Wov bs hs (st,aY hs) ps ss):Coh (λp k=>mkT (p k.1) k) (nxT hs) bP (λ_=>0) (trL ps ss (st,aY hs)):=by have:=aAv o q ps.length 0 (by omega);rw[q.z] at this;grind
noncomputable def xV(hs:W3)(L M:List Tk3):Bool:=((Ai 3).all λh=>decide (fl hdT h L=fl hdT h M))&&(Ai L.length).all λl=>(Ai l).all λe=>apT hs (L.getD e (0,0,0)) (L.getD l (0,0,0))||!decide (cR hdT M (lab hdT L e).1 (lab hdT L e).2>cR hdT M (lab hdT L l).1 (lab hdT L l).2)
theorem aIQ{L M:List Tk3}(hL:∀t∈L,t.1<3)(hM:∀t∈M,t.1<3):xV hs L M=true↔(∀h,fl hdT h L=fl hdT h M)/\aMj (apT hs) hdT L M:=by
 unfold xV;rw[bA,AT,AT];constructor;rintro ⟨h1,h2⟩;refine⟨λh=>?_,λi j x y I hx U B=>?_⟩;by_cases hh:h<3;grind;have e:∀{N:List Tk3},(∀t∈N,t.1<3)->fl hdT h N=[]:=λ{N} hN=>sM λc z=>by have:hdT c<3:=hN c z;omega
 rw[e hL,e hM];have q:=(Au.mp U).1;have:=AT.mp (h2 j (AC.mpr q)) i (AC.mpr I);rw[Ae,hx,Ae,U] at this;rw[DJ,DJ,B,Iv] at this;simpa using this;rintro ⟨h1,h2⟩;refine⟨λh _=>Ak (h1 h),λj q=>AT.mpr λi hi=>?_⟩;have q:=AC.mp q;have hi:=AC.mp hi;have ex:L[i]? = some (L.getD i (0,0,0)):=by rw[Ae,Ac (by omega)];rfl
 have W:L[j]? = some (L.getD j (0,0,0)):=by rw[Ae,Ac q];rfl
 cases ha:apT hs (L.getD i (0,0,0)) (L.getD j (0,0,0)) with
 | true=>rfl|false=>have:=h2 i j _ _ hi ex W ha;rw[Iv];simpa using this
theorem aEi(o:dW bs.length hs){st:List Int}{ps I:List (Nat×Nat)}{ss us:List St}(B:Wov bs hs (st,aY hs) ps ss)(V:Wov bs hs (st,aY hs) I us) :
 decide ((lst hs (trL ps ss (st,aY hs))).map bP=(lst hs (trL I us (st,aY hs))).map bP)=xV hs (trL ps ss (st,aY hs)) (trL I us (st,aY hs)):=by
 obtain⟨_,h3⟩:=iD o;have q:∀{ps:List (Nat×Nat)} {ss:List St},Wov bs hs (st,aY hs) ps ss->∀t∈trL ps ss (st,aY hs),t.1<3:=λ{ps ss} B t ht=>by obtain⟨i,hi,rfl⟩:=A8.mp ht;have:=(B.at o (AC.mp hi)).1;show(ps.getD i (0,0)).1<3;omega
 have U:=aJF o B;have cM:=aJF o V;have hL:=q B;have hM:=q V;revert U cM hL hM;generalize trL ps ss (st,aY hs)=L;generalize trL I us (st,aY hs)=M;intro U cM hL hM;rw[Bv,decide_eq_true_iff,aIQ hL hM];have nL:Tr (apT hs) (lst hs L) L:=Tr.norm mV L.length rfl;have nM:Tr (apT hs) (lst hs M) M:=Tr.norm mV M.length rfl;constructor;intro e;have W:∀{N:List Tk3},Coh (λp k=>mkT (p k.1) k) (nxT hs) bP (λ_=>0) N->Coh (λp k=>mkT (p k.1) k) (nxT hs) bP (λ_=>0) (lst hs N):=λ{N} c=>(aBk (hd:=hdT) xT).mpr λh=>by have t:Tr (apT hs) (lst hs N) N:=Tr.norm mV N.length rfl;rw[show fl hdT h (lst hs N)=fl hdT h N from t.fil tK h];exact(aBk (hd:=hdT) xT).mp c h
 have e2:=aGf (W U) (W cM) e;rw[e2] at nL;have t:=Tr.both mV _ rfl nL nM;exact⟨λh=>t.fil tK h,t.kept mV tK⟩;rintro ⟨f,k⟩;have t:=aCt mV f k;unfold lst;rw[<-t.len,aCs (hd:=hdT) mV tK xT L.length rfl t]
variable {bs:List (Str×Int)} {g:Cn} {hs:W3}
noncomputable def jI(L:List Tk3):List (Nat×Nat):=(Ai L.length).map (lab hdT L)
theorem aAw(L:List Tk3):(jI L).length=L.length:=by unfold jI;rw[lM,AG]
theorem tL{L:List Tk3}{i:Nat}(h:i<L.length):(jI L)[i]? = some (lab hdT L i):=by unfold jI;rw[Ay,Ca h];rfl
noncomputable def pS(L:List Tk3)(i:Nat):List Int:=(Ai 3).map λh=>((fl hdT h (L.take i)).length:Int)
theorem xW{L:List Tk3}{i h:Nat}(q:h<3):(pS L i)[h]? = some ((fl hdT h (L.take i)).length:Int):=by unfold pS;rw[Ay,Ca q];rfl
theorem aIR{L:List Tk3}{t:Tk3}{h:Nat}:fl hdT h (L++[t])=fl hdT h L++(if t.1=h then [t] else []):=by
 unfold fl;rw[Eu]
 congr 1
 rw[CZ];show(if ((t.1==h)=true) then _ else _)=_;grind
theorem aGZ{L:List Tk3}{i:Nat}{t:Tk3}(I:L[i]? = some t)(U:t.1<3):pS L (i+1)=(pS L i).set t.1 (((fl hdT t.1 (L.take i)).length:Int)+1):=by
 refine aAu λk=>?_;by_cases B:k<3;rw[xW B];have e:L.take (i+1)=L.take i++[t]:=by have:=D7 (l:=L) (i:=i);rw[I] at this;exact this
 rw[e,aIR,lA];by_cases q:t.1=k;subst q;rw[Az (by unfold pS;simp;omega),if_pos rfl];rfl;rw[Af q,xW B,if_neg q];rfl;rw[Bb (by unfold pS;simp;omega),Bb (by rw[Av];unfold pS;simp;omega)]
theorem vJ(n:Nat){L:List Tk3}(hl:L.length<=100)(h3:∀t∈L,t.1<3):cP (n+1) 62 [lW L]=.ok (aT (jI L),true,false):=by
 let q:Sl->Sl->Sl->Sg:=λs1 s2 B=>[.T (lW L),s1,s2,B]
 let C:Nat->Sl:=λi=>.O ((pS L i).map D.int)
 have hw:walk pg (cP n) (q (.O []) (C 0) .x) (.seq eV0)=.ok (L.map (λt=>Vl.cl (t3D t)),[]):=by rw[bL,aK 0 (ds:=L.map t3D) rfl,aA];show R.ok (items _ (L.map t3D),[])=_;unfold items;rw[As];rfl
 obtain⟨Z',ef,B,rfl⟩:=cT (P:=pg) (W:=cP n) (t:=.n 3) (b:=match hdS (drp 2 f62.body) with|.for _ _ b=>b|_=>.z) (λi Z=>∃B,Z=q (.O (((jI L).take i).map aD)) (C i) B) hw ⟨_,rfl⟩ λi hi Z ⟨B,U⟩=>by
  have hi:i<L.length:=by simpa using hi
  subst U;obtain⟨t,I⟩:∃t,L[i]? = some t:=⟨_,Ac hi⟩
  have t3:=h3 t (mG I)
  let T:Sl:=.F (t3D t)
  let O:Sl:=.O (((jI L).take i).map aD)
  have v3:∀s1 s2,ev pg (cP n) (q s1 s2 T) (.idx eV3 eC0)=.ok (.cl (aG t.1)):=λ_ _=>aZ (aB 3 rfl) (aE (.i 0)) (fP _ _ rfl);have v2:∀s1,ev pg (cP n) (q s1 (C i) T) (.idx eV2 (.idx eV3 eC0))=.ok (.cl (.i ((fl hdT t.1 (L.take i)).length:Int))):=λs1=>iL (f:=D.int) (xs:=pS L i) (aW 2 rfl) rfl (v3 _ _) (xW t3) rfl;have el:lab hdT L i=(t.1,(fl hdT t.1 (L.take i)).length):=iZ I;have k1:ex pg (cP n) (q O (C i) T) (.app 1 (.tup (eL2 (.idx eV3 eC0) (.idx eV2 (.idx eV3 eC0)))))=.next (q (.O (((jI L).take (i+1)).map aD)) (C i) T):=
   gC (i:=1) (iC (v3 _ _) (v2 _)) rfl (by rw[lM,A0];unfold lim;omega) rfl (by
    rw[eT aD (jI L) (0,0) (by rw[aAw];exact hi),Ae,tL hi,DJ,el];rfl)
  have k2:ex pg (cP n) (q (.O (((jI L).take (i+1)).map aD)) (C i) T) (.setIx 2 (.idx eV3 eC0) (.op .Add (.idx eV2 (.idx eV3 eC0)) eC1))=.next (q (.O (((jI L).take (i+1)).map aD)) (C (i+1)) T):=by have:=aIs (i:=2) (j:=t.1) (acc:=pS L i) (dP (v2 (.O (((jI L).take (i+1)).map aD))) (aE (.i 1))) (v3 _ _) rfl (by unfold pS;simp;omega) (by unfold pS;simp);rw[<-aGZ I t3] at this;exact this
  refine⟨q O (C i) T,q (.O (((jI L).take (i+1)).map aD)) (C (i+1)) T,?_,cs k1 (bG k2),_,rfl⟩;have e0:(L.map λt=>Vl.cl (t3D t))[i]=Vl.cl (t3D t):=by rw[A6];grind
  rw[e0];exact dA _
 rw[show(jI L).take (L.map λt=>Vl.cl (t3D t)).length=jI L by rw[lM,<-aAw L,Bx]] at ef;exact aI (F:=f62) rfl rfl (v:=⟨aT (jI L),true,false,[]⟩) (cs (Z':=q (.O []) .x .x) rfl (cs (Z':=q (.O []) (C 0) .x) rfl (cs ef rfl)))
theorem lL{f:Sg->Vl->O}{v:Vl}(I:Sg->Prop)(p:Vl->Bool):∀(xs:List Vl),(∀x∈xs,∀Z,I Z->(p x=true->∃Z',f Z x=.next Z'/\I Z')/\(p x=false->f Z x=.ret v))->∀Z,I Z->(xs.all p=true->∃Z',cK f xs Z=.next Z'/\I Z')/\(xs.all p=false->cK f xs Z=.ret v)
 | [],_,Z,h=>⟨λ_=>⟨Z,rfl,h⟩,λz=>by cases z⟩
 | x::xs,hx,Z,h=>by
  obtain⟨h1,h2⟩:=hx x Ar Z h;cases q:p x with
  | false=>refine⟨λz=>?_,λ_=>?_⟩;rw[Dg,q] at z;cases z;show(match f Z x with|.next Z'=>cK f xs Z'|.cnt Z'=>cK f xs Z'|.brk Z'=>.next Z'|o=>o)=_;rw[h2 q]|true=>
   obtain⟨Z',e,h'⟩:=h1 q;have U:=lL I p xs (λy L=>hx y (Al _ L)) Z' h';have B:cK f (x::xs) Z=cK f xs Z':=by show(match f Z x with|.next Z'=>cK f xs Z'|.cnt Z'=>cK f xs Z'|.brk Z'=>.next Z'|o=>o)=_;rw[e]
   rw[B,Dg,q,Bool.true_and];exact U
variable {bs:List (Str×Int)} {g:Cn} {hs:W3}
theorem aPw(n:Nat)(p q:Tk3):eqF (n+2) (t3D p) (t3D q)=some (decide (p=q)):=by
 obtain⟨a,b,c⟩:=p;obtain⟨a',b',B⟩:=q;show some (decide ((a:Int)=(a':Int))&&(decide ((b:Int)=(b':Int))&&(decide ((c:Int)=(B:Int))&&true)))=_
 congr 1
 rw[Dh,Bv];simp;omega
theorem aHa(n:Nat):∀F B:List Tk3,F.length=B.length->fY (n+2) (F.map t3D) (B.map t3D)=some (decide (F=B))
 | [],[],_=>rfl|[],_::_,h=>by cases h|_::_,[],h=>by cases h|p::F,q::B,h=>by rw[mC,mC,fY,aPw,aHa n F B (by simpa using h)];simp_all
theorem aPx(F q:List Tk3):eqD (lW F) (lW q)=some (decide (F=q)):=by
 show(if (F.map t3D).length=(q.map t3D).length then eqL (eqF 119) (F.map t3D) (q.map t3D) else some false)=_;split;rename_i h;rw[qV];exact aHa 117 F q (by simpa using h)
 . rename_i h
   congr 1
   grind
theorem aHb(n:Nat){Z:Sg}{L:List Tk3}{h i:Nat}(B:L.length<=100)(h2:Z[i]? = some (.T (lW L)))(q:(freeze Z [])[3]? = some (.F (aG h))):ev pg (cP n) Z (.comp 1 [3] (.n 0) (.seq (.v i)) (eL1 (.cmp .Eq (.idx eV0 eC0) eV1)) eV0)=.ok ⟨lW (fl hdT h L),true,false,[]⟩:=by
 refine aBh (al:=[]) (λp=>Vl.cl (t3D p)) t3D (λp=>hdT p==h) (λ_=>rfl) ?_ (by unfold lim;omega) λp _=>⟨[.F (t3D p),.F (aG h)],?_,?_,?_⟩
 rw[bL,aK i h2,aA];show R.ok (items _ (L.map t3D),[])=_;unfold items;rw[As];rfl;simp_all
 . refine cA (aZ (aB 0 rfl) (aE (.i 0)) (fP _ _ rfl)) (aB 1 rfl) ?_;show some (decide ((p.1:Int)=(h:Int)))=some (p.1==h)
   congr 1
   rw[Bv];simp;omega
 exact aB 0 rfl
noncomputable def pC(p:Nat×Nat):List Int:=[(p.1:Int),(p.2:Int)]
theorem aAx{P:Pg}{W:Caller}{Z:Sg}{f:Nat}{a:E}{x:Vl}{ds:List D}(h:ev P W Z a=.ok x)(q:W f [x.d]=.ok (.lst ds,true,false)):ev P W Z (.call f (.k a .z))=.ok ⟨.lst ds,true,false,[]⟩:=by simp_all
theorem aAy{p q:Nat×Nat}(h:pC p=pC q):p=q:=by obtain⟨a,b⟩:=p;obtain⟨c,d⟩:=q;unfold pC at h;simp at h;simp;omega
noncomputable def spD(M:List Tk3)(i:Nat):List (List Int×D):=(Ai i).map λ(j:Nat)=>(pC (lab hdT M j),D.int (j:Int))
theorem aCM{M:List Tk3}{i j:Nat}(hi:i<M.length)(q:j<M.length)(h:lab hdT M i=lab hdT M j):i=j:=by have a:=Ac hi;have b:=Ac q;have B:=(lH (hd:=hdT) a).2;have I:=(lH (hd:=hdT) b).2;rw[iZ a,iZ b] at h;grind
theorem aMI{M:List Tk3}{i:Nat}(hi:i<M.length):tS (spD M i) (pC (lab hdT M i),D.int (i:Int))=spD M (i+1):=by unfold tS;rw[if_neg];unfold spD;rw[DW,Ax];rfl;intro z;unfold spD at z;rw[As] at z;obtain⟨j,q,e⟩:=A8.mp z;have q:=AC.mp q;have:=aCM (by omega) hi (aAy e);omega
theorem aCN{M:List Tk3}:∀(i:Nat) {j:Nat},i<=M.length->j<i->mB (spD M i) (pC (lab hdT M j))=some (D.int (j:Int))
 | 0,j,_,h=>absurd h (CH _)|i+1,j,hi,h=>by
  have e:spD M (i+1)=spD M i++[(pC (lab hdT M i),D.int (i:Int))]:=by unfold spD;rw[DW,Ax];rfl
  by_cases W:j<i;have B:=aCN (M:=M) i (by omega) W;unfold mB at B ⊢;rw[e,GB];cases q:(spD M i).find? (λx=>decide (x.1=pC (lab hdT M j))) with
  | none=>rw[q] at B;cases B|some d=>rw[q] at B;exact B
  have I:j=i:=by omega
  subst I;unfold mB;rw[e,GB];have:(spD M j).find? (λx=>decide (x.1=pC (lab hdT M j)))=none:=List.find?_eq_none.mpr λx U=>by unfold spD at U;obtain⟨k,L,rfl⟩:=A8.mp U;have L:=AC.mp L;intro z;have:=aCM (by omega) (by omega) (aAy (of_decide_eq_true z));omega
  rw[this];grind
theorem aMJ{L M:List Tk3}(f:∀h,h<3->fl hdT h L=fl hdT h M){i:Nat}{t:Tk3}(q:L[i]? = some t)(U:t.1<3):lab hdT L i=lab hdT M (cR hdT M (lab hdT L i).1 (lab hdT L i).2)/\cR hdT M (lab hdT L i).1 (lab hdT L i).2<M.length:=by have g:=(lH (hd:=hdT) q).1;rw[f (hdT t) U] at g;obtain⟨B,I,W⟩:=sO g;rw[iZ q];rw[iZ B,I];grind
theorem aPy{P:Pg}{W:Caller}{Z:Sg}{i:Nat}{e a:E}{p:Nat×Nat}{x:Int}{ks:List (List Int×D)}(B:ev P W Z a=.ok (.cl (.i x)))(I:ev P W Z e=.ok (.cl (aD p)))(hi:Z[i]? = some (.dct ks))(L:ks.length<lim):ex P W Z (.dpv i e a)=.next (Z.set i (.dct (tS ks (pC p,.i x)))):=by
 have q:ex P W Z (.dpv i e a)=O.from Z (ev P W Z a) λw=>O.from Z (ev P W Z e) λv=>match Z[i]?,aAK v.d with|some (.dct ks),some k=>if ks.length<lim/\tU w.d=true then .next (Z.set i (.dct (tS ks (k,w.d)))) else .bad|_,_=>.bad:=id rfl
 rw[q,B,cF,I,cF,hi];show(if ks.length<lim/\tU (.i x)=true then O.next (Z.set i (.dct (tS ks (pC p,.i x)))) else .bad)=_;rw[if_pos ⟨L,rfl⟩]
theorem aMK{P:Pg}{W:Caller}{Z:Sg}{i:Nat}{e:E}{p:Nat×Nat}{x:Int}{ks:List (List Int×D)}(B:ev P W Z e=.ok (.cl (aD p)))(hi:Z[i]? = some (.dct ks))(I:mB ks (pC p)=some (.i x)):ev P W Z (.dget i e)=.ok (.cl (.i x)):=by
 have q:ev P W Z (.dget i e)=(ev P W Z e >>= λx=>match Z[i]?,aAK x.d with
  | some (.dct ks),some k=>(match mB ks k with
   | some d=>.iff (tU d) (.ok (.cl d))|none=>.bad)
  | _,_=>.bad):=id rfl
 rw[q,B,aA,hi];show(match mB ks (pC p) with|some d=>R.iff (tU d) (.ok (Vl.cl d))|none=>.bad)=_;rw[I];rfl
theorem aIS(n:Nat)(w4:bs.length<=4)(o:dW bs.length hs){L M:List Tk3}(aL:∀t∈L,kH hs t.1 t.2.1 t.2.2 (wyT hs t))(hl:L.length<=100)(hm:M.length<=100)(h3:∀t∈L,t.1<3)(w3:∀t∈M,t.1<3) :
 cP (n+34) 63 [aU bs g hs,lW L,lW M]=.ok (.bl (xV hs L M),false,false):=by
 let I:Sl->Sl->Sl->Sl->Sl->Sl->Sl->Sg:=λB s4 s5 s6 U s8 s9=>[.T (aU bs g hs),.T (lW L),.T (lW M),B,s4,s5,s6,U,s8,s9]
 let N:Vl:=.cl (.bl false)
 let p1:Vl->Bool:=λx=>match x.d with|.i h=>decide (fl hdT h.toNat L=fl hdT h.toNat M)|_=>false
 have F1:=lL (f:=λZ x=>O.from Z (bT Z x (.n 3)) λZ'=>exs pg (cP (n+33)) Z' (match hdS f63.body with|.for _ _ b=>b|_=>.z)) (λZ=>∃B s4,Z=I B s4 .x .x .x .x .x) p1 ((Ai 3).map λ(k:Nat)=>Vl.cl (.i (k:Int))) (λx hx Z ⟨B,s4,q1⟩=>by
  subst q1;obtain⟨h,hh,rfl⟩:=A8.mp hx
  let H:Sl:=.F (aG h)
  have e0:O.from (I B s4 .x .x .x .x .x) (bT (I B s4 .x .x .x .x .x) (Vl.cl (.i (h:Int))) (.n 3)) (λZ'=>exs pg (cP (n+33)) Z' (match hdS f63.body with|.for _ _ b=>b|_=>.z))=exs pg (cP (n+33)) (I H s4 .x .x .x .x .x) (match hdS f63.body with|.for _ _ b=>b|_=>.z):=by rw[dA];rfl
  rw[e0]
  let A:Sl:=.O ((fl hdT h L).map t3D)
  have t1:tst pg (cP (n+33)) (I H A .x .x .x .x .x) (.cmp .NotEq eV4 (.comp 1 [3] (.n 0) (.seq eV2) (eL1 (.cmp .Eq (.idx eV0 eC0) eV1)) eV0))=.ok (!decide (fl hdT h L=fl hdT h M)):=cA (aW 4 rfl) (aHb (n+33) hm rfl rfl) (by
   rw[aBg,aPx];rfl)
  have ep:p1 (Vl.cl (.i (h:Int)))=decide (fl hdT h L=fl hdT h M):=rfl;rw[ep];refine⟨λz=>?_,λz=>?_⟩;rw[z] at t1;exact⟨_,cs (bO (aHb (n+33) hl rfl rfl)) (bG (bR t1)),_,_,rfl⟩;rw[z] at t1;exact cs (bO (aHb (n+33) hl rfl rfl)) (eQ t1 (bB (aE _)))) (I .x .x .x .x .x .x .x) ⟨_,_,rfl⟩
 have ea:((Ai 3).map λ(k:Nat)=>Vl.cl (.i (k:Int))).all p1=(Ai 3).all λh=>decide (fl hdT h L=fl hdT h M):=by rw[Ec];rfl
 rw[ea] at F1;cases hA:((Ai 3).all λh=>decide (fl hdT h L=fl hdT h M)) with
 | false=>
  have ed:xV hs L M=false:=by unfold xV;rw[hA];rfl
  rw[ed];exact aI (F:=f63) rfl rfl (v:=.cl (.bl false)) (lV ((kB (bM (aE (.i 3)) rfl (by decide))).trans (F1.2 hA)))
 | true=>
  obtain⟨Z1,q9,B,s4,rfl⟩:=F1.1 hA
  let OM:Sl:=.O ((jI M).map aD)
  let OL:Sl:=.O ((jI L).map aD)
  have w5:ev pg (cP (n+33)) (I B s4 (.dct []) OM .x .x .x) (.bi .len (eL1 eV2))=.ok (.cl (.i M.length)):=by have:=dL (aK (P:=pg) (W:=cP (n+33)) (Z:=I B s4 (.dct []) OM .x .x .x) 2 rfl) rfl;rw[lM] at this;exact this
  obtain⟨Z4,q5,U,rfl⟩:=cT (t:=.n 7) (λi Z=>∃U,Z=I B s4 (.dct (spD M i)) OM U .x .x) (bM w5 rfl (by omega)) ⟨_,rfl⟩ λi hi Z ⟨U,q1⟩=>by
   have hi:i<M.length:=by simpa using hi
   subst q1;refine⟨I B s4 (.dct (spD M i)) OM (.F (aG i)) .x .x,I B s4 (.dct (spD M (i+1))) OM (.F (aG i)) .x .x,?_,?_,_,rfl⟩;rw[A6,AR];exact dA _;have:=aPy (i:=5) (aB (P:=pg) (W:=cP (n+33)) (Z:=I B s4 (.dct (spD M i)) OM (.F (aG i)) .x .x) 7 rfl) (iL (aW 6 rfl) rfl (aB 7 rfl) (tL hi) rfl) rfl (by unfold spD;rw[lM,AG];unfold lim;omega);rw[aMI hi] at this;exact bG this
  rw[lM,AG] at q5
  let Sp:Sl:=.dct (spD M M.length)
  let q:Nat->Nat->Bool:=λl e=>apT hs (L.getD e (0,0,0)) (L.getD l (0,0,0))||!decide (cR hdT M (lab hdT L e).1 (lab hdT L e).2>cR hdT M (lab hdT L l).1 (lab hdT L l).2)
  have q6:ev pg (cP (n+33)) (I B s4 Sp OL U .x .x) (.bi .len (eL1 eV1))=.ok (.cl (.i L.length)):=by have:=dL (aK (P:=pg) (W:=cP (n+33)) (Z:=I B s4 Sp OL U .x .x) 1 rfl) rfl;rw[lM] at this;exact this
  have get:∀{i:Nat},i<L.length->L[i]? = some (L.getD i (0,0,0)):=λ{i} hi=>dE (0,0,0) hi;have q0:∀{i:Nat} {e:E} {s8 s9:Sl},i<L.length->ev pg (cP (n+33)) (I B s4 Sp OL U s8 s9) e=.ok (.cl (aG i))->ev pg (cP (n+33)) (I B s4 Sp OL U s8 s9) (.dget 5 (.idx eV6 e))=.ok (.cl (.i (cR hdT M (lab hdT L i).1 (lab hdT L i).2:Int))):=λ{i e s8 s9} hi he=>by obtain⟨g1,g2⟩:=aMJ (λh hh=>of_decide_eq_true (AT.mp hA h (AC.mpr hh))) (get hi) (h3 _ (mG (get hi)));refine aMK (iL (aW 6 rfl) rfl he (tL hi) rfl) (show(I B s4 Sp OL U s8 s9)[5]? = some Sp from rfl) ?_;have:=aCN M.length (Ao _) g2;rw[<-g1] at this;exact this
  let bo:Ss:=match hdS (drp 5 f63.body) with|.for _ _ b=>b|_=>.z
  let bi:Ss:=match hdS bo with|.for _ _ b=>b|_=>.z
  have F3:=lL (f:=λZ x=>O.from Z (bT Z x (.n 8)) λZ'=>exs pg (cP (n+33)) Z' bo) (λZ=>∃s8 s9,Z=I B s4 Sp OL U s8 s9) (λx=>match x.d with|.i l=>(Ai l.toNat).all (q l.toNat)|_=>false) ((Ai L.length).map λ(k:Nat)=>Vl.cl (.i (k:Int))) (λx hx Z ⟨s8,s9,q1⟩=>by
   subst q1;obtain⟨l,q2,rfl⟩:=A8.mp hx;have q2:=AC.mp q2
   let Lt:Sl:=.F (aG l)
   have F4:=lL (f:=λZ x=>O.from Z (bT Z x (.n 9)) λZ'=>exs pg (cP (n+33)) Z' bi) (λZ=>∃s9,Z=I B s4 Sp OL U Lt s9) (λx=>match x.d with|.i e=>q l e.toNat|_=>false) ((Ai l).map λ(k:Nat)=>Vl.cl (.i (k:Int))) (λx hx Z ⟨s9,q1⟩=>by
    subst q1;obtain⟨e,he,rfl⟩:=A8.mp hx;have he:=AC.mp he
    let μ:=I B s4 Sp OL U Lt (.F (aG e))
    have e0:O.from (I B s4 Sp OL U Lt s9) (bT (I B s4 Sp OL U Lt s9) (Vl.cl (.i (e:Int))) (.n 9)) (λZ'=>exs pg (cP (n+33)) Z' bi)=exs pg (cP (n+33)) μ bi:=by rw[dA];rfl
    show((q l e=true->∃Z',O.from (I B s4 Sp OL U Lt s9) (bT (I B s4 Sp OL U Lt s9) (Vl.cl (.i (e:Int))) (.n 9)) (λZ'=>exs pg (cP (n+33)) Z' bi)=.next Z'/\_)/\(q l e=false->O.from (I B s4 Sp OL U Lt s9) (bT (I B s4 Sp OL U Lt s9) (Vl.cl (.i (e:Int))) (.n 9)) (λZ'=>exs pg (cP (n+33)) Z' bi)=_));rw[e0];have tk:∀{k:Nat} {a:E},k<L.length->ev pg (cP (n+33)) μ a=.ok (.cl (aG k))->ev pg (cP (n+33)) μ (.idx eV1 a)=.ok (.cl (t3D (L.getD k (0,0,0)))):=λ{k a} hk ha=>iL (aK 1 rfl) rfl ha (get hk) rfl;have q3:tst pg (cP (n+33)) μ (.call 54 (eL3 eV0 (.idx eV1 eV9) (.idx eV1 eV8)))=.ok (apT hs (L.getD e (0,0,0)) (L.getD l (0,0,0))):=hU (gU rfl) (tk (by omega) (aB 9 rfl)) (tk q2 (aB 8 rfl)) (vH n w4 o (aL _ (mG (get (by omega)))) (aL _ (mG (get q2))));have q4:tst pg (cP (n+33)) μ (.cmp .Gt (.dget 5 (.idx eV6 eV9)) (.dget 5 (.idx eV6 eV8)))=.ok (decide ((cR hdT M (lab hdT L l).1 (lab hdT L l).2:Int)<(cR hdT M (lab hdT L e).1 (lab hdT L e).2:Int))):=cA (q0 (by omega) (aB 9 rfl)) (q0 q2 (aB 8 rfl)) (aCK _ _);cases ha:apT hs (L.getD e (0,0,0)) (L.getD l (0,0,0)) with
    | true=>
     rw[ha] at q3;have hq:q l e=true:=by grind
     rw[hq];exact⟨λ_=>⟨μ,bG (bR (dQ q3)),_,rfl⟩,λz=>by cases z⟩
    | false=>
     rw[ha] at q3;by_cases w6:cR hdT M (lab hdT L e).1 (lab hdT L e).2>cR hdT M (lab hdT L l).1 (lab hdT L l).2;have hq:q l e=false:=by grind
     rw[hq];rw[Ak (by omega)] at q4;exact⟨λz=>(by cases z),λ_=>eQ (dQ q3) (eQ q4 (bB (aE _)))⟩;have hq:q l e=true:=by grind
     rw[hq];rw[A3 (by omega)] at q4;exact⟨λ_=>⟨μ,bG (oT (dQ q3) (bG (bR q4))),_,rfl⟩,λz=>by cases z⟩) (I B s4 Sp OL U Lt s9) ⟨_,rfl⟩
   have e0:O.from (I B s4 Sp OL U s8 s9) (bT (I B s4 Sp OL U s8 s9) (Vl.cl (.i (l:Int))) (.n 8)) (λZ'=>exs pg (cP (n+33)) Z' bo)=exs pg (cP (n+33)) (I B s4 Sp OL U Lt s9) bo:=by rw[dA,cF];exact(λb:Ss=>(rfl:exs pg (cP (n+33)) ((I B s4 Sp OL U s8 s9).set 8 Lt) b=exs pg (cP (n+33)) (I B s4 Sp OL U Lt s9) b)) bo
   rw[e0];have q8:((Ai l).map λ(k:Nat)=>Vl.cl (.i (k:Int))).all (λx=>match x.d with|.i e=>q l e.toNat|_=>false)=(Ai l).all (q l):=by rw[Ec];rfl
   rw[q8] at F4;refine⟨λz=>?_,λz=>lV ((kB (bM (aB 8 rfl) rfl (by omega))).trans (F4.2 z))⟩;obtain⟨Z',e,w7,rfl⟩:=F4.1 z;exact⟨_,bG ((kB (bM (aB 8 rfl) rfl (by omega))).trans e),_,_,rfl⟩) (I B s4 Sp OL U .x .x) ⟨_,_,rfl⟩
  have q7:((Ai L.length).map λ(k:Nat)=>Vl.cl (.i (k:Int))).all (λx=>match x.d with|.i l=>(Ai l.toNat).all (q l.toNat)|_=>false)=(Ai L.length).all λl=>(Ai l).all (q l):=by rw[Ec];rfl
  rw[q7] at F3;have ed:xV hs L M=(Ai L.length).all λl=>(Ai l).all (q l):=by unfold xV;rw[hA];rfl
  rw[ed];have pre:∀{v:Vl},exs pg (cP (n+33)) (I B s4 Sp OL U .x .x) (drp 5 f63.body)=.ret v->exs pg (cP (n+33)) (I .x .x .x .x .x .x .x) f63.body=.ret v:=λe=>cs ((kB (bM (aE (.i 3)) rfl (by decide))).trans q9) (cs rfl (cs (bO (aAx (aK 2 rfl) (vJ (n+32) hm w3))) (cs q5 (cs (bO (aAx (aK 1 rfl) (vJ (n+32) hl h3))) e))));cases hq:(Ai L.length).all λl=>(Ai l).all (q l) with
  | false=>exact aI (F:=f63) rfl rfl (v:=.cl (.bl false)) (pre (lV ((kB (bM q6 rfl (by omega))).trans (F3.2 hq))))|true=>obtain⟨Z3,e3,s8,s9,rfl⟩:=F3.1 hq;exact aI (F:=f63) rfl rfl (v:=.cl (.bl true)) (pre (cs ((kB (bM q6 rfl (by omega))).trans e3) (bB (aE _))))
variable {bs:List (Str×Int)} {g:Cn} {hs:W3}
theorem Wov.take{s0:St}{ps:List (Nat×Nat)}{ss:List St}(q:Wov bs hs s0 ps ss){k:Nat}(L:k<=ps.length):Wov bs hs s0 (ps.take k) (ss.take (k+1)):=by
 have U:=q.len;have B:∀{i:Nat},i<k->(ps.take k).getD i (0,0)=ps.getD i (0,0):=λ{i} hi=>by rw[Ae,Ae,CD,if_pos hi]
 have gs:∀{i:Nat},i<k+1->(ss.take (k+1)).getD i s0=ss.getD i s0:=λ{i} hi=>by rw[Ae,Ae,CD,if_pos hi]
 refine⟨by rw[A0,A0];omega,by rw[gs (by omega)];exact q.z,λi hi=>?_,λp I=>q.hd p (Cq I),λi=>?_⟩;rw[A0] at hi;rw[B (by omega),gs (by omega),gs (by omega)];exact q.go i (by omega);by_cases hi:i<k+1;rw[gs hi];exact q.ok i;rw[Ae,CD,if_neg hi];have:=q.ok 0;rw[q.z] at this;exact this
theorem aIT(lo hi:Option Int):cut ([]:List D) lo hi=[]:=by unfold cut;simp
theorem aML{P:Pg}{W:Caller}{Z:Sg}{a b:E}{v:Vl}{ds:List D}{k:Int}(h:ev P W Z a=.ok v)(I:v.d=.lst ds)(n:noLs ds=true)(q:ev P W Z b=.ok (.cl (.i k)))(B:aO k=true):ev P W Z (.sli a .z (.k b .z))=.ok ⟨.lst (cut ds none (some k)),true,false,[]⟩:=by rw[pZ,h,aA,q,aA];show R.iff (aO k) (eC v none (some k))=_;rw[B,aMD I n];rfl
theorem aIU(x y:Int):cZ .Eq (.i x) (.i y)=some (decide (x=y)):=rfl
theorem aHc{P:Pg}{W:Caller}{Z:Sg}{f:Nat}{a b c e g:E}{x y z w u:Vl}{d:D}(h1:ev P W Z a=.ok x)(h2:ev P W Z b=.ok y)(q:ev P W Z c=.ok z)(B:ev P W Z e=.ok w)(I:ev P W Z g=.ok u)(L:W f [x.d,y.d,z.d,w.d,u.d]=.ok (d,true,false)):ev P W Z (.call f (.k a (.k b (.k c (.k e (.k g .z))))))=.ok ⟨d,true,false,[]⟩:=by simp_all
theorem aEj(n:Nat)(hb:bs∈boxSet)(o:dW bs.length hs)(gw:g.wf bs.length true)(gz:g.sz<=31){ns:List Int}(hn:ns.length<=63){st:List Int}(L:st∈standsL bs)(hg:g.hold st st=true){ps:List (Nat×Nat)}{ss:List St}(W0:Wov bs hs (st,aY hs) ps ss)(hp:ps.length<=90) :
 ∃q us,Wov bs hs (st,aY hs) q us/\q.length<=100/\cP (n+38) 61 [.lst (ns.map D.int),aU bs g hs,aR st,aT ps]=.ok (aT q,true,false):=by
 let xs:=jH ((ns++[0]).getD 0 0) 13
 let I:Sl->Sl->Sg:=λs4 B=>[.T (.lst (ns.map D.int)),.T (aU bs g hs),.T (aR st),.T (aT ps),s4,B]
 let X:Sl:=.O (xs.map D.int)
 have lx:xs.length=13:=eB _ _;have k1:ex pg (cP (n+37)) (I .x .x) (hdS f61.body)=.next (I X .x):=bO (cW (kF (ms:=[0]) (k:=0) hn (by decide) rfl (aH (aE _) bD) (aE _) (by simp)) (aE (.i 13)) (eG (P:=pg) (f:=43) rfl (n+36) _ (m:=13) (by decide)));have ix:∀{k:Nat} {B:Sl},k<13->ev pg (cP (n+37)) (I X B) (.idx eV4 (.c (.i (k:Int))))=.ok (.cl (.i (xs.getD k 0))):=λ{k B} hk=>fK (aW 4 rfl) rfl (aE _) (by rw[lx];exact hk);have tm:∀(r:Int),tst pg (cP (n+37)) (I X .x) (.cmp .Eq (.op .Mod (.idx eV4 aDL) eC4) (.c (.i r)))=.ok (decide (xs.getD 10 0 % 4=r)):=λr=>cA (eJ (ix (k:=10) (by decide)) (aE (.i 4)) (by decide)) (aE (.i r)) (aIU _ _);have v1:∀s4 B,ev pg (cP (n+37)) (I s4 B) eV1=.ok ⟨aU bs g hs,false,true,[]⟩:=λ_ _=>gU rfl;have v2:∀s4 B,ev pg (cP (n+37)) (I s4 B) eV2=.ok (.cl (aR st)):=λ_ _=>aP 2 rfl (aS st);have v3:∀s4 B,ev pg (cP (n+37)) (I s4 B) eV3=.ok ⟨aT ps,false,true,[]⟩:=λ_ _=>aK 3 rfl;have ln:∀B,ev pg (cP (n+37)) (I X B) (.bi .len (eL1 eV3))=.ok (.cl (.i ps.length)):=λB=>by have:=dL (v3 X B) rfl;rw[lM] at this;exact this
 obtain⟨q,us,V,hq,q2⟩:=aBD (g:=g) n hb o gw gz L hg W0 (by omega) (xs.getD 11 0);have q0:∀B,ev pg (cP (n+37)) (I X B) (.call 59 (eL4 eV1 eV2 eV3 (.idx eV4 zX)))=.ok ⟨aT q,true,false,[]⟩:=λB=>jA (v1 _ _) (v2 _ _) (v3 _ _) (ix (k:=11) (by decide)) q2;have U:=tm 0;have t1:=tm 1;have t2:=tm 2;by_cases h0:xs.getD 10 0 % 4=0;rw[Ak h0] at U;exact⟨q,us,V,by omega,aI (F:=f61) rfl rfl (v:=⟨aT q,true,false,[]⟩) (cs k1 (eQ U (bB (q0 _))))⟩;rw[A3 h0] at U;by_cases h1:xs.getD 10 0 % 4=1;rw[Ak h1] at t1;obtain⟨q,us,V,hq,q3⟩:=aGY (g:=g) n hb o L (ps:=ps) (by omega) W0.hd (xs.getD 11 0);exact⟨q,us,V,by omega,aI (F:=f61) rfl rfl (v:=⟨aT q,true,false,[]⟩) (cs k1 (cs (bR U) (eQ t1 (bB (jA (v1 _ _) (v2 _ _) (v3 _ _) (ix (k:=11) (by decide)) q3)))))⟩;rw[A3 h1] at t1;by_cases h2:xs.getD 10 0 % 4=2;rw[Ak h2] at t2;have nI:noLs (ns.map D.int)=true:=bQ (λ_=>rfl) ns;have q4:(ns.drop 2++[xs.getD 12 0]).length<=63:=by rw[lA,Bw];simp;omega
 obtain⟨q,us,V,hq,q1⟩:=vD (g:=g) (n+2) hb o q4 L (a:=3) (m:=ps.length) (by decide) (by omega);have e0:ev pg (cP (n+37)) (I X .x) (.op .Add (.sli eV0 (eL1 eC2) .z) (.lst (eL1 (.idx eV4 aGg))))=.ok ⟨.lst ((ns.drop 2++[xs.getD 12 0]).map D.int),true,false,[]⟩:=by have:=eF (o:=.Add) (aGW (k:=2) (aK (P:=pg) (W:=cP (n+37)) (Z:=I X .x) 0 rfl) rfl nI (aE _) (by decide)) (dK (aH (ix (k:=12) (by decide)) bD)) (sR rfl rfl (by rw[<-CI];exact bQ (λ_=>rfl) _) rfl (by rw[Bw,lM];unfold lim;simp;omega));rw[Ax,CI];exact this
 exact⟨q,us,V,by omega,aI (F:=f61) rfl rfl (v:=⟨aT q,true,false,[]⟩) (cs k1 (cs (bR U) (cs (bR t1) (eQ t2 (bB (aHc e0 (v1 _ _) (v2 _ _) (aE (.i 3)) (ln _) q1))))))⟩
 . rw[A3 h2] at t2
   let Q:Sl:=.O (q.map aD)
   have k5:ex pg (cP (n+37)) (I X .x) (hdS (drp 4 f61.body))=.next (I X Q):=bO (q0 _);obtain⟨r,hr,q5⟩:=xG (xs.getD 12 0) (n:=2) (by decide);have em:ev pg (cP (n+37)) (I X Q) (.op .Sub (.bi .len (eL1 eV3)) (.op .Mod (.idx eV4 aGg) eC2))=.ok (.cl (.i ((ps.length:Int)-(r:Int)))):=by have:=eF (o:=.Sub) (ln Q) (eJ (ix (k:=12) (by decide)) (aE (.i 2)) (by decide)) (sub_int _ _);rw[show(2:Int)=((2:Nat):Int) from rfl,hr] at this;exact this
   have es:=aML (aW (P:=pg) (W:=cP (n+37)) (Z:=I X Q) 5 rfl) rfl (oE q) em (lJ (by omega) (by omega));obtain⟨k,hk,ek⟩:∃k,k<=q.length/\cut (q.map aD) none (some ((ps.length:Int)-(r:Int)))=(q.take k).map aD:=by by_cases hz:q.length=0;cases BB.mp hz;exact⟨0,Ao _,aIT _ _⟩;refine⟨ps.length-r,by omega,?_⟩;rw[show(ps.length:Int)-(r:Int)=((ps.length-r:Nat):Int) by omega,xK,Cy]
   rw[ek] at es;exact⟨q.take k,us.take (k+1),V.take hk,by rw[A0];omega,aI (F:=f61) rfl rfl (v:=⟨aT (q.take k),true,false,[]⟩) (cs k1 (cs (bR U) (cs (bR t1) (cs (bR t2) (cs k5 (bB es))))))⟩
section
variable {P:Pg} {W:Caller} {Z:Sg}
theorem aAz{k:Nat}{caps al:List Nat}{T:T}{it:It}{elt:E}{B I L U:Vl}{q Z2:Sg}(hw:walk P W Z it=.ok ([B,I],al))(h1:bT (Am k .x++caps.map λi=>((freeze Z al)[i]?).getD .x) B T=.ok q)(e1:ev P W q elt=.ok L)(h2:bT (Am k .x++caps.map λi=>((freeze Z al)[i]?).getD .x) I T=.ok Z2)(e2:ev P W Z2 elt=.ok U) :
 ev P W Z (.comp k caps T it .z elt)=.ok (fE k caps al [L,U]):=by
 rw[lD,hw,aA]
 let f:Vl->R (Option Vl):=λx=>bT (Am k .x++caps.map λi=>((freeze Z al)[i]?).getD .x) x T >>= λq=>tsts P W q .z >>= λk=>if k then (ev P W q elt >>= λy=>.ok (some y)) else .ok none
 have f1:f B=.ok (some L):=by show(bT _ B T >>= λq=>tsts P W q .z >>= λk=>if k then (ev P W q elt >>= λy=>.ok (some y)) else .ok none)=_;rw[h1,aA];simp_all
 have f2:f I=.ok (some U):=by show(bT _ I T >>= λq=>tsts P W q .z >>= λk=>if k then (ev P W q elt >>= λy=>.ok (some y)) else .ok none)=_;rw[h2,aA];simp_all
 have e:fD f [B,I]=.ok [L,U]:=by show(f B >>= λy=>(f I >>= λy'=>fD f [] >>= λys=>(match y' with|some y=>R.ok (y::ys)|none=>R.ok ys)) >>= λys=>(match y with|some y=>R.ok (y::ys)|none=>R.ok ys))=_;rw[f1,f2];rfl
 rw[e,aA];show R.iff (decide (2<=lim)) (R.ok (fE k caps al [L,U]))=_;rw[show decide (2<=lim)=true from Ak (by unfold lim;omega),nN]
theorem aHd{f:Nat}{a b c e:E}{x y z w:Vl}{d:D}(h1:ev P W Z a=.ok x)(h2:ev P W Z b=.ok y)(q:ev P W Z c=.ok z)(B:ev P W Z e=.ok w)(I:W f [x.d,y.d,z.d,w.d]=.ok (d,false,false)):ev P W Z (.call f (.k a (.k b (.k c (.k e .z)))))=.ok (.cl d):=jA h1 h2 q B I
theorem xX{a b:E}{x y:Vl}(h1:ev P W Z a=.ok x)(h2:ev P W Z b=.ok y):ev P W Z (.lst (.k a (.k b .z)))=.ok (uG [x,y]):=by simp_all
end
theorem aAA(ds:List D)(h:noLs ds=true):biD .list [.cl (.lst ds)]=.ok ⟨.lst ds,true,false,[]⟩:=by show R.ok (Vl.mk (.lst ds) true (false&&!noLs ds) (if noLs ds=true then [] else []))=_;rw[h];rfl
theorem aIV(ps q:List (Nat×Nat)):eqD (.lst [aT ps,aT q]) (.lst [aT ps,aT q])=some true:=by
 have key:∀(n:Nat) (F:List (Nat×Nat)),eqF (n+3) (aT F) (aT F)=some true:=λn F=>by have:=xU n F F rfl;rw[Ak rfl] at this;show(if (F.map aD).length=(F.map aD).length then eqL (eqF (n+2)) (F.map aD) (F.map aD) else some false)=_;rw[if_pos rfl,qV];exact this
 show(if [aT ps,aT q].length=[aT ps,aT q].length then eqL (eqF 119) [aT ps,aT q] [aT ps,aT q] else some false)=_;rw[if_pos rfl,qV,fY,key 116,fY,key 116];rfl
theorem pure(ns:List Int)(hn:ns.length<=63):∃fr pa,cP 60 64 [.lst (ns.map D.int)]=.ok (.bl true,fr,pa):=by
 refine⟨false,false,aI rfl rfl (v:=.cl (.bl true)) ?_⟩;obtain⟨bs,hb,p,hs,o,q4⟩:=aBu 17 hn;obtain⟨st,q0,hg,q5⟩:=aDV 26 hb hn p;obtain⟨gw,gz⟩:=aAl hb p;obtain⟨l3,l4⟩:=eV hb;obtain⟨_,h3⟩:=iD o;obtain⟨q,hq,w7⟩:=xG ((jH ((ns++[0]).getD 0 0) 14).getD 13 0) (n:=21) (by decide);obtain⟨ps,ss,W0,pl,q6⟩:=vD 24 hb o hn q0 (a:=4) (m:=q) (by decide) (by omega);obtain⟨qs,us,V,q1,q7⟩:=aEj 21 hb o gw gz hn q0 hg W0 (by omega)
 let H:D:=aU bs (dC p) hs
 let s0:St:=(st,aY hs)
 let L:=trL ps ss s0
 let M:=trL qs us s0
 let bd:=xV hs L M
 let N:Sl:=.T (.lst (ns.map D.int))
 let I:Sl->Sl->Sl->Sl->Sl->Sl->Sl->Sl->Sl->Sg:=λs3 s4 s5 s6 s7 s8 s9 U q2=>[N,.F H,.F (aR st),s3,s4,s5,s6,s7,s8,s9,U,q2]
 let A:Sl:=.O (ps.map aD)
 let B:Sl:=.O (qs.map aD)
 let W:Sl:=.F (aT ps)
 let B':Sl:=.F (aT qs)
 have v1:∀s3 s4 s5 s6 s7 s8 s9 U q2,ev pg (cP 59) (I s3 s4 s5 s6 s7 s8 s9 U q2) eV1=.ok (.cl H):=λ_ _ _ _ _ _ _ _ _=>aB 1 rfl;have k3:ex pg (cP 59) (I .x .x .x .x .x .x .x .x .x) (hdS (drp 2 f64.body))=.next (I A .x .x .x .x .x .x .x .x):=by have w3:ev pg (cP 59) (I .x .x .x .x .x .x .x .x .x) (.call 43 (eL2 (.idx (.op .Add eV0 (.lst (eL1 eC0))) eC0) aGh))=.ok ⟨.lst ((jH ((ns++[0]).getD 0 0) 14).map D.int),true,false,[]⟩:=cW (kF hn (by decide) rfl (aH (aE _) bD) (aE _) (by simp)) (aE (.i 14)) (eG rfl 58 _ (by decide));have em:=eJ (fK (k:=13) w3 rfl (aE _) (by rw[eB];decide)) (aE (.i 21)) (by decide);rw[show(21:Int)=((21:Nat):Int) from rfl,hq] at em;exact bO (aAi (aK 0 rfl) (v1 _ _ _ _ _ _ _ _ _) ((λ_ _ _ _ _ _ _ _ _=>aB 2 rfl) _ _ _ _ _ _ _ _ _) (aE (.i 4)) em q6)
 let TT:Sl:=.O [lW L,lW M]
 have k5:ex pg (cP 59) (I A B .x .x .x .x .x .x .x) (hdS (drp 4 f64.body))=.next (I W B' TT .x .x .x .x .x .x):=by
  have hw:walk pg (cP 59) (I A B .x .x .x .x .x .x .x) (.seq (.lst (eL2 eV3 eV4)))=.ok ([⟨aT ps,false,false,[3,4]⟩,⟨aT qs,false,false,[3,4]⟩],[3,4]):=by rw[bL,xX (aW 3 rfl) (aW 4 rfl),aA];rfl
  show ex pg (cP 59) (I A B .x .x .x .x .x .x .x) (.set (.n 5) (.comp 1 [1,2] (.n 0) (.seq (.lst (eL2 eV3 eV4))) .z (.call 58 (eL3 eV1 eV2 eV0))))=_;rw[iB,(aAz hw rfl (fV (aB 1 rfl) (aB 2 rfl) (aB 0 rfl) (kI 23 hb o gw gz q0 hg W0 (by omega))) rfl (fV (aB 1 rfl) (aB 2 rfl) (aB 0 rfl) (kI 23 hb o gw gz q0 hg V q1)))];rfl
 have cd:=aIS (g:=dC p) 25 l4 o (λt ht=>aGU o W0 ht) (by show(trL ps ss s0).length<=100;rw[dO];omega) (by show(trL qs us s0).length<=100;rw[dO];exact q1) (λt ht=>by
  obtain⟨i,hi,rfl⟩:=A8.mp ht;have:=(W0.at o (AC.mp hi)).1;show(ps.getD i (0,0)).1<3;omega) (λt ht=>by
  obtain⟨i,hi,rfl⟩:=A8.mp ht;have:=(V.at o (AC.mp hi)).1;show(qs.getD i (0,0)).1<3;omega)
 let Bd:Sl:=.F (.bl bd)
 let Hd:Sl:=.O [aT ps,aT qs]
 have k7:ex pg (cP 59) (I W B' TT Bd .x .x .x .x .x) (hdS (drp 6 f64.body))=.next (I W B' TT Bd Hd .x .x .x .x):=by show ex pg (cP 59) (I W B' TT Bd .x .x .x .x .x) (.set (.n 7) (.lst (eL2 (.bi .list (eL1 eV3)) (.bi .list (eL1 eV4)))))=_;rw[iB,xX (dT (aB 3 rfl) (aAA _ (oE ps))) (dT (aB 4 rfl) (aAA _ (oE qs)))];rfl
 have a1:=pB 22 hb o gw gz q0 hg W0 (by omega) V q1;have a2:=pB 22 hb o gw gz q0 hg V q1 W0 (by omega);have a3:=pB 22 hb o gw gz q0 hg W0 (by omega) W0 (by omega);have eb:=aEi o W0 V;rw[Ak rfl] at a3;have w4:decide ((lst hs M).map bP=(lst hs L).map bP)=bd:=by rw[<-show decide ((lst hs L).map bP=(lst hs M).map bP)=bd from eb];grind
 rw[eb] at a1;rw[show decide ((lst hs (trL qs us (st,aY hs))).map bP=(lst hs (trL ps ss (st,aY hs))).map bP)=bd from w4] at a2;have v7:∀s8 s9 U q2,ev pg (cP 59) (I W B' TT Bd Hd s8 s9 U q2) eV7=.ok ⟨.lst [aT ps,aT qs],false,false,[7]⟩:=λ_ _ _ _=>aW 7 rfl;have q3:∀(i j:Nat) (x y:D) (s8 s9 U:Sl),(I W B' TT Bd Hd s8 s9 U .x).length=12->eK ⟨.lst [aT ps,aT qs],false,false,[7]⟩ (.cl (aG i))=.ok ⟨x,false,false,[7]⟩->eK ⟨.lst [aT ps,aT qs],false,false,[7]⟩ (.cl (aG j))=.ok ⟨y,false,false,[7]⟩->cP 59 57 [H,aR st,x,y]=.ok (.bl bd,false,false)->exs pg (cP 59) (I W B' TT Bd Hd (.F (aG i)) (.F (aG j)) U .x) (match hdS (drp 7 f64.body) with|.for _ _ b=>b|_=>.z)=.next (I W B' TT Bd Hd (.F (aG i)) (.F (aG j)) (.F (.bl bd)) .x):=λi j x y s8 s9 U _ hx hy hc=>by exact cs (aV (aHd (v1 _ _ _ _ _ _ _ _ _) ((λ_ _ _ _ _ _ _ _ _=>aB 2 rfl) _ _ _ _ _ _ _ _ _) (aZ (v7 _ _ _ _) (aB 8 rfl) hx) (aZ (v7 _ _ _ _) (aB 9 rfl) hy) hc)) (bG (bR (eS (dQ (k:=true) (fI (aB 10 rfl) rfl)) (cA (aB 10 rfl) (aB 6 rfl) (by simp_all)))))
 have k8:∃s8 s9 U,ex pg (cP 59) (I W B' TT Bd Hd .x .x .x .x) (hdS (drp 7 f64.body))=.next (I W B' TT Bd Hd s8 s9 U .x):=by
  refine⟨.F (aG 1),.F (aG 0),.F (.bl bd),?_⟩;have ef:ex pg (cP 59) (I W B' TT Bd Hd .x .x .x .x) (hdS (drp 7 f64.body))=cK (λZ x=>O.from Z (bT Z x (.t [8,9])) λZ'=>exs pg (cP 59) Z' (match hdS (drp 7 f64.body) with|.for _ _ b=>b|_=>.z)) [Vl.cl (aD (0,1)),Vl.cl (aD (1,0))] (I W B' TT Bd Hd .x .x .x .x):=kB rfl;rw[ef];have u1:O.from (I W B' TT Bd Hd .x .x .x .x) (bT (I W B' TT Bd Hd .x .x .x .x) (Vl.cl (aD (0,1))) (.t [8,9])) (λZ'=>exs pg (cP 59) Z' (match hdS (drp 7 f64.body) with|.for _ _ b=>b|_=>.z))=.next (I W B' TT Bd Hd (.F (aG 0)) (.F (aG 1)) (.F (.bl bd)) .x):=by rw[show bT (I W B' TT Bd Hd .x .x .x .x) (Vl.cl (aD (0,1))) (.t [8,9])=.ok (I W B' TT Bd Hd (.F (aG 0)) (.F (aG 1)) .x .x) from kA _ rfl rfl,cF];exact q3 0 1 (aT ps) (aT qs) .x .x .x rfl rfl rfl a1
  have u2:O.from (I W B' TT Bd Hd (.F (aG 0)) (.F (aG 1)) (.F (.bl bd)) .x) (bT (I W B' TT Bd Hd (.F (aG 0)) (.F (aG 1)) (.F (.bl bd)) .x) (Vl.cl (aD (1,0))) (.t [8,9])) (λZ'=>exs pg (cP 59) Z' (match hdS (drp 7 f64.body) with|.for _ _ b=>b|_=>.z))=.next (I W B' TT Bd Hd (.F (aG 1)) (.F (aG 0)) (.F (.bl bd)) .x):=by rw[show bT (I W B' TT Bd Hd (.F (aG 0)) (.F (aG 1)) (.F (.bl bd)) .x) (Vl.cl (aD (1,0))) (.t [8,9])=.ok (I W B' TT Bd Hd (.F (aG 1)) (.F (aG 0)) (.F (.bl bd)) .x) from kA _ rfl rfl,cF];exact q3 1 0 (aT qs) (aT ps) .x .x _ rfl rfl rfl a2
  show(match O.from (I W B' TT Bd Hd .x .x .x .x) (bT (I W B' TT Bd Hd .x .x .x .x) (Vl.cl (aD (0,1))) (.t [8,9])) (λZ'=>exs pg (cP 59) Z' (match hdS (drp 7 f64.body) with|.for _ _ b=>b|_=>.z)) with|.next Z'=>cK _ [Vl.cl (aD (1,0))] Z'|.cnt Z'=>cK _ [Vl.cl (aD (1,0))] Z'|.brk Z'=>.next Z'|o=>o)=_;rw[u1];show(match O.from (I W B' TT Bd Hd (.F (aG 0)) (.F (aG 1)) (.F (.bl bd)) .x) (bT (I W B' TT Bd Hd (.F (aG 0)) (.F (aG 1)) (.F (.bl bd)) .x) (Vl.cl (aD (1,0))) (.t [8,9])) (λZ'=>exs pg (cP 59) Z' (match hdS (drp 7 f64.body) with|.for _ _ b=>b|_=>.z)) with|.next Z'=>cK _ [] Z'|.cnt Z'=>cK _ [] Z'|.brk Z'=>.next Z'|o=>o)=_;rw[u2];rfl
 obtain⟨s8,s9,U,k8⟩:=k8;have k9:ex pg (cP 59) (I W B' TT Bd Hd s8 s9 U .x) (hdS (drp 8 f64.body))=.next (I W B' TT Bd Hd s8 s9 U .x):=by exact bR (eS (cA (v7 _ _ _ _) (xX (aB 3 rfl) (aB 4 rfl)) (aPf (aIV ps qs))) (dQ (aIr (v1 _ _ _ _ _ _ _ _ _) ((λ_ _ _ _ _ _ _ _ _=>aB 2 rfl) _ _ _ _ _ _ _ _ _) (aB 3 rfl) (aZ (v7 _ _ _ _) (aE (.i 0)) rfl) a3)))
 obtain⟨T1,q8⟩:=lK 23 hb o gw gz q0 hg W0 (by omega);obtain⟨T2,q9⟩:=lK 23 hb o gw gz q0 hg V q1
 let F:=(lst hs L).map bP
 let F':=(lst hs M).map bP
 let Fo:Sl:=.O [aT F,aT F']
 have w6:ex pg (cP 59) (I W B' TT Bd Hd s8 s9 U .x) (hdS (drp 9 f64.body))=.next (I W B' TT Bd (.F (.lst [aT ps,aT qs])) s8 s9 U Fo):=by
  have hw:walk pg (cP 59) (I W B' TT Bd Hd s8 s9 U .x) (.seq eV7)=.ok ([⟨aT ps,false,false,[7]⟩,⟨aT qs,false,false,[7]⟩],[7]):=by rw[bL,v7,aA];rfl
  show ex pg (cP 59) (I W B' TT Bd Hd s8 s9 U .x) (.set (.n 11) (.comp 1 [1,2] (.n 0) (.seq eV7) .z (.idx (.call 39 (eL3 eV1 eV2 eV0)) eC0)))=_;rw[iB,(aAz hw rfl (aZ (bK (aB 1 rfl) (aB 2 rfl) (aB 0 rfl) q8) (aE (.i 0)) rfl) rfl (aZ (bK (aB 1 rfl) (aB 2 rfl) (aB 0 rfl) q9) (aE (.i 0)) rfl))];rfl
 have w5:exs pg (cP 59) (I W B' TT Bd (.F (.lst [aT ps,aT qs])) s8 s9 U Fo) (drp 10 f64.body)=.ret (.cl (.bl true)):=by refine bB (mD (x:=.cl (.bl bd)) (mD (aZ (aW 11 rfl) (aE (.i 0)) rfl) (aZ (aW 11 rfl) (aE (.i 1)) rfl) ?_) (aB 6 rfl) (by simp_all));show cZ .Eq (aT F) (aT F')=some bd;rw[aGd,aJD];exact congrArg some eb
 exact cs (aV (cX (aK 0 rfl) q4)) (cs (aV (fH (aK 0 rfl) (aB 1 rfl) q5)) (cs k3 (cs (bO (jA (aK 0 rfl) (v1 _ _ _ _ _ _ _ _ _) ((λ_ _ _ _ _ _ _ _ _=>aB 2 rfl) _ _ _ _ _ _ _ _ _) (aW 3 rfl) q7)) (cs k5 (cs (aV (bK (v1 _ _ _ _ _ _ _ _ _) (aZ (aW 5 rfl) (aE (.i 0)) rfl) (aZ (aW 5 rfl) (aE (.i 1)) rfl) cd)) (cs k7 (cs k8 (cs k9 (cs w6 w5)))))))))
end K68
end
noncomputable section
set_option maxRecDepth 100000
set_option maxHeartbeats 0
namespace K68
open PySem PySem.W L2 Hp Hh
noncomputable def ix:List (Nat×List Str):=(34,["one", "ahead", "behind", "word", "left", "right"]) ::
 (35,["cond", "ahead", "behind", "word", "left", "right"]) ::
 (51,["boxes", "way", "stand", "held", "box", "one", "amount"]) ::
 (18,["rows", "boxes"]) ::
 (19,["row"]) ::
 (20,["thing"]) ::
 (21,["boxes", "count", "name", "top"]) ::
 (22,["boxes", "found", "name", "top", "longer", "begun"]) ::
 (23,["boxes", "thing"]) ::
 (36,["boxes", "cond"]) ::
 (37,["one"]) ::
 (38,["one", "found", "inner"]) ::
 (53,["way", "found", "box", "one"]) ::
 (54,["way"]) ::
 (10,["thing"]) ::
 (11,["thing", "least", "most"]) ::
 (29,["boxes", "thing", "plain"]) ::
 (30,["boxes", "thing", "plain"]) ::
 (31,["boxes", "kind", "thing", "plain", "seen", "form", "due", "inner"]) ::
 (32,["kind", "thing", "plain", "word", "form"]) ::
 (33,["boxes", "due", "thing", "most"]) ::
 (45,["boxes", "thing"]) ::
 (46,["boxes", "thing", "end"]) ::
 (47,["boxes", "thing", "end"]) ::
 (48,["boxes", "thing"]) ::
 (49,["boxes", "thing", "least", "put"]) ::
 (50,["boxes", "thing", "least"]) ::
 (61,["boxes", "begin", "hands", "promises", "notes", "own_boxes", "own_begin", "own_hands", "own_promises", "own_notes"]) ::
 (52,["hand", "place"]) ::
 (62,["boxes", "thing", "plain"]) ::
 (63,["boxes", "thing", "count", "plain"]) ::
 (64,["boxes", "thing"]) ::
 (65,["boxes", "thing", "hands"]) ::
 (66,["hand"]) ::
 (67,["boxes", "hands", "count", "hand"]) ::
 (69,["house", "state", "step", "hand", "stand", "places", "row", "way", "further"]) ::
 (70,["house", "start", "steps", "state", "states", "number", "step"]) ::
 (71,["house", "start"]) ::
 (73,["house", "start", "steps", "states"]) ::
 (77,["house", "start", "steps", "left", "found", "trades", "at"]) ::
 (74,["house", "track", "way"]) ::
 (75,["one", "other"]) ::
 (76,["one", "other"]) ::
 (82,["_law_cell", "_law_many", "_law_found", "_law_number", "_law_k"]) ::
 (83,["_law_x", "_law_hand_here", "_law_shape", "_law_count"]) ::
 (84,["_law_xs", "_law_boxes", "_law_zone_here", "_law_box", "_law_number", "_law_found", "_law_other_here", "_law_some", "_law_more"]) ::
 (85,["_law_xs", "_law_boxes", "_law_zone_here", "_law_puts_here", "_law_k", "_law_box", "_law_top", "_law_other_here", "_law_some"]) ::
 (86,["_law_cell", "_law_boxes", "_law_hand_here", "_law_rows", "_law_shape", "_law_xs", "_law_zone_here", "_law_found", "_law_k", "_law_row", "_law_j", "_law_ys", "_law_place", "_law_guard_here"]) ::
 (87,["_law_script", "_law_xs", "_law_boxes", "_law_hands", "_law_hand_here", "_law_rows", "_law_cell", "_law_begin", "_law_notes"]) ::
 (88,["_law_script", "_law_house_here", "_law_some"]) ::
 (89,["_law_house_here", "_law_state", "_law_found", "_law_hand_here", "_law_way"]) ::
 (90,["_law_script", "_law_house_here", "_law_start_here", "_law_at", "_law_many", "_law_state", "_law_steps_here", "_law_k", "_law_goers_here", "_law_number", "_law_step"]) ::
 (91,["_law_part", "_law_found", "_law_one"]) ::
 (92,["_law_house_here", "_law_track", "_law_way", "_law_seen", "_law_box", "_law_one"]) ::
 (93,["_law_house_here", "_law_one", "_law_other_here", "_law_first", "_law_second", "_law_met"]) ::
 (78,["left", "best", "at"]) ::
 (79,["left", "at"]) ::
 (80,["house", "start", "one", "other", "first", "second"]) ::
 (94,["_law_house_here", "_law_start_here", "_law_steps_here", "_law_states", "_law_found", "_law_k", "_law_hand_here", "_law_way"]) ::
 (95,["_law_house_here", "_law_start_here", "_law_steps_here", "_law_cell", "_law_told", "_law_x", "_law_at"]) ::
 (96,["_law_house_here", "_law_start_here", "_law_steps_here", "_law_cell", "_law_xs", "_law_state", "_law_left", "_law_hand_here", "_law_found", "_law_x", "_law_goers_here", "_law_own", "_law_step"]) ::
 (97,["_law_script", "_law_house_here", "_law_start_here", "_law_steps_here", "_law_xs", "_law_found"]) ::
 (98,["_law_told", "_law_found", "_law_counts", "_law_track"]) ::
 (99,["_law_house_here", "_law_first", "_law_second", "_law_hand_here", "_law_own", "_law_spots", "_law_order_here", "_law_k", "_law_late", "_law_early"]) ::
 (100,["_law_script", "_law_house_here", "_law_start_here", "_law_steps_here", "_law_other_here", "_law_told", "_law_due_here", "_law_handed", "_law_one", "_law_two", "_law_found", "_law_forms"])::[]
noncomputable def sn:Sn:=⟨[("MOST_BOXES",(.int 5)),("MOST_LETTERS",(.int 8)),("MOST_TOP",(.int 7)),("MOST_STANDS",(.int 24)),("LETTERS",(.str "abcdefghijklmnopqrstuvwxyz")),("MOST_PARTS",(.int 40)),("MOST_NUMBER",(.int 99)),("MOST_ROWS",(.int 8)),("MOST_WAYS",(.int 4)),("GUARD",(.int 0)),("PUTS",(.int 1)),("NEXT",(.int 2)),("MOST_HANDS",(.int 3)),("MOST_STATES",(.int 1000)),("BOXES",(.int 0)),("BEGIN",(.int 1)),("HANDS",(.int 2))],[("SUM_FORMS",[("number",["number"]),("box",["box"]),("after",["box"]),("plus",["sum", "sum"]),("minus",["sum", "sum"])]),("COND_FORMS",[("yes",[]),("is",["sum", "sum"]),("less",["sum", "sum"]),("not",["cond"]),("both",["cond", "cond"]),("either",["cond", "cond"])])]⟩
abbrev pw:=DO
theorem chk:oO ⟨[],[],(ix.map (pR pw)).map (·.x),sn.cns,true,sn.tbs.map (·.1)⟩ pg.fns (ix.map (pR pw))=true:=by decide +kernel
abbrev Lq(w:AL)(os:Hn):Prop:=aON pw (uX pw) (wN pw) (λs=>lB pw sn s.heap) 100000 w os=some (true,Jj (uX pw) (wN pw),oQ pw sn w)
theorem lf1(os:Hn)(w:AL):Lq (w.withFollow "special-get-raises" false) os:=by kernel_rfl
theorem lf2(os:Hn)(w:AL):Lq (w.withFollow "special-get-raises" true) os:=by kernel_rfl
theorem lft:JJ pw (uX pw) (wN pw) (λ_=>true) (λs=>lB pw sn s.heap) (λw=>oQ pw sn w) 100000:=aLR (by kernel_rfl) rfl (λ_=>by kernel_rfl) λw os=>byRow2 "special-get-raises" (P:=λw=>Lq w os) (lf1 os) (lf2 os) w
abbrev rr:=BQ
theorem w0:looksOpen rr.row.prog=true:=by kernel_rfl
theorem w1:rr.row.wellSaid=true:=by unfold OpenRow.wellSaid OpenRow.partSaid;rw[w0];kernel_rfl
theorem ws:rr.wellSaid=true:=by unfold OpenLaw.wellSaid;rw[w1];kernel_rfl
end K68
end
noncomputable section
open PySem PySem.W PyProof.Rows Hh
set_option maxRecDepth 100000 in
set_option maxHeartbeats 0 in
theorem PySem.Challenge.cw_handpromise_k68_whole_weavings_alike_holds : PySem.Challenge.rw_handpromise_k68_whole_weavings_alike.Holds := by
 refine holds_law K68.ws λ said => ?_;refine aLW (l := BQ) (k := 59) (f := 64) (x := "_law_script") (sl := ["_law_house_here", "_law_start_here", "_law_steps_here", "_law_other_here", "_law_told", "_law_due_here", "_law_handed", "_law_one", "_law_two", "_law_found", "_law_forms"]) said K68.lft (by kernel_rfl) (by kernel_rfl) rfl rfl (by decide +kernel) ⟨rfl, rfl, rfl, rfl, rfl, by decide +kernel⟩ ?hw rfl rfl (by decide +kernel) (by decide +kernel) K68.chk rfl (by decide +kernel) ⟨rfl, rfl, by decide, by decide⟩ (by kernel_rfl) rfl K68.pure
 w_witness2
end
