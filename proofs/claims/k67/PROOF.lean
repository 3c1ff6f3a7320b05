import PyProof.Rows.All
import Wide.All
import OpenK.AllK
import Wide.FinOn
import Lean
import PyProof.EqAt
import PyProof.EqKinds
import PyProof.TupleCall
import PyProof.TupleKey
import PyProof.DictRoadsH
import PyProof.Rows.TupTab
import PySem.Syntax
import PySem.Builtin.Str.Common
import PyProof.ReprReads
import PyProof.ReprRoads
import PyProof.FitsInt
import PyProof.NeKinds
import PyProof.MinMaxWalk
import KE.KIsAll
import PyProof.Rows.SetFrom
import PyProof.SetRoads
import PyProof.StrLaws
import PyProof.ZipIter
import PyProof.StrWalks
import PyProof.EnumFor
import PyProof.EnumStmt
import PyProof.ListNew
import PyProof.CollectIter
import PyProof.Rows.SortWalk
import PyProof.Rows.Range3
import PyProof.Rows.TupDisplay
import PySem.Challenge.RW_handpromise_k67_least_form
set_option compiler.extract_closed false
set_option compiler.postponeCompile true
set_option genSizeOf false
set_option genInjectivity false
set_option bootstrap.genMatcherCode false
set_option Elab.async false
set_option linter.all false
noncomputable section
open PySem renaming wpAny_bind->Aa,Value->Ac,Shared->Ae,wpAny_pure->Af,Addr->Ah,Expr->As,wpAny->Av,Program->Ay,model->AC,World->AJ,wpAny_setField_rec->AW,wpAny_holding->AY,wpAny_callSpecial?_slot->Ba,wpAny_call_entry->Bb,Around->Bf,wpAny_field->Bk,codeAny_builtin->Bm,wpAny_newObj_type->Bn,starEach->Bq,wpAny_truthy_bool->Bs,wpAny_seqItems->B0,mainGlobals->B2,wpAny_Call_Name_kw->B6,mem_of_lookup->BA,compareOp->BE,tupleKind->BF,plainId_quiet->BL,bootBuiltins->BM,intKind->BN,wpAny_pyIter_list->BO,rawInt->Ca,sizeLine_eq->Cb,NameKind->Cc,foldedSetIterable->Cd,assignEach->Ch,Stmt->Ck,Paired->Cp,wpAny_isInstance->Cs,cLine->Cv,Builtin->Cz,wpAny_passesOwn->C3,Pos->CB,wpAny_mono->CJ,wpAny_pyNext_list_item->CK,wpAny_specialOf->CQ,pyNext->CY,Scope->De,FuncData->Df,wpAny_rule->Di,wpAny_letGo->Dj,IsPair->Dl,codeAny_mono->Dn,wpAny_forIn_list->Dp,wpAny_askSetting->Dq,binaryOp->Dv,wpAny_attempt->Dz,codeAny->D4,sliceBounds->DA,scanBound->DC,eval->DD,wpAny_setState_of->DJ,wpAny_pyNext_list_end->DN,isSubtype_tuple_tuple->DO,DictEntry->DR,richCompare->DY,wpAny_updateSeq_pair->Ea,wpAny_execs_nil->Eb,letOwnedTupleGo->Ec,wpAny_setEntries_of->Em,wpAny_typeOf->Eo,wpAny_richCompare_same_room->Ep,call_meets->Ex,wpAny_tupleItemsOf->Ey,sysModules->E1,wpAny_tryCatch->E4,wpAny_standAt->EF,wpAny_comprehension_free->EH,wpAny_onRaise->EI,noFill_tuple_add->EQ,holding->Fa,wpAny_pyNext_range_end->Fb,wpAny_pyIter_rangeiter->Fc,concat_meets->Fh,IsPart->Fi,wpAny_Call_method_late->Fk,valueAt->Fm,wpAny_updateSeq->Fy,codeAny_of_tree->Fz,importedModules->F0,weight_type_call_type->F2,builtinLookup_eq_fast->F3,GenState->F7,backTo->F8,Result->F9,wpAny_of_eq->FF,codeAny_call_builtin->FH,wpAny_runValue->FJ,IsZip->FK,isSubtype_stop->FL,isSubtype_type->FM,Arguments->FP,getItem->FQ,callerA->FR,behindInMarks->FZ,seq_tuple_add->Ga,builtinsNs->Gg,pyIter->Gh,wpAny_pyIter_range->Gi,reduceHash->Gn,intKind_is->Go,wpAny_pyIter_tuple->Gu,wpAny_assign_Name->G3,wpAny_sequenceKey->G4,seqIndex_neg->G5,slot_list_getitem->G6,list_append->G7,field->GD,ZipApart->GF,wpAny_pyIter_enum->GH,wpAny_pyIter_slot->GK,seqIndex?->GQ,eqIsQuiet->GS,check_set_init_1->GV,wpAny_pyIter_zip->GY,IsEnum->GZ,treeTable->Hb,IsRangeIter->Hg,seqIndex_of->Hj,typeLookup_type->Hs,hashInt->H9,Tok->HA,OsState->HD,wpAny_Name->HE,assign->HF,recursionLimit->HI,bindArgs->HJ,wpAny_call->HK,bindL->HL,bindC->HM,typeIs_int->HQ,fitsIndex_both->HS,Params->HV,call->HW,wpAny_setField->HZ,firstArgMember->Ia,wpAny_newTuple->Ib,entryFor_alias->Ig,setsByText->Ii,wpAny_fieldsOf->Ij,Thread->Ik,Env->Iw,assignInOrder->Ix,intBits_le_64->Iy,evalPart_none->IA,call_list_seq->IC,wpAny_handled->ID,ExceptHandler->IH,fenceModules?->II,swapsWith->IM,lastMarks->IN,cellsFrom->IP,seqItems?->IR,BindsTo->IU,call_meetsIn->IW,relabel->Ja,callType_new->Jb,setAddHashed->Jd,setNext->Je,denote->Jg,interactive->Jl,subscripted->Jo,compEnvC->Jr,wpAny_throw->Ju,entryFor->Jv,slotArgs->Jw,unpackItems->Jx,BoolOp->JB,setAdd->JC,newExc->JD,argsOk->JF,hashStr->JI,standAt->JJ,Keyword->JL,Sem->JT,Model->JU,Const->JW
open PySem.Heap renaming get?_push_of_some->Ab,get?_push_size->Aj,lt_size->An,size_push->Bo,get?_update_ne->BR,get?_update_self->C0,SameBut->C6,get?_update_other->CN,ExtBut->DZ
open List renaming getElem?_eq_getElem->Ad,getD_eq_getElem?_getD->Ag,getElem?_set_ne->Ai,size_toArray->Ak,replicate->Al,getElem?_eq_some_iff->Ao,range->Ar,mem_cons_of_mem->Au,map_map->Aw,map_append->Ax,length_set->Az,mem_singleton->A0,mem_cons_self->A3,mem_append_right->A4,getElem?_map->A7,length_take->A9,mem_cons->AA,getElem?_append_right->AB,getElem_map->AD,getElem?_set_self->AE,mem_map->AH,not_mem_nil->AI,getElem_mem->AK,mem_append_left->AN,append_nil->AO,length_replicate->AQ,length_range->AS,append_assoc->AU,zip_cons_cons->AV,map_congr_left->AX,getElem_range->Bd,getElem?_append_left->Be,length_eraseIdx_of_lt->Bj,mem_append->Bl,length_eq_zero_iff->Br,getElem?_of_mem->Bv,take_of_length_le->Bz,getElem?_eq_none->B4,mem_range->B5,all_eq_true->B7,replicate_succ->BB,length_drop->BI,take_length->BJ,take_succ_eq_append_getElem->BP,drop_eq_getElem_cons->BS,length_singleton->BU,filterMap_cons_none->BZ,flatten_cons->Ce,foldl_cons->Ci,range_succ_eq_map->Cq,pairwise_cons->Cy,nodup_cons->C4,mem_filterMap->CL,getElem?_drop->CO,mem_filter->CP,map_take->CW,getElem?_toArray->CZ,filterMap_append->Db,foldl_append->Dd,map->Dk,mem_of_mem_take->Dm,getElem?_zip_eq_some->Ds,filterMap_cons->Dt,toList_toArray->Du,length_append->D7,zip_nil_left->DF,flatMap_cons->DL,take_append_drop->DP,length_filter_le->DQ,mem_flatMap->DS,isEmpty_nil->DU,map_drop->DW,of_mem_zip->Ed,nil_append->Ee,forIn_cons->Eg,getElem?_range->El,take_succ->E5,forIn_nil->E7,getElem?_take->EA,filterMap->EB,map_inj_left->EE,all_cons->EG,filterMap_cons_some->EK,set_eq_of_length_le->EL,any_eq_true->ES,getElem?_replicate->EW,cons_append->EX,filter_cons_of_pos->EY,filter_cons_of_neg->EZ,filter_eq_nil_iff->Fu,length_pos_of_mem->Fv,length_map->Fw,length_nil->Fx,eq_nil_or_concat->F5,concat_eq_append->F6,drop_zero->FG,foldl_nil->FN,drop_drop->FO,flatMap_append->FX,filter_eq_self->FY,zip_nil_right->Gj,map_replicate->G0,ext_getElem?->GL,zipIdx_cons->GW,drop_length->Ha,flatten_nil->He,length->Hi,lookup->Hl,find?_cons->Ho,zipIdx_nil->Hq,range_succ->Hv,map_const'->Hy,take_left'->H0,foldl->HR,take_zero->Ip,map_cons->I9,any_cons->IK,set_comm->IL,map_nil->IV,all_map->IY
open Nat renaming le_refl->Ap,lt_of_lt_of_le->A6,ne_of_lt->A8,le_trans->AL,add_sub_cancel_left->Bc,zero_le->Bw,lt_irrefl->B1,ne_of_gt->BY,lt_succ_of_lt->Cf,not_lt_zero->Cj,lt_succ_self->CH,le_succ->DB,sub_self->DM,succ_ne_self->DT,le_of_lt->En,sub_zero->Fo,add_assoc->Gb,lt_trans->GA,le_succ_of_le->GB,min_eq_left->Hz,not_lt->Ic,mod_lt->Ih,mul_le_mul->Iq,mul_add->J1,add_mul->J2
open PySem.W renaming Frag->Aq,boot_heap->BX,kia_one->CT,keepIn->Dg,cellsFrom_some->Fe,fnOf->Ff,SharedT->FT,of_hideAll->Gf,boot_drawn->Gv,boot_toks->Hd,OpenLaw->Hw,codeIn->HN,namesBound->Il,staticsOk->IT,stepOk->Jh,gensDone->Jy,laidKept->Jz,openGood->J0,OpenLaw->JM,through->JN,stepT->JO,topStub->JP,topFrom->JQ,LeftO->JZ
open Option.some renaming inj->AF,injEq->C7
open PySem.AutoSeq1 renaming wpAny_loadPart'->AG,wpAny_loadPart'->CI,list_extend_list_list_0->G8,sub_tuple_tuple->Iz,sub_list_list->IZ
open PySem.F renaming called_set->AM,plainAttrs_list->Cg,plain_min_loop->Cu,slot_tuple_iterator_next->Cw,slot_enumerate_next->Da,args_tuple_add_2->Dy,slot_list_append->D2,type_list_append->D3,entry_tuple_add->D9,slot_tuple_add->DG,slot_tuple_hash->DH,slot_tuple_eq->Ef,args_tuple_iterator_next_1->Ei,slot_zip_next->Ej,entry_tuple_iterator_next->Er,sub_list_frozenset->E6,entry_min_loop->EU,args_enumerate_next_1->EV,typeCall_set_1->Fp,entry_enumerate_next->Fq,slot_dict_get->F1,slot_set_iter->F4,args_list_append_2->FC,slot_list_lt->FE,sub_list_set->FI,entry_list_append->FV,slot_list_append->Gm,entry_type_call->GC,args_zip_next_1->GG,plain_list_iadd->GM,entry_set_init->GU,entry_zip_next->GX,slot_int_rmul->Hn,plain_set_new->Hr
open PySem.Builtin.SmallTypes renaming nextOf->AT,ownedTupleIsFree->Bu,ownedTupleHandOut->Cm
open PySem.Around renaming under_plainId->AZ,under_plain->Gr
open PyProof.Rows.F renaming plain_set_update_loop->Bg,entry_set_update_loop->BC
open PyProof.Rows renaming callWith_type1->Bh,slot_tuple_getitem->Bp,callWith_builtin1->BW,IntsAre->CD,AllBare->EC,subscriptTail_builtinR->Fj,envOfC->FA,entry_tuple_getitem->FU,args_tuple_getitem->Gk,get?_update_seq->Ht,boot_range->HH,slicePart_none->HP,size_push'->HX,tupleItemsOf_->I0,listUpdate_at->IG,SetOf_congr->Js,TupTab->J3,lt_int->J4,Call_->JK
open PySem.NameKind renaming free->Bt
open Option renaming map_eq_some_iff->Bx,isSome_iff_exists->Dw,none->Jq
open Array renaming length_toList->B3,getElem?_eq_getElem->B9,getElem?_toList->BV,forIn_toList->Ez,mk->Im
open PySem.Builtin.Tuple renaming tupleHashOf->B8,tupleItemsOf->Dh,tupleCompareSizes->GP,tupleIsExact->HY
open Int renaming toNat_natCast->BD,toNat_of_nonneg->CF,le_trans->Ft,ofNat->FS,emod_lt_of_pos->Gz,emod_nonneg->Hx,mul_le_mul->Io,zero_add->Jc
open Bool renaming or_eq_true->BG,not_true->BK,eq_iff_iff->C5,false_ne_true->D5,not_false->DI,and_true->DV,and_false->FD,not_eq_true'->GN,false_and->HG,or_false->IB,or_true->IX
open PySem.Builtin.Range renaming rangeSize->BH,small->FW,rangeFitsLong->HC
open PySem.Value renaming int->BQ,none->C8,bool->C9,ref->CV,isInt->DX,type->Eu,isStrOf->Iu,str->JR
open Sum renaming inr->Co,inl->G2
open Prod.mk renaming injEq->Cr
open PySem.Builtin.Slice renaming slicePlaces->C1,sliceAdjust->Dr,sliceApplied->Ew,slicePartIndex->Hm,sliceFields->Ir
open PySem.Builtin.List renaming listTooLong->CA,listExtendWith->Et,listSameRef->EJ,listLengthHint->HB,listFitsIndex->HU,listTouch->Jf
open PySem.Challenge renaming rw_handpromise_k67_least_form->CC,pw_handpromise_k67_least_form->EN
open PySem.MeetsSeq3 renaming plain_eq_loop->CG,entry_eq_loop->ET
open PySem.Calls renaming spliced_cons->CM,spliced_nil->DE,Name_function_global->Ev,callWith_builtin->Fl,evalArgs_plain->FB
open ForInStep renaming yield->CU
open Ne renaming symm->Dc
open False renaming elim->D6
open PySem.Obj renaming mapSeq->D8,data_mapFields->Gs
open Classical renaming not_not->DK
open PySem.Builtin.Frozenset renaming updateFrom->Eh,newClass->Ie,addrOf->IE,sizeOf->IF,slot0->IS
open PySem.Heap.SameBut renaming update->Ek,refl->GI
open True renaming intro->E3
open PySem.SetTable renaming below->E8,insertAt->ED,orStandIn->JE
open Sum.inr renaming injEq->EM
open PySem.Builtin.Str renaming occurrences->EO,occurrences->Hk
open PyProof renaming noPylong_small->Fd
open PySem.W.Fast renaming te10156331382660048174->Gc,te11892475500146522536->Gd,te14364793385576792824->Ge,te6613529449190102663->Gw,te4187177175401517315->Gx,te5923862056798008813->Gy,sEq->GO,sEq_iff->Ji
open PySem.Walks renaming list->Gp,range->Jm
open PySem.Code renaming quiet_builtin->Gq
open PySem.AutoListH renaming list___mul___list_int_3->G1
open List.Pairwise renaming nil->G9,sublist->Jk
open PySem.pickOrder renaming go->GJ
open PySem.IsL renaming update->GR
open PySem.PassesOwn renaming never->Hu
open PySem.Paired renaming length->Iv
open List.cons renaming inj->IJ
open PyProof.Rows.IsTup renaming new->IQ
open List.Perm renaming append_left->Jj,cons_inv->JG,refl->JX,swap->JY
open PySem.IsRange renaming new->Jn
open PySem.MeetsSeq renaming list_pop_at->Jp
open PySem.Moved renaming trans->Jt
open PySem.SeqAt.EqAt renaming int_str->J5,str_int->J6,int_int->J7
open PySem.Heap.IsSliceOf renaming new->J8
open PySem.Str renaming length->J9
open PySem.W.WShape renaming has->JA
open PySem.ScopeKind renaming function->JH
open PySem.W.WData renaming int->JS
open Prod renaming ext->JV
def Am:=@decide_eq_true
def A5:=@decide_eq_false
def AR:=@decide_eq_true_eq
def E9:=@or_false
def Hf:=@decide_eq_decide
theorem nf{p:Prop}(h:false=true):p:=absurd h D5
noncomputable def gS:=@List.getElem?_cons_succ.{0}
noncomputable def gZ:=@List.getElem?_cons_zero.{0}
noncomputable def lS:=@List.set_cons_succ.{0}
noncomputable def lZ:=@List.set_cons_zero.{0}
noncomputable def bF:=@Bool.false_eq_true
noncomputable def lC:=@List.length_cons.{0}
noncomputable def lN:=@List.length_nil.{0}
noncomputable def lA:=@List.length_append.{0}
noncomputable def mC:=@List.map_cons.{0,0}
noncomputable def mN:=@List.map_nil.{0,0}
noncomputable def lM:=@List.length_map.{0,0}
noncomputable def mG:=@List.mem_of_getElem?.{0}
noncomputable def bN:=@Bool.false_ne_true
noncomputable def bA:=@Bool.and_eq_true
noncomputable section
set_option maxRecDepth 100000
set_option maxRecDepth 100000
namespace L2
open PySem PySem.Spec PyProof.Rows
abbrev Key:=Sum Int Str
noncomputable def tU:Key->Ac->Bool
 | .inl k,v=>DX k v|.inr x,v=>Iu x v
noncomputable def aPC(w:AJ):Key->Int
 | .inl k=>H9 k|.inr x=>JI w x
theorem keyIs_shape:∀{k:Key} {v:Ac},tU k v=true->(∃i t,k=G2 i/\v=BQ i t)\/(∃x t,k=Co x/\v=JR x t)
 | .inl i,v,h=>by obtain⟨t,e⟩:=Value.isInt_shape h;grind|.inr x,v,h=>by obtain⟨t,e⟩:=Value.isStrOf_shape h;grind
theorem aDa(i:Int)(t:HA):tU (.inl i) (.int i t)=true:=by simp[tU,DX]
theorem kE(x:Str)(t:HA):tU (.inr x) (.str x t)=true:=by simp[tU,Iu]
theorem aJL(a b:Int):decide ((G2 a:Key)=G2 b)=(a==b):=by grind
theorem aJM(a b:Str):decide ((Co a:Key)=Co b)=decide (a=b):=by grind
theorem aJN(a:Int)(b:Str):decide ((G2 a:Key)=Co b)=false:=A5 (λq=>nomatch q)
theorem aJO(a:Str)(b:Int):decide ((Co a:Key)=G2 b)=false:=A5 (λq=>nomatch q)
noncomputable def cF(prog:Ay)(w:AJ):PySem.KeyKind prog w Key where
 is:=tU
 hash:=aPC w
 inj:=λv a b ha hb=>by
  rcases keyIs_shape ha with⟨i,t,rfl,rfl⟩|⟨x,t,rfl,rfl⟩
  rcases keyIs_shape hb with⟨j,u,rfl,e⟩|⟨y,u,rfl,e⟩
  grind;grind;rcases keyIs_shape hb with⟨j,u,rfl,e⟩|⟨y,u,rfl,e⟩
  grind;grind
 byValue:=λk v h=>by rcases keyIs_shape h with⟨i,t,rfl,rfl⟩|⟨x,t,rfl,rfl⟩ <;> rfl
 pyHash:=λhv h=>by
  rcases keyIs_shape hv with⟨i,t,rfl,rfl⟩|⟨x,t,rfl,rfl⟩
  exact wpAny_pyHash_int h;exact wpAny_pyHash_str h
 eqBool:=λhu hv h=>by
  rcases keyIs_shape hu with⟨i,t,rfl,rfl⟩|⟨x,t,rfl,rfl⟩
  rcases keyIs_shape hv with⟨j,u,rfl,rfl⟩|⟨y,u,rfl,rfl⟩
  rw[aJL] at h;exact wpAny_eqBool_int h;rw[aJN] at h;exact J5 i t y u _ _ _ _ h;rcases keyIs_shape hv with⟨j,u,rfl,rfl⟩|⟨y,u,rfl,rfl⟩
  rw[aJO] at h;exact J6 x t j u _ _ _ _ h;rw[aJM] at h;exact wpAny_eqBool_str h
 «strs»:=λk x t v h=>by
  rcases keyIs_shape h with⟨i,u,rfl,e⟩|⟨y,u,rfl,e⟩
  grind;injection e with e1 _
  subst e1;cases v <;> rfl
theorem xZ(prog:Ay)(w:AJ)(i:Int)(t:HA):(cF prog w).is (.inl i) (.int i t)=true:=aDa i t
theorem yA(prog:Ay)(w:AJ)(x:Str)(t:HA):(cF prog w).is (.inr x) (.str x t)=true:=kE x t
set_option genInjectivity true in
set_option genInjectivity true in
inductive V where
 | non|bl (b:Bool)|int (i:Int)|str (x:Str)|ref (a:Ah)|ty (n:String)
 deriving DecidableEq
noncomputable def bZ:V->Ac->Prop
 | .non,u=>u=C8|.bl b,u=>u=C9 b|.int i,u=>∃t,u=BQ i t|.str x,u=>∃t,u=JR x t|.ref a,u=>u=CV a|.ty n,u=>u=Eu n
abbrev bC:List V->List Ac->Prop:=Cp bZ
theorem bC.length{xs:List V}{us:List Ac}(r:bC xs us):xs.length=us.length:=Iv r
theorem bC.get:∀{xs:List V} {us:List Ac} {i:Nat} {x:V},bC xs us->xs[i]? = some x->∃u,us[i]? = some u/\bZ x u
 | _,_,_,_,.nil,e=>by simp at e|_,_,0,_,.cons r _,e=>by grind|_,_,i+1,x,.cons _ t,e=>by obtain⟨u,h1,h2⟩:=bC.get t (by simpa using e);grind
theorem bC.set{x:V}{u:Ac}(r:bZ x u):∀{xs:List V} {us:List Ac} (i:Nat),bC xs us->bC (xs.set i x) (us.set i u)
 | _,_,_,.nil=>.nil|_,_,0,.cons _ t=>.cons r t|_,_,i+1,.cons q t=>.cons q (bC.set r i t)
theorem bC.append:∀{xs ys:List V} {us ws:List Ac},bC xs us->bC ys ws->bC (xs++ys) (us++ws)
 | _,_,_,_,.nil,s=>s|_,_,_,_,.cons r t,s=>.cons r (bC.append t s)
theorem bC.take:∀{xs:List V} {us:List Ac} (n:Nat),bC xs us->bC (xs.take n) (us.take n)
 | _,_,0,_=>.nil|_,_,_+1,.nil=>.nil|_,_,n+1,.cons r t=>.cons r (bC.take n t)
theorem bC.drop:∀{xs:List V} {us:List Ac} (n:Nat),bC xs us->bC (xs.drop n) (us.drop n)
 | _,_,0,r=>r|_,_,_+1,.nil=>.nil|_,_,n+1,.cons _ t=>bC.drop n t
noncomputable def kV:Key->V
 | .inl i=>.int i|.inr x=>.str x
inductive HO where
 | lst (xs:List V)
 | tup (xs:List V)
 | own (x:Ah)
 | frz (o:Obj) (u:HO)
 | tbl (ps:Array Ac)
 | ext (φ:Heap->Prop)
abbrev Hp:=Ah->Option HO
noncomputable def upd(H:Hp)(a:Ah)(o:HO):Hp:=λb=>if b=a then some o else H b
theorem bD{H:Hp}{a:Ah}{o:HO}:upd H a o a=some o:=by unfold upd;rw[if_pos rfl]
theorem aO{H:Hp}{a b:Ah}{o:HO}(h:b≠a):upd H a o b=H b:=by unfold upd;rw[if_neg h]
theorem bS{H:Hp}{a b:Ah}{o:HO}(h:H a=some o)(h':H b=none):a≠b:=by grind
noncomputable def gF(P:Ay)(w:AJ)(H:Hp)(h:Heap)(a:Ah):HO->Prop
 | .lst xs=>xs.length<=sizeLine/\∃(its:List Ac) (n:Nat),bC xs its/\h.get? a=some { cls:=.type "list",data:=.seq its.toArray n }|.tup xs=>xs.length<=sizeLine/\∃its:List Ac,bC xs its/\IsTup h a its.toArray|.own _=>∃o,h.get? a=some o|.frz o u=>h.get? a=some o/\gF P w H h a u|.tbl ps=>h.get? a=some { cls:=.none,data:=.fields ps }|.ext φ=>φ h/\(∃o,h.get? a=some o)/\∀h1 h2:Heap,φ h1->(∀o,h1.get? a=some o->h2.get? a=some o)->φ h2
noncomputable def HOk(P:Ay)(w:AJ)(H:Hp)(h:Heap):Prop:=∀a o,H a=some o->gF P w H h a o
section
variable {P:Ay} {w:AJ} {H H':Hp} {h h':Heap} {a:Ah} {o:HO}
theorem gF.lt(x:gF P w H h a o):a<h.objs.size:=by
 cases o with
 | lst xs=>obtain⟨_,_,_,_,e⟩:=x;exact An e|tup xs=>obtain⟨_,_,_,p⟩:=x;exact p.lt|own y=>obtain⟨_,e⟩:=x;exact An e|frz q u=>obtain⟨e,_⟩:=x;exact An e|tbl ps=>exact An (x)|ext φ=>obtain⟨_,⟨_,e⟩,_⟩:=x;exact An e
theorem gF.stay(x:gF P w H h a o)(k:∀b u,(b=a\/H b=some (.own a))->h.get? b=some u->h'.get? b=some u)
 (ho:∀b,H b=some (.own a)->H' b=some (.own a)) (ht:∀b xs,H b=some (.tup xs)->H' b=some (.tup xs)):gF P w H' h' a o:=by
 induction o with
 | lst xs=>obtain⟨z,I,n,r,e⟩:=x;exact⟨z,I,n,r,k _ _ (.inl rfl) e⟩|tup xs=>obtain⟨z,I,r,U,e,c⟩:=x;exact⟨z,I,r,U,k _ _ (.inl rfl) e,c⟩|own y=>obtain⟨U,e⟩:=x;exact⟨U,k _ _ (.inl rfl) e⟩|frz U u W=>obtain⟨e,q⟩:=x;exact⟨k _ _ (.inl rfl) e,W q⟩|tbl ps=>have e:h.get? a=some { cls:=.none,data:=.fields ps }:=x;show h'.get? a=some { cls:=.none,data:=.fields ps };grind|ext φ=>obtain⟨p,⟨o,e⟩,st⟩:=x;exact⟨st _ _ p λo q=>k _ _ (.inl rfl) q,⟨o,k _ _ (.inl rfl) e⟩,st⟩
theorem HOk.lt(x:HOk P w H h)(e:H a=some o):a<h.objs.size:=(x a o e).lt
theorem HOk.fresh(x:HOk P w H h)(e:h.objs.size<=a):H a=none:=by
 cases q:H a with
 | none=>rfl|some u=>exact absurd (A6 (x.lt q) e) (B1 _)
theorem HOk.kept(x:HOk P w H h)(k:∀b u,h.get? b=some u->h'.get? b=some u):HOk P w H h':=λa o e=>(x a o e).stay (λb u _ q=>k b u q) (λ_ q=>q) λ_ _ q=>q
theorem HOk.laid(x:HOk P w H h)(k:∀b u,h.get? b=some u->h'.get? b=some u)(U:h.objs.size<=a)(new:gF P w (upd H a o) h' a o):HOk P w (upd H a o) h':=λb u e=>by by_cases I:b=a;subst I;rw[bD] at e;grind;rw[aO I] at e;exact(x b u e).stay (λc v _ q=>k c v q) (λc q=>by rw[aO (bS q (x.fresh U))];exact q) λc xs q=>by rw[aO (bS q (x.fresh U))];exact q
end
noncomputable def Rd(H:Hp)(a:Ah)(u:HO):Prop:=H a=some u\/∃o,H a=some (.frz o u)
theorem Rd.ok{P:Ay}{w:AJ}{H:Hp}{h:Heap}{a:Ah}{u:HO}(r:Rd H a u)(x:HOk P w H h):gF P w H h a u:=by
 rcases r with r|⟨o,r⟩
 exact x a u r;obtain⟨_,q⟩:=x a _ r;exact q
noncomputable def Mut:Option HO->Prop
 | some (.lst _)=>True|some (.ext _)=>True|_=>False
section
variable {P:Ay} {w:AJ} {H:Hp} {h h':Heap} {x e:Ah} {o':HO}
theorem HOk.write(ok:HOk P w H h)(mu:Mut (H x))(he:e=x\/H e=some (.own x))(k:∀b u,b≠e->h.get? b=some u->h'.get? b=some u)(q0:∃u,h'.get? e=some u)
 (new:gF P w (upd H x o') h' x o'):HOk P w (upd H x o') h':=λb u q=>by
 have I:∀c y,H c=some (.own y)->c≠x:=λc y r z=>by subst z;rw[r] at mu;exact mu
 by_cases hb:b=x;subst hb;rw[bD] at q;grind;rw[aO hb] at q;by_cases U:b=e;have q':H b=some (.own x):=by grind
 rw[q] at q';cases q';obtain⟨v,hv⟩:=q0;exact⟨v,by rw[U];exact hv⟩;refine(ok b u q).stay (λc v W r=>k c v ?_ r) (λc r=>by rw[aO (I c b r)];exact r) λc xs r=>by rw[aO ((λc xs r z=>by subst z;rw[r] at mu;exact mu) c xs r)];exact r
 rcases W with rfl|W;exact U;rintro rfl;rcases he with z|z;exact I c b W z;rw[W] at z;cases z;exact hb rfl
end
structure Un (fs ex:List Ah) (H H':Hp) (h h':Heap):Prop where
 keep:∀b o,h.get? b=some o->H b=none->b∉fs->b∉ex->h'.get? b=some o
 slot:∀b o,h.get? b=some o->H b=none->b∈fs->b∉ex->∃sl,h'.get? b=some { o with slots:=sl }
 free:∀b o,h.get? b=some o->H b=none->b∉ex->H' b=none
 there:∀b o,h.get? b=some o->b∉ex->∃o',h'.get? b=some o'
 tups:∀b xs,H b=some (.tup xs)->H' b=some (.tup xs)
 frzs:∀b o u,H b=some (.frz o u)->H' b=some (.frz o u)
 tbls:∀b ps,H b=some (.tbl ps)->∃more,H' b=some (.tbl (ps++more))
section
variable {fs fs' ex ex':List Ah} {H H1 H2:Hp} {h h1 h2 h':Heap} {a x e:Ah} {o:HO}
theorem Un.any(u:Un fs ex H H1 h h1){b:Ah}{I:Obj}(q:h.get? b=some I)(n:H b=none)(W:b∉ex):∃sl,h1.get? b=some { I with slots:=sl }:=by by_cases U:b∈fs;exact u.slot b I q n U W;exact⟨I.slots,u.keep b I q n U W⟩
theorem Un.kept(k:∀b u,h.get? b=some u->h'.get? b=some u):Un fs ex H H h h':=
 ⟨λb I q _ _ _=>k b I q,λb I q _ _ _=>⟨I.slots,k b I q⟩,λ_ _ _ n _=>n,λb I q _=>⟨I,k b I q⟩,λ_ _ q=>q,λ_ _ _ q=>q,λ_ ps q=>⟨#[],by rw[q];simp⟩⟩
theorem Un.refl:Un fs ex H H h h:=Un.kept λ_ _ q=>q
theorem Un.laid(k:∀b u,h.get? b=some u->h'.get? b=some u)(U:h.objs.size<=a)(I:H a=none):Un fs ex H (upd H a o) h h' where
 keep:=λb u q _ _ _=>k b u q
 slot:=λb u q _ _ _=>⟨u.slots,k b u q⟩
 free:=λb u q n _=>by rw[aO (A8 (A6 (An q) U))];exact n
 there:=λb u q _=>⟨u,k b u q⟩
 tups:=λb xs q=>by rw[aO (bS q I)];exact q
 frzs:=λb u xs q=>by rw[aO (bS q I)];exact q
 tbls:=λb ps q=>⟨#[],by rw[aO (bS q I),q];simp⟩
theorem Un.write(W:Mut (H x))(he:e=x\/H e=some (.own x))(k:∀b u,b≠e->h.get? b=some u->h'.get? b=some u)(q0:∃u,h'.get? e=some u):Un fs ex H (upd H x o) h h':=by
 have hx:∀b,H b=none->b≠x:=λb n z=>by subst z;rw[n] at W;exact W
 have U:∀b,H b=none->b≠e:=λb n z=>by grind
 have I:∀b u,H b=some u->¬ Mut (some u)->b≠x:=λb u q nm z=>by grind
 refine⟨λb u q n _ _=>k b u (U b n) q,λb u q n _ _=>⟨u.slots,k b u (U b n) q⟩,λb u q n _=>by rw[aO (hx b n)];exact n,λb u q _=>?_,
  λb xs q=>by rw[aO (I b _ q λz=>z)];exact q,λb u xs q=>by rw[aO (I b _ q λz=>z)];exact q,λb ps q=>⟨#[],by rw[aO (I b _ q λz=>z),q];simp⟩⟩
 grind
end
noncomputable def trk(h:Heap)(H:Hp):List Ah:=(Ar h.objs.size).filter λa=>(H a).isSome
noncomputable def aDb(h:Heap)(H:Hp):Heap:=PySem.W.hideAll h (trk h H)
theorem aDc(h:Heap)(H:Hp):(aDb h H).objs.size=h.objs.size:=PySem.W.hideAll_size _ _
theorem yB{h:Heap}{H:Hp}{b:Ah}{o:Obj}(e:h.get? b=some o)(n:H b=none):(aDb h H).get? b=some o:=
 PySem.W.hideAll_get _ e λI=>by have q:=(CP.mp I).2;rw[n] at q;simp at q
theorem aHx{h:Heap}{H:Hp}{b:Ah}{o:Obj}(e:(aDb h H).get? b=some o):h.get? b=some o/\H b=none:=by
 refine⟨(Gf (trk h H) e),?_⟩;cases q:H b with
 | none=>rfl|some x=>have z:(aDb h H).get? b=none:=PySem.W.hideAll_none (trk h H) (CP.mpr ⟨B5.mpr (An (Gf (trk h H) e)),by simp[q]⟩);rw[z] at e;cases e
noncomputable def aHy(g h:Heap)(L:Ah):List (Ah×Obj):=(Ar h.objs.size).filterMap λa=>if a=L\/(g.get? a).isSome=true then none else (h.get? a).map λo=>(a,o)
noncomputable def rest(g h:Heap)(L d:Ah):List (Ah×Obj):=(aHy g h L).filter λp=>decide (p.1≠d)
structure Mod (K:Aq) (mg:Str->Option Ac) (base:Heap):Prop where
 kin:K.In base
 glob:base.Ns B2 mg
 blt:∃mb,base.Ns Gg mb/\∀x:Str,x ≠ "__name__" -> mb x=BM x
 nolimit:base.NoLimit
set_option genInjectivity true in
set_option genInjectivity true in
structure Cx where
 prog:Ay
 w:AJ
 K:Aq
 mg:Str->Option Ac
 base:Heap
 A:Bf
 N:List Str
 s₀:Ae
 H₀:Hp
 env:Iw
 outer:List Iw
 stack:List Iw
 ex:List Ah
 fn:Str->Bool
 calm:Bool
 pn:List (Ah×Obj)
 xe:Ac->Ae->Prop
noncomputable def frs(l:List Iw):List Ah:=l.filterMap (·.frame)
abbrev Cx.fs(X:Cx):List Ah:=frs X.outer
noncomputable def Vis(sc:De)(x:Str):Prop:=sc.names.lookup x=some .local\/sc.names.lookup x=some .cell\/sc.names.lookup x=some .free
noncomputable def Loc(sc:De)(x:Str):Prop:=sc.names.lookup x=some .local\/sc.names.lookup x=some .cell
noncomputable def aPD(env:Iw)(h:Heap)(m:Str->Option Ac)(x:Str)(u:Ac):Prop:=
 (env.kindOf x=some .local/\m x=some u)\/((env.kindOf x=some .cell\/env.kindOf x=some .free)/\∃c,env.cells.lookup x=some c/\h.IsCell c (some u))
structure Cx.Ok (X:Cx):Prop where
 mod:Mod X.K X.mg X.base
 kind:X.env.scope.kind=.function
 glob:X.env.globals=B2
 blt:X.env.builtins=Gg
 above:X.s₀.heap.objs.size<=X.env.locals
 inj:∀x y c,X.env.cells.lookup x=some c->X.env.cells.lookup y=some c->x=y
 has:∀x,(X.env.kindOf x=some .cell\/X.env.kindOf x=some .free)->∃c,X.env.cells.lookup x=some c
 cab:∀x c,X.fn x=true->X.env.cells.lookup x=some c->X.s₀.heap.objs.size<=c
 hd:X.calm=true->X.A.handled=none
 frames:X.A.frames=some X.stack
 stk:X.stack=X.outer\/(X.stack=X.env::X.outer/\X.env.frame=some X.env.locals)
 exf:∀b∈X.ex,b≠X.env.locals/\∀x c,X.env.cells.lookup x=some c->c≠b
 bs:∀b o,X.base.get? b=some o->X.s₀.heap.get? b=some o/\X.H₀ b=none
 bsz:X.base.objs.size<=X.s₀.heap.objs.size
 noex:∀b o,X.base.get? b=some o->b∉X.ex
 exfs:∀b∈X.ex,b∉X.fs
 funs:X.s₀.heap.FunFrames X.base X.outer
 frf:∀b∈X.fs,X.H₀ b=none
structure Inv (X:Cx) (G:List (Ah×Obj)) (Z:List (Option V)) (H:Hp) (s:Ae):Prop where
 ok:X.Ok
 os:s.os=X.s₀.os
 bare:EC s.gens
 base:Un X.fs X.ex X.H₀ H X.s₀.heap s.heap
 loc:∃m,s.heap.Ns X.env.locals m/\∀(i:Nat) (x:Str) (v:V),X.N[i]? = some x->Z[i]? = some (some v)->Vis X.env.scope x->∃u,bZ v u/\aPD X.env s.heap m x u
 cell:∀x c,X.env.cells.lookup x=some c->∃v,s.heap.IsCell c v
 free:H X.env.locals=none
 freeC:∀x c,X.env.cells.lookup x=some c->H c=none
 pin:∀p∈X.pn++G,s.heap.get? p.1=some p.2/\H p.1=none/\p.1≠X.env.locals/\p.1∉X.fs/\∀v,p.2.data≠.cell v
 hok:HOk X.prog X.w H s.heap
 len:Z.length=X.N.length
section
variable {X:Cx} {G:List (Ah×Obj)} {Z:List (Option V)} {H H':Hp} {s:Ae} {h':Heap}
theorem Cx.Ok.nofr(ok:X.Ok){b:Ah}{o:Obj}(e:X.base.get? b=some o):b∉X.fs:=λq=>by have:=(ok.funs.mem q).1;rw[e] at this;cases this
theorem Inv.bs(I:Inv X G Z H s):∀b o,X.base.get? b=some o->s.heap.get? b=some o/\H b=none:=λb o e=>⟨I.base.keep b o (I.ok.bs b o e).1 (I.ok.bs b o e).2 (I.ok.nofr e) (I.ok.noex b o e),I.base.free b o (I.ok.bs b o e).1 (I.ok.bs b o e).2 (I.ok.noex b o e)⟩
theorem Inv.bk(I:Inv X G Z H s):∀b o,X.base.get? b=some o->s.heap.get? b=some o:=λb o e=>(I.bs b o e).1
theorem Inv.mod(I:Inv X G Z H s):Mod X.K X.mg X.base:=I.ok.mod
theorem Inv.kIn(I:Inv X G Z H s):X.K.In s.heap:=I.ok.mod.kin.keeps I.bk
theorem Inv.lt(I:Inv X G Z H s):X.env.locals<s.heap.objs.size:=let ⟨_,hn,_⟩:=I.loc;hn.lt
theorem Inv.sz(I:Inv X G Z H s):X.s₀.heap.objs.size<=s.heap.objs.size:=AL I.ok.above (En I.lt)
theorem Inv.nofs(I:Inv X G Z H s){a:Ah}(h:s.heap.objs.size<=a):a∉X.fs:=λq=>by obtain⟨_,o,U,_⟩:=I.ok.funs.mem q;exact absurd (A6 (An U) (AL I.sz h)) (B1 _)
theorem Inv.cne(I:Inv X G Z H s):∀x c,X.env.cells.lookup x=some c->c≠X.env.locals:=λx c e z=>by obtain⟨v,o,W,hd⟩:=I.cell x c e;obtain⟨m,⟨o',es,ep,q,U,_⟩,_⟩:=I.loc;rw[z,q] at W;grind
theorem Inv.funs(I:Inv X G Z H s):s.heap.FunFrames X.base X.outer:=by
 have all:∀(l:List Iw),(∀b∈frs l,b∈X.fs)->X.s₀.heap.FunFrames X.base l->s.heap.FunFrames X.base l:=by
  intro l
  induction l with
  | nil=>intro _ _;trivial|cons env r ih=>intro hs hl;obtain⟨hk,⟨L,o,W,hn,ho,hd⟩,hr⟩:=hl;have q:=hs L (by unfold frs;rw[Dt,W];grind);obtain⟨sl,e⟩:=I.base.slot L o ho (I.ok.frf L q) q λz=>I.ok.exfs L z q;exact⟨hk,⟨L,_,W,hn,e,hd⟩,ih (λb U=>hs b (by unfold frs;rw[Dt,W];exact Au _ U)) hr⟩
 exact all X.outer (λ_ U=>U) I.ok.funs
theorem Inv.stack(I:Inv X G Z H s):s.heap.FunFrames X.base X.stack:=by
 rcases I.ok.stk with e|⟨e,q⟩
 rw[e];exact I.funs;rw[e];obtain⟨m,U,_⟩:=I.loc;exact .cons (by rw[I.ok.kind];decide) q U (Heap.get?_none_of_le (AL I.ok.bsz I.ok.above)) I.funs
theorem Inv.stkSub(I:Inv X G Z H s):∀b∈frs X.stack,b∈X.env.locals::X.fs:=λb q=>by
 rcases I.ok.stk with e|⟨e,U⟩
 rw[e] at q;grind;rw[e] at q;unfold frs at q;rw[Dt,U] at q;exact q
theorem Inv.stkFree(I:Inv X G Z H s):∀b∈frs X.stack,H b=none:=λb q=>by rcases AA.mp (I.stkSub b q) with e|q;rw[e];exact I.free;obtain⟨_,o,U,_⟩:=I.ok.funs.mem q;exact I.base.free b o U (I.ok.frf b q) λz=>I.ok.exfs b z q
theorem Inv.step{g':Array F7}{t':Nat}{d':Drawn}{ch:List Ah}(I:Inv X G Z H s)
 (W:∀b∈ch,(b∈X.ex\/X.s₀.heap.objs.size<=b)/\b≠X.env.locals/\(∀x c,X.env.cells.lookup x=some c->c≠b)/\∀p∈X.pn++G,p.1≠b)
 (keep:∀b o,b≠X.env.locals->b∉X.fs->b∉ch->s.heap.get? b=some o->H b=none->h'.get? b=some o)
 (slot:∀b o,b≠X.env.locals->b∈X.fs->b∉ch->s.heap.get? b=some o->H b=none->∃sl,h'.get? b=some { o with slots:=sl }) (free:∀b o,b∉ch->s.heap.get? b=some o->H b=none->H' b=none)
 (there:∀b o,b∉ch->s.heap.get? b=some o->∃o',h'.get? b=some o')
 (tups:∀b xs,H b=some (.tup xs)->H' b=some (.tup xs)) (frzs:∀b o u,H b=some (.frz o u)->H' b=some (.frz o u)) (tbls:∀b ps,H b=some (.tbl ps)->∃more,H' b=some (.tbl (ps++more)))
 (ns:∀m,s.heap.Ns X.env.locals m->h'.Ns X.env.locals m) (hok:HOk X.prog X.w H' h') (hg:EC g') :
 Inv X G Z H' { s with heap:=h',gens:=g',drawn:=d',toks:=t' }:=by
 have q1:∀b o,X.s₀.heap.get? b=some o->b∉X.ex->b∉ch:=λb o e U hb=>by rcases(W b hb).1 with z|z;exact U z;exact absurd (A6 (An e) z) (B1 _)
 have q0:∀x c,X.env.cells.lookup x=some c->∀v,s.heap.IsCell c v->h'.IsCell c v:=λx c e v ⟨o,ho,hd⟩=>by have q2:c∉ch:=λz=>(W c z).2.2.1 x c e rfl;by_cases hc:c∈X.fs;obtain⟨sl,q⟩:=slot c o (I.cne x c e) hc q2 ho (I.freeC x c e);exact⟨_,q,hd⟩;exact⟨o,keep c o (I.cne x c e) hc q2 ho (I.freeC x c e),hd⟩
 refine⟨I.ok,I.os,hg,⟨λb o e n hb U=>?_,λb o e n hb U=>?_,λb o e n U=>?_,λb o e U=>?_,λb xs e=>tups b xs (I.base.tups b xs e),λb o xs e=>frzs b o xs (I.base.frzs b o xs e),λb ps e=>?_⟩,?_,λx c e=>?_,?_,λx c e=>?_,λp hp=>?_,hok,I.len⟩;exact keep b o ((λb o e=>A8 (A6 (An e) I.ok.above)) b o e) hb (q1 b o e U) (I.base.keep b o e n hb U) (I.base.free b o e n U);obtain⟨sl,e1⟩:=I.base.slot b o e n hb U;obtain⟨q3,e2⟩:=slot b _ ((λb o e=>A8 (A6 (An e) I.ok.above)) b o e) hb (q1 b o e U) e1 (I.base.free b o e n U);grind;obtain⟨o',e1⟩:=I.base.there b o e U;exact free b o' (q1 b o e U) e1 (I.base.free b o e n U);obtain⟨o',e1⟩:=I.base.there b o e U;grind;obtain⟨m1,e1⟩:=I.base.tbls b ps e;grind;obtain⟨m,hn,hl⟩:=I.loc;refine⟨m,ns m hn,λi x v e1 e2 e3=>?_⟩;obtain⟨u,r,l⟩:=hl i x v e1 e2 e3;refine⟨u,r,?_⟩;rcases l with l|⟨k,c,e,z⟩
 exact .inl l;exact .inr ⟨k,c,e,q0 x c e _ z⟩;obtain⟨v,z⟩:=I.cell x c e;grind;obtain⟨m,⟨o,_,_,ho,_⟩,_⟩:=I.loc;exact free _ o (λz=>(W _ z).2.1 rfl) ho I.free;obtain⟨v,o,ho,hd⟩:=I.cell x c e;exact free c o (λz=>(W c z).2.2.1 x c e rfl) ho (I.freeC x c e);obtain⟨e,n,ne,nf,d⟩:=I.pin p hp;grind
theorem Inv.un{t':Nat}(I:Inv X G Z H s)(u:Un X.fs [] H H' s.heap h')(hok:HOk X.prog X.w H' h'):Inv X G Z H' { s with heap:=h',toks:=t' }:=by
 obtain⟨m,⟨o,es,ep,ho,r⟩,_⟩:=id I.loc;obtain⟨sl,hL⟩:=u.any ho I.free (by simp);exact I.step (ch:=[]) (λ_ z=>nomatch z) (λb o _ hb _ e n=>u.keep b o e n hb (by simp)) (λb o _ hb _ e n=>u.slot b o e n hb (by simp)) (λb o _ e n=>u.free b o e n (by simp)) (λb o _ e=>u.there b o e (by simp)) u.tups u.frzs u.tbls (λm' hm=>by
  obtain⟨o',W,U,q,r'⟩:=hm;rw[ho] at q;cases q;exact⟨_,W,U,hL,r'⟩) hok I.bare
theorem Inv.call{g':Array F7}{t':Nat}{d':Drawn}{ch:List Ah}(I:Inv X G Z H s)(u:Un (frs X.stack) ch H H' s.heap h')(hok:HOk X.prog X.w H' h')(hg:EC g')
 (U:∀b∈ch,(b∈X.ex\/X.s₀.heap.objs.size<=b)/\b≠X.env.locals/\(∀x c,X.env.cells.lookup x=some c->c≠b)/\∀p∈X.pn++G,p.1≠b) :
 Inv X G Z H' { s with heap:=h',gens:=g',drawn:=d',toks:=t' }:=by
 obtain⟨m,⟨o,es,ep,ho,r⟩,_⟩:=id I.loc;obtain⟨sl,hL⟩:=u.any ho I.free λz=>(U _ z).2.1 rfl;exact I.step U (λb o hL hb q e n=>u.keep b o e n (λz=>(AA.mp (I.stkSub b z)).elim hL hb) q) (λb o _ _ q e n=>u.any e n q) (λb o q e n=>u.free b o e n q) (λb o q e=>u.there b o e q) u.tups u.frzs u.tbls (λm' hm=>by
  obtain⟨o',q1,q0,W,r'⟩:=hm;rw[ho] at W;cases W;exact⟨_,q1,q0,hL,r'⟩) hok hg
theorem Inv.turned{t':Nat}{it:Ah}(I:Inv X G Z H s)(k:∀b o,b≠it->s.heap.get? b=some o->h'.get? b=some o)(hn:H it=none)(W:it≠X.env.locals)
 (h1:it∈X.ex\/X.s₀.heap.objs.size<=it) (h2:∀x c,X.env.cells.lookup x=some c->c≠it) (h3:∀p∈X.pn++G,p.1≠it):Inv X G Z H { s with heap:=h',toks:=t' }:=by
 refine I.step (ch:=[it]) (λb hb=>?_) (λb o _ _ U e _=>k b o (λz=>U (by simp[z])) e) (λb o _ _ U e _=>⟨o.slots,k b o (λz=>U (by simp[z])) e⟩) (λ_ _ _ _ n=>n)
  (λb o U e=>⟨o,k b o (λz=>U (by simp[z])) e⟩) (λ_ _ e=>e) (λ_ _ _ e=>e) (λb ps e=>⟨#[],by rw[e];simp⟩) (λm hm=>?_) (λb u e=>?_) I.bare
 grind;obtain⟨o,es,ep,ho,r⟩:=hm;exact⟨o,es,ep,k _ o (Dc W) ho,r⟩;refine(I.hok b u e).stay (λc v U q=>k c v ?_ q) (λ_ q=>q) λ_ _ q=>q;grind
theorem Inv.tok(I:Inv X G Z H s)(t:Nat):Inv X G Z H { s with toks:=t }:=I.un Un.refl I.hok
theorem Inv.kept{t':Nat}(I:Inv X G Z H s)(k:∀b u,s.heap.get? b=some u->h'.get? b=some u):Inv X G Z H { s with heap:=h',toks:=t' }:=I.un (Un.kept k) (I.hok.kept k)
theorem Inv.laid{a:Ah}{o:HO}{t':Nat}(I:Inv X G Z H s)(k:∀b u,s.heap.get? b=some u->h'.get? b=some u)(q:s.heap.objs.size<=a)(new:gF X.prog X.w (upd H a o) h' a o) :
 Inv X G Z (upd H a o) { s with heap:=h',toks:=t' }:=I.un (Un.laid k q (I.hok.fresh q)) (I.hok.laid k q new)
theorem Inv.write{x e:Ah}{o:HO}{t':Nat}(I:Inv X G Z H s)(W:Mut (H x))(U:e=x\/H e=some (.own x))(k:∀b u,b≠e->s.heap.get? b=some u->h'.get? b=some u)(q:∃u,h'.get? e=some u)
 (new:gF X.prog X.w (upd H x o) h' x o):Inv X G Z (upd H x o) { s with heap:=h',toks:=t' }:=I.un (Un.write W U k q) (I.hok.write W U k q new)
theorem Inv.pins_of{pins':List (Ah×Obj)}(I:Inv X G Z H s)(h:∀p∈pins',s.heap.get? p.1=some p.2/\H p.1=none/\p.1≠X.env.locals/\p.1∉X.fs/\∀v,p.2.data≠.cell v):Inv X pins' Z H s:=
 ⟨I.ok,I.os,I.bare,I.base,I.loc,I.cell,I.free,I.freeC,λp q=>(Bl.mp q).elim (λz=>I.pin p (AN _ z)) (h p),I.hok,I.len⟩
theorem yC{N:List Str}(U:N.Nodup){i j:Nat}{x:Str}(a:N[i]? = some x)(b:N[j]? = some x):i=j:=by obtain⟨h1,q⟩:=Ao.mp a;obtain⟨h2,I⟩:=Ao.mp b;exact(List.getElem_inj U).mp (q.trans I.symm)
theorem tV{M:JU}{A:Bf}{E:Ac->Ae->Prop}{i:Nat}{x:Str}{v:V}{u:Ac}{Q:Unit->Ae->Prop}(I:Inv X G Z H s)(hN:X.N.Nodup)(hi:X.N[i]? = some x)(hx:Loc X.env.scope x)(r:bZ v u)
 (h:∀s',Inv X G (Z.set i (some v)) H s'->(∃a,C6 a s.heap s'.heap/\(a=X.env.locals\/X.env.cells.lookup x=some a))->Q () s') (hf:X.fn x=true\/X.env.scope.names.lookup x=some .local:=by first|exact .inl rfl|exact .inr rfl|assumption):Av M A (storeName X.env x u) Q E s:=by
 obtain⟨m,hn,hl⟩:=id I.loc;have W:∀{a:Ah} {h':Heap},(∃o,s.heap.get? a=some o/\H a=none)->C6 a s.heap h'->HOk X.prog X.w H h':=λ{a h'} ha hs b ob e=>by obtain⟨_,_,q3⟩:=ha;refine(I.hok b ob e).stay (λc w' hc q=>(hs.2 c ?_).trans q) (λ_ q=>q) λ_ _ q=>q;grind
 rcases hx with hk|hk;refine wpAny_storeName_local hk hn (λh' q4 hs=>?_) (by rw[I.ok.kind];rfl);obtain⟨oL,_,_,q5,_⟩:=id hn;refine h _ ⟨I.ok,I.os,I.bare,⟨λb o e n hb hx=>?_,λb o e n hb hx=>?_,I.base.free,λb o e hx=>?_,I.base.tups,I.base.frzs,I.base.tbls⟩,⟨_,q4,λj y v' U e2 e3=>?_⟩,λy c e=>?_,I.free,I.freeC,λp hp=>?_,W ⟨oL,q5,I.free⟩ hs,by simpa using I.len⟩ ⟨_,hs,.inl rfl⟩;exact(hs.2 b (A8 (A6 (An e) I.ok.above))).trans (I.base.keep b o e n hb hx);obtain⟨sl,U⟩:=I.base.slot b o e n hb hx;exact⟨sl,(hs.2 b (A8 (A6 (An e) I.ok.above))).trans U⟩;obtain⟨o',U⟩:=I.base.there b o e hx;exact⟨o',(hs.2 b (A8 (A6 (An e) I.ok.above))).trans U⟩;by_cases hj:j=i;subst hj;rw[hi] at U;cases U;rw[AE (by rw[I.len];grind)] at e2;cases e2;exact⟨u,r,.inl ⟨hk,by simp⟩⟩;rw[Ai (Dc hj)] at e2;obtain⟨u',r',q⟩:=hl j y v' U e2 e3;refine⟨u',r',?_⟩;rcases q with⟨k,e⟩|⟨k,c,e,z⟩
 refine .inl ⟨k,?_⟩;have:y≠x:=λe=>hj (yC hN U (e▸hi));grind;exact .inr ⟨k,c,e,z.sameBut hs (I.cne y c e)⟩;obtain⟨w',z⟩:=I.cell y c e;exact⟨w',z.sameBut hs (I.cne y c e)⟩;obtain⟨e,n,ne,nf,d⟩:=I.pin p hp;exact⟨(hs.2 p.1 ne).trans e,n,ne,nf,d⟩;have q0:X.fn x=true:=by grind
 obtain⟨c,hc⟩:=I.ok.has x (.inl hk);obtain⟨w',z⟩:=I.cell x c hc;refine wpAny_storeName_cell I.ok.kind hk hc z (λh' q1 hs=>?_);obtain⟨oc,q6,q7⟩:=id z;refine h { s with heap:=h' } ⟨I.ok,I.os,I.bare,⟨λb o e n hb hx=>?_,λb o e n hb hx=>?_,I.base.free,λb o e hx=>?_,I.base.tups,I.base.frzs,I.base.tbls⟩,⟨m,hn.sameBut hs (Dc (I.cne x c hc)),λj y v' U e2 e3=>?_⟩,λy c' e=>?_,I.free,I.freeC,λp hp=>?_,W ⟨oc,q6,I.freeC x c hc⟩ hs,by simpa using I.len⟩ ⟨c,hs,.inr hc⟩;exact(hs.2 b (A8 (A6 (An e) (I.ok.cab x c q0 hc)))).trans (I.base.keep b o e n hb hx);obtain⟨sl,U⟩:=I.base.slot b o e n hb hx;exact⟨sl,(hs.2 b (A8 (A6 (An e) (I.ok.cab x c q0 hc)))).trans U⟩;obtain⟨o',U⟩:=I.base.there b o e hx;exact⟨o',(hs.2 b (A8 (A6 (An e) (I.ok.cab x c q0 hc)))).trans U⟩;by_cases hj:j=i;subst hj;rw[hi] at U;cases U;rw[AE (by rw[I.len];grind)] at e2;cases e2;exact⟨u,r,.inr ⟨.inl hk,c,hc,q1⟩⟩;rw[Ai (Dc hj)] at e2;obtain⟨u',r',q⟩:=hl j y v' U e2 e3;refine⟨u',r',?_⟩;rcases q with q|⟨k,c',e,z'⟩
 exact .inl q;refine .inr ⟨k,c',e,z'.sameBut hs ?_⟩;rintro rfl;exact hj (yC hN U (I.ok.inj _ _ _ e hc▸hi));by_cases q2:c'=c;grind;obtain⟨w2,z2⟩:=I.cell y c' e;exact⟨w2,z2.sameBut hs q2⟩;obtain⟨e,n,ne,nf,d⟩:=I.pin p hp;refine⟨(hs.2 p.1 ?_).trans e,n,ne,nf,d⟩;grind
theorem yD{M:JU}{A:Bf}{E:Ac->Ae->Prop}{i:Nat}{x:Str}{v:V}{u:Ac}{Q:Unit->Ae->Prop}(I:Inv X G Z H s)(W:X.N.Nodup)(hi:X.N[i]? = some x)(hx:Loc X.env.scope x)(r:bZ v u)
 (h:∀q,Inv X G (Z.set i (some v)) H q->Q () q) (hf:X.fn x=true\/X.env.scope.names.lookup x=some .local:=by first|exact .inl rfl|exact .inr rfl|assumption):Av M A (storeName X.env x u) Q E s:=
 tV I W hi hx r (λq U _=>h q U) hf
theorem Inv.call'{q:Ae}{ch:List Ah}(I:Inv X G Z H s)(ho:q.os=s.os)(u:Un (frs X.stack) ch H H' s.heap q.heap)(hok:HOk X.prog X.w H' q.heap)(W:EC q.gens)
 (U:∀b∈ch,(b∈X.ex\/X.s₀.heap.objs.size<=b)/\b≠X.env.locals/\(∀x c,X.env.cells.lookup x=some c->c≠b)/\∀p∈X.pn++G,p.1≠b):Inv X G Z H' q:=by obtain⟨h',g',d',t',o'⟩:=q;subst ho;exact I.call u hok W U
end
abbrev XK:=Ac->Option Ah->Hp->Prop
abbrev St:=List (Option V)
abbrev VK:=V->Hp->Prop
abbrev TE:=St->Hp->VK->Prop
abbrev TT:=St->Hp->(Bool->Hp->Prop)->Prop
abbrev TA:=St->Hp->(List V->Hp->Prop)->Prop
structure Ends where
 nx:St->Hp->Prop
 rt:VK
 bk:St->Hp->Prop:=λ_ _=>False
 ct:St->Hp->Prop:=λ_ _=>False
abbrev TS:=Ends->St->Hp->Prop
noncomputable def EP(X:Cx)(G:List (Ah×Obj))(Z:St)(Q:VK)(u:Ac)(s':Ae):Prop:=∃v H',Inv X G Z H' s'/\bZ v u/\Q v H'
noncomputable def TP(X:Cx)(G:List (Ah×Obj))(Z:St)(Q:Bool->Hp->Prop)(b:Bool)(s':Ae):Prop:=∃H',Inv X G Z H' s'/\Q b H'
noncomputable def AP(X:Cx)(G:List (Ah×Obj))(Z:St)(Q:List V->Hp->Prop)(us:List Ac)(s':Ae):Prop:=∃vs H',Inv X G Z H' s'/\bC vs us/\Q vs H'
noncomputable def SP(X:Cx)(G:List (Ah×Obj))(D:Ends)(f:Flow)(s':Ae):Prop:=
 match f with
 | .next=>∃Z' H',Inv X G Z' H' s'/\D.nx Z' H'|.brk=>∃Z' H',Inv X G Z' H' s'/\D.bk Z' H'|.cont=>∃Z' H',Inv X G Z' H' s'/\D.ct Z' H'|.ret u=>∃v Z' H',Inv X G Z' H' s'/\bZ v u/\D.rt v H'
noncomputable def PE(X:Cx)(e:As)(t:TE):Prop:=
 ∀(G:List (Ah×Obj)) (s:Ae) (Z:St) (H:Hp) (Q:VK),Inv X G Z H s->t Z H Q->Av (AC X.prog X.w) X.A (DD e X.env) (EP X G Z Q) X.xe s
noncomputable def PT(X:Cx)(e:As)(t:TT):Prop:=
 ∀(G:List (Ah×Obj)) (s:Ae) (Z:St) (H:Hp) (Q:Bool->Hp->Prop),Inv X G Z H s->t Z H Q->Av (AC X.prog X.w) X.A (isTrue e X.env (DD e X.env)) (TP X G Z Q) X.xe s
noncomputable def PW(X:Cx)(e:As)(t:TT):Prop:=
 ∀(whole:JT Ac) (G:List (Ah×Obj)) (s:Ae) (Z:St) (H:Hp) (Q:Bool->Hp->Prop),Inv X G Z H s->t Z H Q->Av (AC X.prog X.w) X.A (isTrue e X.env whole) (TP X G Z Q) X.xe s
theorem PW.pt{X:Cx}{e:As}{t:TT}(h:PW X e t):PT X e t:=h _
noncomputable def PA(X:Cx)(es:List As)(t:TA):Prop:=
 ∀(pos:CB) (G:List (Ah×Obj)) (s:Ae) (Z:St) (H:Hp) (Q:List V->Hp->Prop),Inv X G Z H s->t Z H Q->Av (AC X.prog X.w) X.A (spliced (F8 pos (Bq es X.env))) (AP X G Z Q) X.xe s
noncomputable def PS(X:Cx)(st:Ck)(t:TS):Prop:=
 ∀(G:List (Ah×Obj)) (s:Ae) (Z:St) (H:Hp) (D:Ends),Inv X G Z H s->t D Z H->Av (AC X.prog X.w) X.A (exec st X.env) (SP X G D) X.xe s
noncomputable def PSs(X:Cx)(st:List Ck)(t:TS):Prop:=
 ∀(G:List (Ah×Obj)) (s:Ae) (Z:St) (H:Hp) (D:Ends),Inv X G Z H s->t D Z H->Av (AC X.prog X.w) X.A (execs st X.env) (SP X G D) X.xe s
theorem thn{α:Type}{t:JT α}{Q q:α->Ae->Prop}{M:JU}{A:Bf}{E:Ac->Ae->Prop}{s:Ae}(h:Av M A t Q E s)(I:∀a s,Q a s->q a s):Av M A t q E s:=CJ h I λ_ _ x=>x
section
variable {X:Cx}
noncomputable def aHz(i:Nat):TE:=λZ H Q=>∃v,Z[i]? = some (some v)/\Q v H
noncomputable def tC(v:V):TE:=λ_ H Q=>Q v H
theorem nT{i:Nat}{x:Str}{pos:CB}(hN:X.N[i]? = some x)(hv:Vis X.env.scope x)(hd:(x==("__debug__" : Str))=false:=by decide)(q0:(x==("__classdict__" : Str))=false:=by decide):PE X (.Name x pos) (aHz i):=by
 intro G s Z H Q I h;obtain⟨v,e,h⟩:=h;obtain⟨m,hn,hl⟩:=I.loc;obtain⟨u,r,l⟩:=hl i x v hN e hv;have U:EP X G Z Q u s:=⟨v,H,I,r,h⟩
 rcases l with⟨W,hm⟩|⟨W,c,hc,q⟩
 exact HE (wpAny_loadName_local I.ok.kind W hn hm U) hd;rcases W with W|W;exact HE (wpAny_loadName_cell I.ok.kind W hc q U) hd;exact HE (wpAny_loadName_free I.ok.kind W hc q U q0) hd
theorem aEz{i j pos}:PE X (.Constant (.int i) j pos) (tC (.int i)):=λ_ _ _ H _ I h=>wpAny_Constant_int ⟨.int i,H,I.tok _,⟨_,rfl⟩,h⟩
theorem aMH{b j pos}:PE X (.Constant (.bool b) j pos) (tC (.bl b)):=λ_ _ _ H _ I h=>Constant_bool ⟨.bl b,H,I,rfl,h⟩
theorem aJP{j pos}:PE X (.Constant .none j pos) (tC .non):=λ_ _ _ H _ I h=>Constant_none ⟨.non,H,I,rfl,h⟩
theorem aJQ{x j pos}:PE X (.Constant (.str x) j pos) (tC (.str x)):=λ_ _ _ H _ I h=>Calls.Constant_str ⟨.str x,H,I.tok _,⟨_,rfl⟩,h⟩
noncomputable def Gl(X:Cx)(x:Str):Prop:=X.env.kindOf x=some .globalImplicit
theorem vJ{E:Ac->Ae->Prop}{G:List (Ah×Obj)}{s:Ae}{Z:St}{H:Hp}{x:Str}{u:Ac}{pos:CB}{Q:Ac->Ae->Prop}(I:Inv X G Z H s)(q:Gl X x)(U:X.mg x=some u)(h:Q u s)
 (hd:(x==("__debug__" : Str))=false:=by decide):Av (AC X.prog X.w) X.A (DD (.Name x pos) X.env) Q E s:=
 Ev I.ok.kind q (Calls.loadGlobal_global (by rw[I.ok.glob];exact I.mod.glob.keeps I.bk) U h) hd
theorem fE{E:Ac->Ae->Prop}{G:List (Ah×Obj)}{s:Ae}{Z:St}{H:Hp}{x:Str}{u:Ac}{pos:CB}{Q:Ac->Ae->Prop}(I:Inv X G Z H s)(q:Gl X x)(U:X.mg x=none)(hv:BM x=some u)(h:Q u s)
 (W:x ≠ "__name__" := by decide) (hd:(x==("__debug__" : Str))=false:=by decide):Av (AC X.prog X.w) X.A (DD (.Name x pos) X.env) Q E s:=by obtain⟨mb,h1,h2⟩:=I.mod.blt;exact Ev I.ok.kind q (Calls.loadGlobal_builtin (by rw[I.ok.glob];exact I.mod.glob.keeps I.bk) U (by rw[I.ok.blt];exact h1.keeps I.bk) ((h2 x W).trans hv) h) hd
theorem aBE{x:Str}{v:V}{u:Ac}{pos:CB}(q:Gl X x)(U:X.mg x=some u)(r:bZ v u)(hd:(x==("__debug__" : Str))=false:=by decide):PE X (.Name x pos) (tC v):=
 λ_ _ _ H _ I h=>vJ I q U ⟨v,H,I,r,h⟩ hd
variable {a b:As} {ta tb:TE} {pos:CB}
variable {tA tB':TT} {rest:List As}
noncomputable def aPE(t u:TT):TT:=λZ H Q=>t Z H λc H1=>if c=true then u Z H1 Q else Q false H1
noncomputable def tOr(t u:TT):TT:=λZ H Q=>t Z H λc H1=>if c=true then Q true H1 else u Z H1 Q
noncomputable def aPF(t:TT):TT:=λZ H Q=>t Z H λc H1=>Q (!c) H1
theorem aHA(q:PT X a tA):PW X (.BoolOp .And [a] pos) tA:=by
 intro U G s Z H Q I h;refine isTrue_and (thn (q G s Z H Q I h) λc s1 e=>?_);cases c with
 | true=>exact isTrue_and_nil e|false=>exact e
theorem aJR(q:PT X a tA):PW X (.BoolOp .Or [a] pos) tA:=by
 intro U G s Z H Q I h;refine isTrue_or (thn (q G s Z H Q I h) λc s1 e=>?_);cases c with
 | false=>exact isTrue_or_nil e|true=>exact e
theorem aJS(W:PT X a tA)(hb:PW X (.BoolOp .And (b::rest) pos) tB'):PW X (.BoolOp .And (a::b::rest) pos) (aPE tA tB'):=by
 intro wh G s Z H Q I h;refine isTrue_and (thn (W G s Z H _ I h) λc s1 ⟨H1,q,U⟩=>?_);cases c with
 | true=>exact hb wh G s1 Z H1 Q q U|false=>exact⟨H1,q,U⟩
theorem aMI(W:PT X a tA)(hb:PW X (.BoolOp .Or (b::rest) pos) tB'):PW X (.BoolOp .Or (a::b::rest) pos) (tOr tA tB'):=by
 intro wh G s Z H Q I h;refine isTrue_or (thn (W G s Z H _ I h) λc s1 ⟨H1,q,U⟩=>?_);cases c with
 | true=>exact⟨H1,q,U⟩|false=>exact hb wh G s1 Z H1 Q q U
theorem aJT(q:PT X a tA):PT X (.UnaryOp .Not a pos) (aPF tA):=by intro G s Z H Q I h;exact isTrue_not (q G s Z H (λc H1=>Q (!c) H1) I h)
noncomputable def aMJ(ta tb:TE):TE:=λZ H Q=>ta Z H λx H1=>∃c,x=.bl c/\if c=true then tb Z H1 Q else Q (.bl false) H1
noncomputable def aPG(ta tb:TE):TE:=λZ H Q=>ta Z H λx H1=>∃c,x=.bl c/\if c=true then Q (.bl true) H1 else tb Z H1 Q
theorem aEA{op}{t:TE}(h:PE X a t):PE X (.BoolOp op [a] pos) t:=λG s Z H Q I q=>BoolOp_one (h G s Z H Q I q)
theorem aJU(W:PE X a ta)(hb:PE X (.BoolOp .And (b::rest) pos) tb):PE X (.BoolOp .And (a::b::rest) pos) (aMJ ta tb):=by
 intro G s Z H Q I h;refine BoolOp_and (thn (W G s Z H _ I h) λv s1 ⟨x,H1,U,r1,q⟩=>?_);obtain⟨c,rfl,q⟩:=q;cases r1;refine Bs ?_;cases c with
 | true=>exact hb G s1 Z H1 Q U q|false=>exact⟨.bl false,H1,U,rfl,q⟩
theorem aMK(W:PE X a ta)(hb:PE X (.BoolOp .Or (b::rest) pos) tb):PE X (.BoolOp .Or (a::b::rest) pos) (aPG ta tb):=by
 intro G s Z H Q I h;refine BoolOp_or (thn (W G s Z H _ I h) λv s1 ⟨x,H1,U,r1,q⟩=>?_);obtain⟨c,rfl,q⟩:=q;cases r1;refine Bs ?_;cases c with
 | false=>exact hb G s1 Z H1 Q U q|true=>exact⟨.bl true,H1,U,rfl,q⟩
noncomputable def tIf(t:TT)(ta tb:TE):TE:=λZ H Q=>t Z H λc H1=>if c=true then ta Z H1 Q else tb Z H1 Q
theorem aEB{c:As}(hc:PT X c tA)(W:PE X a ta)(hb:PE X b tb):PE X (.IfExp c a b pos) (tIf tA ta tb):=by
 intro G s Z H Q I h;refine wpAny_IfExp (thn (hc G s Z H _ I h) λd s1 ⟨H1,q,U⟩=>?_);cases d with
 | true=>exact W G s1 Z H1 Q q U|false=>exact hb G s1 Z H1 Q q U
end
noncomputable def SqL(K:Aq)(H:Hp)(a:Ah)(xs:List V):Prop:=
 Rd H a (.lst xs) \/
  ∃(o:Obj) (its:Array Ac) (n:Nat),K.lookup a=some o/\o.cls=.type "list" /\ o.dict=none/\o.data=.seq its n/\its.size<=sizeLine/\bC xs its.toList
noncomputable def SqT(K:Aq)(H:Hp)(a:Ah)(xs:List V):Prop:=
 Rd H a (.tup xs) \/
  ∃(o:Obj) (its:Array Ac) (n:Nat),K.lookup a=some o/\o.cls=.type "tuple" /\ o.data=.seq its n/\its.size<=sizeLine/\bC xs its.toList
noncomputable def aPH:Ac->Option V
 | .none=>some .non|.bool b=>some (.bl b)|.int i _=>some (.int i)|.str x _=>some (.str x)|.ref a=>some (.ref a)|.type n=>some (.ty n)|_=>none
theorem bZ.abs{x:V}{u:Ac}(r:bZ x u):aPH u=some x:=by
 cases x with
 | non=>cases r;rfl|bl _=>cases r;rfl|int _=>obtain⟨t,rfl⟩:=r;rfl|str _=>obtain⟨t,rfl⟩:=r;rfl|ref _=>cases r;rfl|ty _=>cases r;rfl
theorem bZ.inj{x y:V}{u:Ac}(r:bZ x u)(q:bZ y u):x=y:=AF (r.abs.symm.trans q.abs)
theorem bC.inj:∀{xs ys:List V} {us:List Ac},bC xs us->bC ys us->xs=ys
 | _,_,_,.nil,.nil=>rfl|_,_,_,.cons r t,.cons r' t'=>by rw[r.inj r',bC.inj t t']
section
variable {X:Cx} {G:List (Ah×Obj)} {Z:St} {H:Hp} {s:Ae} {a:Ah} {xs ys:List V}
theorem SqL.of{K:Aq}(h:H a=some (.lst xs)):SqL K H a xs:=.inl (.inl h)
theorem SqT.of{K:Aq}(h:H a=some (.tup xs)):SqT K H a xs:=.inl (.inl h)
theorem Inv.list(I:Inv X G Z H s)(h:SqL X.K H a xs):∃q:List Ac,bC xs q/\PlainL s.heap a q.toArray/\xs.length<=sizeLine:=by
 rcases h with h|⟨o,q,n,W,U,hd,hs,hz,r⟩
 obtain⟨z,q,n,r,e⟩:=h.ok I.hok;exact⟨q,r,⟨_,n,e,rfl,rfl,rfl⟩,z⟩;refine⟨q.toList,r,⟨o,n,I.kIn a o W,U,hd,by simpa using hs⟩,?_⟩;have e:=r.length;grind
theorem Inv.tuple(I:Inv X G Z H s)(h:SqT X.K H a xs):∃q:List Ac,bC xs q/\IsTup s.heap a q.toArray/\xs.length<=sizeLine:=by
 rcases h with h|⟨o,q,n,W,U,hs,hz,r⟩
 obtain⟨z,q,r,p⟩:=h.ok I.hok;grind;refine⟨q.toList,r,⟨o,I.kIn a o W,U,n,by simpa using hs⟩,?_⟩;have e:=r.length;grind
theorem Inv.list_inj(I:Inv X G Z H s)(h:SqL X.K H a xs)(h':SqL X.K H a ys):xs=ys:=by
 obtain⟨U,r,⟨o,n,e,_,_,d⟩,_⟩:=I.list h;obtain⟨q,r',⟨o',n',e',_,_,W⟩,_⟩:=I.list h';rw[e] at e';cases e';rw[d] at W;injection W with d1 _
 have:U=q:=by grind
 subst this;exact r.inj r'
theorem Inv.tuple_inj(I:Inv X G Z H s)(h:SqT X.K H a xs)(h':SqT X.K H a ys):xs=ys:=by
 obtain⟨U,r,⟨o,e,_,n,d⟩,_⟩:=I.tuple h;obtain⟨q,r',⟨o',e',_,n',W⟩,_⟩:=I.tuple h';rw[e] at e';cases e';rw[d] at W;injection W with d1 _
 have:U=q:=by grind
 subst this;exact r.inj r'
end
abbrev Cx.wish(X:Cx)(E:Ac->Ae->Prop):Cx:={ X with xe:=E }
abbrev Cx.nox(X:Cx):Cx:=X.wish λ_ _=>False
theorem Cx.Ok.wish{X:Cx}(ok:X.Ok)(E:Ac->Ae->Prop):(X.wish E).Ok:=
 ⟨ok.mod,ok.kind,ok.glob,ok.blt,ok.above,ok.inj,ok.has,ok.cab,ok.hd,ok.frames,ok.stk,ok.exf,ok.bs,ok.bsz,ok.noex,ok.exfs,ok.funs,ok.frf⟩
theorem Cx.Ok.unwish{X:Cx}{E:Ac->Ae->Prop}(ok:(X.wish E).Ok):X.Ok:=
 ⟨ok.mod,ok.kind,ok.glob,ok.blt,ok.above,ok.inj,ok.has,ok.cab,ok.hd,ok.frames,ok.stk,ok.exf,ok.bs,ok.bsz,ok.noex,ok.exfs,ok.funs,ok.frf⟩
section
variable {X:Cx} {G:List (Ah×Obj)} {Z:St} {H:Hp} {s:Ae} {E:Ac->Ae->Prop}
theorem Inv.wish(I:Inv X G Z H s)(E:Ac->Ae->Prop):Inv (X.wish E) G Z H s:=⟨I.ok.wish E,I.os,I.bare,I.base,I.loc,I.cell,I.free,I.freeC,I.pin,I.hok,I.len⟩
theorem Inv.unwish(I:Inv (X.wish E) G Z H s):Inv X G Z H s:=⟨I.ok.unwish,I.os,I.bare,I.base,I.loc,I.cell,I.free,I.freeC,I.pin,I.hok,I.len⟩
theorem SP.unwish{D:Ends}{f:Flow}{U:Ae}(h:SP (X.wish E) G D f U):SP X G D f U:=by
 cases f with
 | next=>obtain⟨Z',H',I,q⟩:=h;exact⟨Z',H',I.unwish,q⟩|brk=>obtain⟨Z',H',I,q⟩:=h;exact⟨Z',H',I.unwish,q⟩|cont=>obtain⟨Z',H',I,q⟩:=h;exact⟨Z',H',I.unwish,q⟩|ret u=>obtain⟨v,Z',H',I,r,q⟩:=h;exact⟨v,Z',H',I.unwish,r,q⟩
theorem PSs.nox{st:List Ck}{t:TS}(h:PSs X.nox st t):PSs X st t:=λG s Z H D I U=>CJ (h G s Z H D (I.wish _) U) (λ_ _ q=>q.unwish) λ_ _ z=>D6 z
end
section
variable {X:Cx} {st:Ck} {rest:List Ck} {t u:TS} {e:As} {te:TE} {pos:CB}
noncomputable def aML:TS:=λD Z H=>D.nx Z H
noncomputable def aPI(t u:TS):TS:=λD Z H=>t { D with nx:=u D } Z H
theorem aHB:PSs X [] aML:=λ_ _ Z H _ I h=>Eb ⟨Z,H,I,h⟩
theorem aEC(h1:PS X st t)(h2:PSs X rest u):PSs X (st::rest) (aPI t u):=by
 intro G s Z H D I h;refine wpAny_execs_cons (thn (h1 G s Z H { D with nx:=u D } I h) λf s1 q=>?_);cases f with
 | next=>obtain⟨Z',H',U,q⟩:=q;exact h2 G s1 Z' H' D U q|ret v=>exact q|brk=>exact q|cont=>exact q
theorem Inv.quiet{G:List (Ah×Obj)}{Z:St}{H:Hp}{s:Ae}(I:Inv X G Z H s):Jl X.env=false:=by simp[Jl,I.ok.kind]
noncomputable def aMM(te:TE):TS:=λD Z H=>te Z H λ_ H1=>D.nx Z H1
theorem mI(U:PE X e te)(hs:IM e none pos.line X.env=pure false:=by rfl):PS X (.Expr e pos) (aMM te):=by intro G s Z H D I h;exact wpAny_Expr_any (thn (U G s Z H _ I h) λv s1 ⟨x,H1,q,r1,W⟩=>⟨Z,H1,q,W⟩) I.quiet hs
noncomputable def aPJ(te:TE):TS:=λD Z H=>te Z H D.rt
theorem aAw(U:PE X e te):PS X (.Return (some e) pos) (aPJ te):=by intro G s Z H D I h;exact wpAny_Return_some (thn (U G s Z H _ I h) λv s1 ⟨x,H1,q,r1,W⟩=>⟨x,Z,H1,q,r1,W⟩)
noncomputable def aPK(c:TT)(t u:TS):TS:=λD Z H=>c Z H λb H1=>if b=true then t D Z H1 else u D Z H1
theorem aMN{c:As}{a b:List Ck}{tc:TT}(hc:PT X c tc)(W:PSs X a t)(hb:PSs X b u):PS X (.If c a b pos) (aPK tc t u):=by
 intro G s Z H D I h;refine wpAny_If (thn (hc G s Z H _ I h) λd s1 ⟨H1,q,U⟩=>?_);cases d with
 | true=>exact W G s1 Z H1 D q U|false=>exact hb G s1 Z H1 D q U
noncomputable def aJV:TS:=λ_ _ _=>False
theorem aED:PS X st aJV:=λ_ _ _ _ _ _ h=>h.elim
end
abbrev TG:=V->St->Hp->(St->Hp->Prop)->Prop
abbrev TGs:=List V->St->Hp->(St->Hp->Prop)->Prop
noncomputable def PG(X:Cx)(target:As)(t:TG):Prop:=
 ∀(G:List (Ah×Obj)) (s:Ae) (Z:St) (H:Hp) (v:V) (u:Ac) (Q:St->Hp->Prop),Inv X G Z H s->bZ v u->t v Z H Q ->
  Av (AC X.prog X.w) X.A (HF target X.env u) (λ_ s'=>∃Z' H',Inv X G Z' H' s'/\Q Z' H') X.xe s
noncomputable def PGs(X:Cx)(ts:List As)(t:TGs):Prop:=
 ∀(G:List (Ah×Obj)) (s:Ae) (Z:St) (H:Hp) (vs:List V) (us:List Ac) (Q:St->Hp->Prop),Inv X G Z H s->bC vs us->t vs Z H Q ->
  Av (AC X.prog X.w) X.A (Ix ((Ch ts X.env).map (·.2)) us) (λ_ s'=>∃Z' H',Inv X G Z' H' s'/\Q Z' H') X.xe s
abbrev aJW:=V->V->V->Hp->(Hp->Prop)->Prop
noncomputable def aJX(X:Cx)(t:aJW):Prop:=
 ∀(G:List (Ah×Obj)) (s:Ae) (Z:St) (H:Hp) (o i v:V) (ov iv u:Ac) (Q:Hp->Prop),Inv X G Z H s->bZ o ov->bZ i iv->bZ v u->t o i v H Q ->
  Av (AC X.prog X.w) X.A (setItem ov iv u) (λ_ s'=>∃H',Inv X G Z H' s'/\Q H') X.xe s
section
variable {X:Cx} {pos:CB}
noncomputable def yE(i:Nat):TG:=λv Z H Q=>Q (Z.set i (some v)) H
theorem aBF{i:Nat}{x:Str}(U:X.N.Nodup)(hi:X.N[i]? = some x)(hx:Loc X.env.scope x)(W:X.fn x=true\/X.env.scope.names.lookup x=some .local:=by first|exact .inl rfl|exact .inr rfl|assumption):PG X (.Name x pos) (yE i):=by intro G s Z H v u Q I r h;exact G3 (yD I U hi hx r (λs' q=>⟨_,H,q,h⟩) W)
noncomputable def aMO:TGs:=λvs Z H Q=>vs=[]/\Q Z H
noncomputable def aJj(t:TG)(u:TGs):TGs:=λvs Z H Q=>∃v r,vs=v::r/\t v Z H λZ' H'=>u r Z' H' Q
theorem aHC:PGs X [] aMO:=by intro G s Z H vs us Q I r h;obtain⟨e,h⟩:=h;subst e;cases r;exact assignInOrder_nil ⟨Z,H,I,h⟩
theorem aEE{e:As}{es:List As}{t:TG}{u:TGs}(h1:PG X e t)(h2:PGs X es u)
 (hs:(Ch (e::es) X.env).map (·.2)=HF e X.env::(Ch es X.env).map (·.2):=by rfl):PGs X (e::es) (aJj t u):=by
 intro G s Z H vs us Q I r h;obtain⟨v,vr,W,h⟩:=h;subst W;cases r with
 | cons r rr=>rw[hs];exact assignInOrder_cons (thn (h1 G s Z H _ _ _ I r h) λ_ s1 ⟨U,H1,q,q1⟩=>(h2 G s1 U H1 _ _ Q q rr q1))
noncomputable def aMP(K:Aq)(n:Nat)(t:TGs):TG:=λv Z H Q=>∃a xs,v=.ref a/\SqT K H a xs/\xs.length=n/\t xs Z H Q
theorem aJY{es:List As}{k:Nat}{t:TGs}{n:Nat}(hc:X.calm=true)(h:PGs X es t)
 (hn:(Ch es X.env).length=n:=by rfl) (q:(Ch es X.env).findIdx? (·.1)=none:=by rfl):PG X (.Tuple es k pos) (aMP X.K n t):=by intro G s Z H v u Q I r U;obtain⟨a,xs,W,hq,hl,U⟩:=U;subst W;cases r;obtain⟨q0,rv,ht,hz⟩:=I.tuple hq;exact assign_Tuple_tuple (I.ok.hd hc) ht (by simp[hn,<-hl,rv.length]) q λh' hx=>(h G _ Z H xs _ Q (I.kept λb o e=>hx b o (A8 (An e)) e) (by grind) U)
noncomputable def aPL(to ti:TE)(t:aJW):TG:=λv Z H Q=>to Z H λo H1=>ti Z H1 λi H2=>t o i v H2 λH3=>Q Z H3
theorem aEF{o i:As}{to W:TE}{t:aJW}(ho:PE X o to)(hi:PE X i W)(hs:aJX X t)
 (ha:∀v,HF (.Subscript o i pos) X.env v=(do
  let q<-Fa [v] (DD o X.env)
  let U<-Fa [v,q] (DD i X.env)
  JJ pos
  Fa [v,q,U] (setItem q U v)
  release [v,q,U] []):=by intro _;rfl):PG X (.Subscript o i pos) (aPL to W t):=by intro G s Z H v u Q I r h;rw[ha];refine Aa (AY (thn (ho G s Z H _ I h) λq s1 ⟨x,H1,I1,r1,q1⟩=>?_));refine Aa (AY (thn (hi G s1 Z H1 _ I1 q1) λU s2 ⟨y,H2,I2,r2,q2⟩=>?_));exact Aa (EF (Aa (AY (thn (hs G s2 Z H2 x y v q U u _ I2 r1 r2 r q2) λ_ s3 ⟨H3,I3,q3⟩=>(wpAny_release ⟨Z,H3,I3,q3⟩)))))
noncomputable def aJZ(te:TE)(g:TG):TS:=λD Z H=>te Z H λx H1=>g x Z H1 D.nx
theorem vK{tg e:As}{te:TE}{g:TG}(W:PE X e te)(hg:PG X tg g)(hs:swapsWithSole [tg] e pos.line X.env=pure false:=by rfl)(hw:swappedStores [tg] e X.env=pure none:=by rfl)
 (h1:(Ch [tg] X.env).map (·.2)=[HF tg X.env]:=by rfl):PS X (.Assign [tg] e pos) (aJZ te g):=by intro G s Z H D I h;refine wpAny_Assign_stores (thn (W G s Z H _ I h) λv s1 ⟨x,H1,U,r1,q1⟩=>?_) hs hw;rw[h1];exact thn (hg G s1 Z H1 x v _ U r1 q1) λ_ s2 q=>q
theorem qM{i:Nat}{x:Str}{e:As}{te:TE}{q:CB}(hN:X.N.Nodup)(hi:X.N[i]? = some x)(hx:Loc X.env.scope x)(he:PE X e te)(hs:IM e (some (.Name x q)) pos.line X.env=pure false:=by rfl)(hf:X.fn x=true\/X.env.scope.names.lookup x=some .local:=by first|exact .inl rfl|exact .inr rfl|assumption) :
 PS X (.Assign [.Name x q] e pos) (aJZ te (yE i)):=by intro G s Z H D I h;exact wpAny_Assign_Name (thn (he G s Z H _ I h) λv s1 ⟨y,H1,U,r1,q1⟩=>(yD U hN hi hx r1 (λs2 W=>⟨_,H1,W,q1⟩) hf)) hs
noncomputable def aKa(c:TT)(tb:TS):TS:=λD Z H=>∃W0:Nat->St->Hp->Prop,(∃m,W0 m Z H)/\∀m Z H,W0 m Z H ->
 c Z H λb H1=>if b=true then ∃N:St->Hp->Prop,(∀Z' H',N Z' H'->∃m',m'<m/\W0 m' Z' H')/\tb { D with nx:=N,ct:=N,bk:=D.nx } Z H1 else D.nx Z H1
theorem aEG{c:As}{body:List Ck}{tc:TT}{tb:TS}(hp:PassesOwn (AC X.prog X.w) X.A X.env X.xe)(hc:PT X c tc)(hb:PSs X body tb):PS X (.While c body [] pos) (aKa tc tb):=by
 intro G s Z H D I h;obtain⟨W0,⟨m0,w0⟩,q⟩:=h;refine wpAny_While (codeAny_whileLoop (λn s'=>∃Z' H',Inv X G Z' H' s'/\W0 n Z' H') ?_ m0 ⟨Z,H,I,w0⟩);rintro n s1 ⟨U,H1,I1,w1⟩;refine C3 hp (thn (hc G s1 U H1 _ I1 (q n U H1 w1)) λb s2 ⟨H2,I2,W⟩=>?_);cases b with
 | true=>
  obtain⟨N,hN,W⟩:=W;rw[if_pos rfl];refine C3 hp (thn (hb G s2 U H2 _ I2 W) λf s3 q3=>?_);cases f with
  | next=>obtain⟨Z3,H3,I3,n3⟩:=q3;grind|cont=>obtain⟨Z3,H3,I3,n3⟩:=q3;grind|brk=>exact q3|ret v=>exact q3
 | false=>rw[if_neg D5];exact Eb ⟨U,H2,I2,W⟩
end
structure It where
 go:Nat->Hp->Prop
 yld:Nat->Hp->V->Hp->Prop
 stop:Nat->Hp->Prop
noncomputable def mJ(X:Cx)(G:List (Ah×Obj))(H:Hp)(b:Ah):Prop:=
 H b=none/\b≠X.env.locals/\b∉X.fs/\(b∈X.ex\/X.s₀.heap.objs.size<=b)/\(∀x c,X.env.cells.lookup x=some c->c≠b)/\∀p∈X.pn++G,p.1≠b
theorem Inv.fpOk{X:Cx}{G:List (Ah×Obj)}{Z:St}{H H':Hp}{s:Ae}{b:Ah}(I:Inv X G Z H s)(U:s.heap.objs.size<=b)(W:H' b=none):mJ X G H' b:=by refine⟨W,BY (A6 I.lt U),I.nofs U,.inr (AL I.sz U),λx c e z=>?_,λp hp z=>?_⟩;obtain⟨v,q⟩:=I.cell x c e;exact absurd (A6 q.lt (by rw[z];exact U)) (B1 _);exact absurd (A6 (An (I.pin p hp).1) (by rw[z];exact U)) (B1 _)
structure vL (P:Ay) (w:AJ) (K:Aq) (tg:As) (J'':It) (fp:List Ah) (it:Ah) (tn:Nat->Heap->Prop):Prop where
 mem:it∈fp
 obj:∀i h,tn i h->∀b∈fp,∃o,h.get? b=some o/\∀v,o.data≠.cell v
 keep:∀i h h',tn i h->(∀b∈fp,∀o,h.get? b=some o->h'.get? b=some o)->tn i h'
 item:∀(X:Cx),X.prog=P->X.w=w->X.K=K->X.calm=true->∀(i:Nat) (G:List (Ah×Obj)) (s:Ae) (Z:St) (H:Hp) (E:Ac->Ae->Prop),Inv X G Z H s->(∀b∈fp,mJ X G H b)->tn i s.heap->J''.go i H ->
  Av (AC P w) X.A (CY (.ref it)) (λr s1=>∃u,r=some u /\
   Av (AC P w) X.A (Ec tg (.ref it) u) (λ_ s2=>∃x H',Inv X G Z H' s2/\bZ x u/\J''.yld i H x H'/\tn (i+1) s2.heap/\∀b∈fp,H' b=none) E s1) E s
 done:∀(X:Cx),X.prog=P->X.w=w->X.K=K->X.calm=true->∀(i:Nat) (G:List (Ah×Obj)) (s:Ae) (Z:St) (H:Hp) (E:Ac->Ae->Prop),Inv X G Z H s->(∀b∈fp,mJ X G H b)->tn i s.heap->J''.stop i H ->
  Av (AC P w) X.A (CY (.ref it)) (λr s1=>r=none/\Inv X G Z H s1) E s
 self:∀(A:Bf) (i:Nat) (s:Ae) (Q:Ac->Ae->Prop) (E:Ac->Ae->Prop),tn i s.heap->Q (.ref it) s->Av (AC P w) A (Gh (.ref it)) Q E s
abbrev TI:=St->Hp->(It->Hp->Prop)->Prop
noncomputable def PIE(X:Cx)(G:List (Ah×Obj))(Z:St)(tg:As)(R:It->Hp->Prop)(itv:Ac)(s2:Ae):Prop:=
 ∃(it:Ah) (fp:List Ah) (tn:Nat->Heap->Prop) (J'':It) (H':Hp),itv=.ref it/\Inv X G Z H' s2/\vL X.prog X.w X.K tg J'' fp it tn/\tn 0 s2.heap/\(∀b∈fp,mJ X G H' b)/\R J'' H'
noncomputable def PI(X:Cx)(tg iter:As)(wi:TI):Prop:=
 ∀(G:List (Ah×Obj)) (s:Ae) (Z:St) (H:Hp) (R:It->Hp->Prop),Inv X G Z H s->wi Z H R ->
  Av (AC X.prog X.w) X.A (DD iter X.env) (λv s1=>Av (AC X.prog X.w) X.A (Gh v) (PIE X G Z tg R) X.xe s1) X.xe s
theorem oY{M:JU}{A:Bf}{E:Ac->Ae->Prop}{s:Ae}{tg:As}{it:Ah}{u:Ac}{o:Obj}{n:String}{vs:Array Ac}{Q:Unit->Ae->Prop}(W:s.heap.get? it=some o)(I:o.cls=.type n)(hd:o.data=.fields vs)
 (U:["enumerate", "zip", "dict_itemiterator", "dict_reverseitemiterator", "odict_iterator", "itertools.zip_longest", "itertools.pairwise"].contains n=false) (q:Q () s):Av M A (Ec tg (.ref it) u) Q E s:=by
 unfold Ec;cases tg <;> first
  | exact Af q
  | (cases u <;> first
   | exact Af q
   | (refine Aa (wpAny_load W ?_)
      rw[I,hd];show Av M A (if (["enumerate", "zip", "dict_itemiterator", "dict_reverseitemiterator", "odict_iterator", "itertools.zip_longest", "itertools.pairwise"].contains n&&vs[0]?==some (Ca _))=true then _ else _) Q E s;rw[if_neg (by intro h;rw[U,HG] at h;cases h)];exact Af q))
noncomputable def Itl(K:Aq)(a:Ah):It:=
 ⟨λi H=>∃xs x,SqL K H a xs/\xs[i]? = some x,λi H x H'=>H'=H/\∀xs,SqL K H a xs->xs[i]? = some x,λi H=>∃xs,SqL K H a xs/\xs.length<=i⟩
noncomputable def Itt(K:Aq)(a:Ah):It:=
 ⟨λi H=>∃xs x,SqT K H a xs/\xs[i]? = some x,λi H x H'=>H'=H/\∀xs,SqT K H a xs->xs[i]? = some x,λi H=>∃xs,SqT K H a xs/\xs.length<=i⟩
noncomputable def Itr(lo:Int)(n:Nat):It:=⟨λi _=>i<n,λi H x H'=>H'=H/\x=.int (lo+i),λi _=>n<=i⟩
theorem aDd{P:Ay}{w:AJ}{K:Aq}{tg:As}(a it:Ah):vL P w K tg (Itl K a) [it] it (λi h=>h.IsListIter it a i) where
 mem:=by simp
 obj:=λi h st b q=>by
  have e:b=it:=by grind
  subst e;obtain⟨o,e,c,d⟩:=st;grind
 keep:=λi h h' st k=>st.at λo e=>k it (by simp) o e
 item:=by intro X hP hw hK hc i G s Z H E I W st hg;subst hP hw hK;obtain⟨xs,x,hq,hx⟩:=hg;obtain⟨q0,rv,p,hz⟩:=I.list hq;obtain⟨u,hu,ru⟩:=rv.get hx;obtain⟨f0,f1,f2,f3,f4,f5⟩:=W it (by simp);refine CK st p.isList (x:=u) (by grind) λh' U sb=>?_;obtain⟨o,e,c,d⟩:=id U;exact⟨u,rfl,oY e c d (by decide) ⟨x,H,(I.turned (λb o q e=>(sb.2 b q).trans e) f0 f1 f3 f4 f5),ru,⟨rfl,λys hy=>by rw[I.list_inj hy hq];exact hx⟩,U,λb q=>(W b q).1⟩⟩
 done:=by intro X hP hw hK hc i G s Z H E I W st hg;subst hP hw hK;obtain⟨xs,hq,hx⟩:=hg;obtain⟨q0,rv,p,hz⟩:=I.list hq;obtain⟨f0,f1,f2,f3,f4,f5⟩:=W it (by simp);have hl:=rv.length;exact DN (I.ok.hd hc) st p.isList (by simp;omega) λh' eb=>⟨rfl,I.turned (λb o q e=>eb b o q e) f0 f1 f3 f4 f5⟩
 self:=λ_ _ _ _ _ st h=>wpAny_pyIter_listiter st h
theorem aAx{P:Ay}{w:AJ}{K:Aq}{tg:As}(a it:Ah):vL P w K tg (Itt K a) [it] it (λi h=>h.IsTupleIter it a i) where
 mem:=by simp
 obj:=λi h st b q=>by
  have e:b=it:=by grind
  subst e;obtain⟨o,e,c,d⟩:=st;grind
 keep:=λi h h' st k=>st.at λo e=>k it (by simp) o e
 item:=by intro X hP hw hK hc i G s Z H E I W st hg;subst hP hw hK;obtain⟨xs,x,hq,hx⟩:=hg;obtain⟨q0,rv,p,hz⟩:=I.tuple hq;obtain⟨u,hu,ru⟩:=rv.get hx;obtain⟨f0,f1,f2,f3,f4,f5⟩:=W it (by simp);refine wpAny_pyNext_tuple_item st (p) (x:=u) (by grind) λh' U sb=>?_;obtain⟨o,e,c,d⟩:=id U;exact⟨u,rfl,oY e c d (by decide) ⟨x,H,(I.turned (λb o q e=>(sb.2 b q).trans e) f0 f1 f3 f4 f5),ru,⟨rfl,λys hy=>by rw[I.tuple_inj hy hq];exact hx⟩,U,λb q=>(W b q).1⟩⟩
 done:=by intro X hP hw hK hc i G s Z H E I W st hg;subst hP hw hK;obtain⟨xs,hq,hx⟩:=hg;obtain⟨q0,rv,p,hz⟩:=I.tuple hq;obtain⟨f0,f1,f2,f3,f4,f5⟩:=W it (by simp);have hl:=rv.length;exact wpAny_pyNext_tuple_end (I.ok.hd hc) st (p) (by simp;omega) λh' eb=>⟨rfl,I.turned (λb o q e=>eb b o q e) f0 f1 f3 f4 f5⟩
 self:=λ_ _ _ _ _ st h=>wpAny_pyIter_tupleiter st h
theorem aAy{P:Ay}{w:AJ}{K:Aq}{tg:As}(it:Ah)(lo:Int)(n:Nat):vL P w K tg (Itr lo n) [it] it (λi h=>Hg h it (lo+(i:Nat)*1) ((n:Int)-(i:Nat)) 1) where
 mem:=by simp
 obj:=λi h st b q=>by grind
 keep:=λi h h' st k=>k it (by simp) _ st
 item:=by intro X hP hw hK hc i G s Z H E I W st hg;subst hP hw hK;obtain⟨f0,f1,f2,f3,f4,f5⟩:=W it (by simp);refine(Jm (I.ok.hd hc) it lo 1 n).item i s _ _ hg st λv h' tk hv U kk=>?_;obtain⟨t,rfl⟩:=hv;refine⟨_,rfl,oY U rfl rfl (by decide) ⟨.int (lo+i),H,(I.turned (λb o q e=>kk b o (by grind) e) f0 f1 f3 f4 f5),⟨t,?_⟩,⟨rfl,rfl⟩,U,λb q=>(W b q).1⟩⟩;rw[Int.mul_one]
 done:=by intro X hP hw hK hc i G s Z H E I W st hg;subst hP hw hK;obtain⟨f0,f1,f2,f3,f4,f5⟩:=W it (by simp);exact Fb (I.ok.hd hc) st (by have:n<=i:=hg;omega) λh' eb=>⟨rfl,I.turned (λb o q e=>eb b o q e) f0 f1 f3 f4 f5⟩
 self:=λ_ _ _ _ _ st h=>Fc st h
section
variable {X:Cx} {tg:As}
theorem yF{G:List (Ah×Obj)}{Z:St}{H:Hp}{s:Ae}{R:It->Hp->Prop}{E:Ac->Ae->Prop}{lo hi:Int}{t u v:HA}{tk:Nat}(I:Inv X G Z H s)(h1:-(2 ^ 62)<=lo)(h2:lo<2 ^ 62)(h3:-(2 ^ 62)<=hi)(h4:hi<2 ^ 62)
 (q:R (Itr lo (hi-lo).toNat) H):Av (AC X.prog X.w) X.A (Gh (.ref s.heap.objs.size)) (PIE X G Z tg R) E { s with heap:=s.heap.push { cls:=.type "range",data:=.fields #[.int lo t,.int hi u,.int 1 v] },toks:=tk }:=by
 refine Gi (Jn ..) (small_one h1 h2 h3 h4) ?_;have U:Inv X G Z H { s with heap:=s.heap.push { cls:=.type "range",data:=.fields #[.int lo t,.int hi u,.int 1 v] },toks:=tk }:=I.kept λb o e=>Ab _ e;refine⟨(s.heap.push { cls:=.type "range",data:=.fields #[.int lo t,.int hi u,.int 1 v] }).objs.size,[(s.heap.push { cls:=.type "range",data:=.fields #[.int lo t,.int hi u,.int 1 v] }).objs.size],_,_,H,rfl,
  U.kept λb o e=>Ab _ e,aAy _ lo (hi-lo).toNat,?_,λb hb=>?_,q⟩
 have W:lo+((0:Nat):Int)*1=lo:=by simp
 have e2:(((hi-lo).toNat:Nat):Int)-((0:Nat):Int)=BH lo hi 1:=by rw[rangeSize_one];grind
 rw[W,e2];exact Aj _ rfl;have e:b=(s.heap.push { cls:=.type "range",data:=.fields #[.int lo t,.int hi u,.int 1 v] }).objs.size:=by grind
 subst e;exact U.fpOk (Ap _) (U.hok.fresh (Ap _))
noncomputable def aMQ(ta:TA):TI:=λZ H R=>ta Z H λvs H1=>∃j:Int,vs=[.int j]/\-(2 ^ 62)<=j/\j<2 ^ 62/\R (Itr 0 j.toNat) H1
noncomputable def aMR(ta:TA):TI:=λZ H R=>ta Z H λvs H1=>∃i j:Int,vs=[.int i,.int j]/\(-(2 ^ 62)<=i/\i<2 ^ 62/\-(2 ^ 62)<=j/\j<2 ^ 62)/\R (Itr i (j-i).toNat) H1
theorem aDe{a:As}{W:TA}{p pos:CB}(hg:Gl X "range")(hm:X.mg "range" = none)(ha:PA X [a] W)(hs:Bq [a] X.env=[(false,DD a X.env)]:=by rfl):PI X tg (.Call (.Name "range" p) [a] [] pos) (aMQ W):=by
 intro G s Z H R I h;refine JK (fE I hg hm HH (Bh (thn (ha pos G s Z H _ I h) λus s1 ⟨vs,H1,I1,r1,U⟩=>?_) hs rfl));obtain⟨j,e,U,q2,q⟩:=U;subst e;cases r1 with
 | cons r rr=>cases rr;obtain⟨t,rfl⟩:=r;exact call_range_1 (yF I1 (by omega) (by omega) U q2 (by simpa using q))
theorem aDf{a b:As}{ta:TA}{p pos:CB}(hg:Gl X "range")(hm:X.mg "range" = none)(ha:PA X [a,b] ta)(hs:Bq [a,b] X.env=[(false,DD a X.env),(false,DD b X.env)]:=by rfl)(U:Bq [b] X.env=[(false,DD b X.env)]:=by rfl) :
 PI X tg (.Call (.Name "range" p) [a,b] [] pos) (aMR ta):=by
 intro G s Z H R I h;refine JK (fE I hg hm HH (Bh (thn (ha pos G s Z H _ I h) λus s1 ⟨vs,H1,I1,r1,W⟩=>?_) (by rw[hs,U]) (by rw[U];rfl)));obtain⟨i,j,e,⟨W,q2,q3,q4⟩,q⟩:=W;subst e;cases r1 with
 | cons r rr=>
  cases rr with
  | cons r' rr=>cases rr;obtain⟨t,rfl⟩:=r;obtain⟨t',rfl⟩:=r';exact call_range_2 (yF I1 W q2 q3 q4 q)
noncomputable def aPM(wi:TI)(g:TG)(tb:TS):TS:=λD Z H=>wi Z H λJ'' H1=>∃W0:Nat->Nat->St->Hp->Prop,(∃m,W0 0 m Z H1)/\∀i m Z H,W0 i m Z H ->
 (J''.stop i H/\D.nx Z H)\/(J''.go i H/\∃N:St->Hp->Prop,(∀Z' H',N Z' H'->∃m',m'<m/\W0 (i+1) m' Z' H')/\∀x H',J''.yld i H x H'->g x Z H' λZ2 H2=>tb { D with nx:=N,ct:=N,bk:=D.nx } Z2 H2)
noncomputable def qN(fp:List Ah)(h:Heap):List (Ah×Obj):=fp.filterMap λb=>(h.get? b).map λo=>(b,o)
theorem iV{fp:List Ah}{h:Heap}{b:Ah}{o:Obj}(q:b∈fp)(e:h.get? b=some o):(b,o)∈qN fp h:=CL.mpr ⟨b,q,by rw[e];rfl⟩
theorem aDg{fp:List Ah}{h:Heap}{p:Ah×Obj}(I:p∈qN fp h):p.1∈fp/\h.get? p.1=some p.2:=by
 obtain⟨b,U,e⟩:=CL.mp I;cases q:h.get? b with
 | none=>rw[q] at e;cases e|some o=>rw[q] at e;grind
theorem Inv.pinned{G:List (Ah×Obj)}{Z:St}{H:Hp}{s:Ae}{fp:List Ah}(I:Inv X G Z H s)(U:∀b∈fp,mJ X G H b)(ho:∀b∈fp,∃o,s.heap.get? b=some o/\∀v,o.data≠.cell v):Inv X (G++qN fp s.heap) Z H s:=
 I.pins_of λp W=>(Bl.mp W).elim (λz=>I.pin p (A4 _ z)) λz=>by obtain⟨q,e⟩:=aDg z;obtain⟨f0,f1,f2,_⟩:=U p.1 q;grind
theorem Inv.unpinned{G pl:List (Ah×Obj)}{Z:St}{H:Hp}{s:Ae}(I:Inv X (G++pl) Z H s):Inv X G Z H s:=I.pins_of λp q=>I.pin p (A4 _ (AN _ q))
theorem aKb{q0:As}{body:List Ck}{wi:TI}{g:TG}{tb:TS}{pos:CB}(hp:PassesOwn (AC X.prog X.w) X.A X.env X.xe)(hc:X.calm=true)(hi:PI X tg q0 wi)(hg:PG X tg g)(W:PSs X body tb)
 (hs:∀x,Cd q0 X.env x=pure x:=by intro _;rfl):PS X (.For tg q0 body [] pos) (aPM wi g tb):=by
 intro G s Z H D I h;refine wpAny_For (thn (hi G s Z H _ I h) λv s1 h1=>thn h1 λw5 s2 h2=>?_) hs;obtain⟨it,fp,tn,J'',H2,e,I2,T,w4,f2,W0,⟨m0,w0⟩,q5⟩:=h2;subst e;have q1:∀{H':Hp},(∀b∈fp,H' b=none)->∀b∈fp,mJ X G H' b:=λhn b W=>⟨hn b W,(f2 b W).2⟩
 refine codeAny_forLoop_any (λn s'=>∃i Z' H',Inv X G Z' H' s'/\tn i s'.heap/\(∀b∈fp,H' b=none)/\W0 i n Z' H') ?_ m0 ⟨0,Z,H2,I2,w4,λb W=>(f2 b W).1,w0⟩;rintro n s3 ⟨i,Z3,H3,I3,q4,q3,w3⟩;rcases q5 i n Z3 H3 w3 with⟨stop,qn⟩|⟨go,N,hN,step⟩
 refine C3 hp (thn (T.done X rfl rfl rfl hc i G s3 Z3 H3 X.xe I3 (q1 q3) q4 stop) λr s4 ⟨hr,I4⟩=>?_);subst hr;exact Eb ⟨Z3,H3,I4,qn⟩;refine C3 hp (thn (T.item X rfl rfl rfl hc i G s3 Z3 H3 X.xe I3 (q1 q3) q4 go) λr s4 ⟨u,hr,h4⟩=>?_);subst hr;refine C3 hp (thn h4 λ_ s5 ⟨x,H5,I5,r5,y5,q2,q9⟩=>?_);refine C3 hp (thn (hg _ s5 Z3 H5 x u _ (I5.pinned (q1 q9) (T.obj _ _ q2)) r5 (step x H5 y5)) λ_ s6 ⟨Z6,H6,I6,q6⟩=>?_);refine C3 hp (thn (W _ s6 Z6 H6 _ I6 q6) λf s7 q7=>?_);have q8:∀{U:St} {q:Hp},Inv X (G++qN fp s5.heap) U q s7->N U q->∃m,m<n/\∃i Z' H',Inv X G Z' H' s7/\tn i s7.heap/\(∀b∈fp,H' b=none)/\W0 i m Z' H':=λ{U q} I7 n7=>by obtain⟨m',hm,w7⟩:=hN U q n7;refine⟨m',hm,i+1,U,q,I7.unpinned,T.keep _ _ _ q2 λb W o e=>(I7.pin (b,o) (A4 _ (A4 _ (iV W e)))).1,λb W=>?_,w7⟩;obtain⟨o,e,d⟩:=T.obj _ _ q2 b W;exact(I7.pin (b,o) (A4 _ (A4 _ (iV W e)))).2.1
 cases f with
 | next=>obtain⟨U,q,I7,n7⟩:=q7;grind|cont=>obtain⟨U,q,I7,n7⟩:=q7;grind|brk=>obtain⟨U,q,I7,q7⟩:=q7;exact⟨U,q,I7.unpinned,q7⟩|ret v=>obtain⟨x7,U,q,I7,r7,q7⟩:=q7;exact⟨x7,U,q,I7.unpinned,r7,q7⟩
end
abbrev R2:=V->V->Hp->VK->Prop
noncomputable def OpR(X:Cx)(f:Ac->Ac->JT Ac)(r:R2):Prop:=
 ∀(G:List (Ah×Obj)) (s:Ae) (Z:St) (H:Hp) (x y:V) (v u:Ac) (Q:VK),Inv X G Z H s->bZ x v->bZ y u->r x y H Q ->
  Av (AC X.prog X.w) X.A (f v u) (EP X G Z Q) X.xe s
noncomputable def UnR(X:Cx)(f:Ac->JT Ac)(r:V->Hp->VK->Prop):Prop:=
 ∀(G:List (Ah×Obj)) (s:Ae) (Z:St) (H:Hp) (x:V) (v:Ac) (Q:VK),Inv X G Z H s->bZ x v->r x H Q ->
  Av (AC X.prog X.w) X.A (f v) (EP X G Z Q) X.xe s
noncomputable def gG(X:Cx)(f:Ac)(r:List V->Hp->VK->Prop):Prop:=
 ∀(G:List (Ah×Obj)) (s:Ae) (Z:St) (H:Hp) (xs:List V) (us:List Ac) (Q:VK),Inv X G Z H s->bC xs us->r xs H Q ->
  Av (AC X.prog X.w) X.A (call f us) (EP X G Z Q) X.xe s
noncomputable def aPN(X:Cx)(r:V->Hp->(Bool->Hp->Prop)->Prop):Prop:=
 ∀(G:List (Ah×Obj)) (s:Ae) (Z:St) (H:Hp) (x:V) (v:Ac) (Q:Bool->Hp->Prop),Inv X G Z H s->bZ x v->r x H Q ->
  Av (AC X.prog X.w) X.A (truthy v) (TP X G Z Q) X.xe s
noncomputable def tOp(r:R2)(ta tb:TE):TE:=λZ H Q=>ta Z H λx H1=>tb Z H1 λy H2=>r x y H2 Q
noncomputable def tUn(r:V->Hp->VK->Prop)(ta:TE):TE:=λZ H Q=>ta Z H λx H1=>r x H1 Q
noncomputable def rI(C:Int->Int->Prop)(g:Int->Int->V):R2:=λx y H Q=>∃i j,x=.int i/\y=.int j/\C i j/\Q (g i j) H
noncomputable def rI0(g:Int->Int->V):R2:=λx y H Q=>∃i j,x=.int i/\y=.int j/\Q (g i j) H
noncomputable def rU(g:Int->V):V->Hp->VK->Prop:=λx H Q=>∃i,x=.int i/\Q (g i) H
section
variable {X:Cx} {a b c:As} {ta tb tc:TE} {pos:CB}
theorem aMS(ha:PE X a ta)(hb:PE X b tb){G:List (Ah×Obj)}{s:Ae}{Z:St}{H:Hp}{R:V->V->Hp->Prop}(I:Inv X G Z H s)
 (h:ta Z H λx H1=>tb Z H1 λy q=>R x y q) {Q:Ac->Ae->Prop} {f:Ac->Ac->JT Ac}
 (hf:∀v u s2 x y q,Inv X G Z q s2->bZ x v->bZ y u->R x y q->Av (AC X.prog X.w) X.A (f v u) Q X.xe s2) :
 Av (AC X.prog X.w) X.A (DD a X.env) (λv U=>Av (AC X.prog X.w) X.A (DD b X.env) (λu W=>Av (AC X.prog X.w) X.A (f v u) Q X.xe W) X.xe U) X.xe s:=by refine thn (ha G s Z H _ I h) λv s1 ⟨x,H1,I1,r1,q1⟩=>?_;refine thn (hb G s1 Z H1 _ I1 q1) λu s2 ⟨y,q,I2,r2,q2⟩=>?_;grind
theorem aMT{op:UnaryOp}{r:V->Hp->VK->Prop}(W:UnR X (unaryOp op) r)(U:PE X a ta):PE X (.UnaryOp op a pos) (tUn r ta):=by intro G s Z H Q I h;exact UnaryOp_ (thn (U G s Z H _ I h) λv s1 ⟨x,H1,q,r1,q1⟩=>W G s1 Z H1 x v Q q r1 q1)
theorem opI{f:Ac->Ac->JT Ac}{C:Int->Int->Prop}{g:Int->Int->Int}
 (U:∀(i j:Int) (t u:HA) (s:Ae) (Q:Ac->Ae->Prop) (E:Ac->Ae->Prop),C i j->Q (.int (g i j) s.toks) { s with toks:=s.toks+1 }->Av (AC X.prog X.w) X.A (f (.int i t) (.int j u)) Q E s) :
 OpR X f (rI C λi j=>.int (g i j)):=by intro G s Z H x y v u Q I rx ry h;obtain⟨i,j,rfl,rfl,W,q⟩:=h;obtain⟨t,rfl⟩:=rx;obtain⟨t',rfl⟩:=ry;exact U i j t t' s _ _ W ⟨.int (g i j),H,I.tok _,⟨_,rfl⟩,q⟩
theorem aMU{f:Ac->Ac->JT Ac}{g:Int->Int->Int}
 (U:∀(i j:Int) (t u:HA) (s:Ae) (Q:Ac->Ae->Prop) (E:Ac->Ae->Prop),Q (.int (g i j) s.toks) { s with toks:=s.toks+1 }->Av (AC X.prog X.w) X.A (f (.int i t) (.int j u)) Q E s) :
 OpR X f (rI0 λi j=>.int (g i j)):=by intro G s Z H x y v u Q I W ry h;obtain⟨i,j,rfl,rfl,q⟩:=h;obtain⟨t,rfl⟩:=W;obtain⟨t',rfl⟩:=ry;exact U i j t t' s _ _ ⟨.int (g i j),H,I.tok _,⟨_,rfl⟩,q⟩
theorem aHD{f:Ac->Ac->JT Ac}{g:Int->Int->Bool}
 (U:∀(i j:Int) (t u:HA) (s:Ae) (Q:Ac->Ae->Prop) (E:Ac->Ae->Prop),Q (.bool (g i j)) s->Av (AC X.prog X.w) X.A (f (.int i t) (.int j u)) Q E s) :
 OpR X f (rI0 λi j=>.bl (g i j)):=by intro G s Z H x y v u Q I W ry h;obtain⟨i,j,rfl,rfl,q⟩:=h;obtain⟨t,rfl⟩:=W;obtain⟨t',rfl⟩:=ry;exact U i j t t' s _ _ ⟨.bl (g i j),H,I,rfl,q⟩
noncomputable def aPO(i j:Int):Prop:=0<j/\j<1073741824
noncomputable def aKc(i j:Int):Prop:=(-(2 ^ 64)<i/\i<2 ^ 64)\/(-(2 ^ 64)<j/\j<2 ^ 64)
theorem aKc.ok{i j:Int}(h:aKc i j):IntMulOk i j:=by
 rcases h with⟨h1,h2⟩|⟨h1,h2⟩
 exact .of_left (Iy h1 h2);exact .of_right (Iy h1 h2)
theorem aKd:OpR X (Dv .Add) (rI0 λi j=>.int (i+j)):=aMU λ_ _ _ _ _ _ _ q=>add_int q
theorem aKe:OpR X (Dv .Sub) (rI0 λi j=>.int (i-j)):=aMU λ_ _ _ _ _ _ _ q=>sub_int q
theorem aKf:OpR X (Dv .Mult) (rI aKc λi j=>.int (i*j)):=opI λ_ _ _ _ _ _ _ I q=>mul_int q I.ok
theorem aHE:OpR X (Dv .FloorDiv) (rI aPO λi j=>.int (i / j)):=opI λi j _ _ _ _ _ I q=>by have h1:=I.1;have h2:=I.2;exact floordiv_int (by omega) (by rw[Int.fdiv_eq_ediv_of_nonneg i (by omega)];exact q) (.inl (Fd (by omega)))
theorem aKg:OpR X (Dv .Mod) (rI (λ_ j=>0<j) λi j=>.int (i % j)):=opI λi j _ _ _ _ _ I q=>by exact mod_int' (by omega) (by rw[Int.fmod_eq_emod_of_nonneg i (by omega)];exact q)
theorem unI{f:Ac->JT Ac}{g:Int->Int}
 (U:∀(i:Int) (t:HA) (s:Ae) (Q:Ac->Ae->Prop) (E:Ac->Ae->Prop),Q (.int (g i) s.toks) { s with toks:=s.toks+1 }->Av (AC X.prog X.w) X.A (f (.int i t)) Q E s) :
 UnR X f (rU λi=>.int (g i)):=by intro G s Z H x v Q I W h;obtain⟨i,rfl,q⟩:=h;obtain⟨t,rfl⟩:=W;exact U i t s _ _ ⟨.int (g i),H,I.tok _,⟨_,rfl⟩,q⟩
theorem aKh:UnR X (unaryOp .USub) (rU λi=>.int (-i)):=unI λ_ _ _ _ _ q=>neg_int q
theorem aAz{G:List (Ah×Obj)}{Z:St}{H:Hp}{s:Ae}{Q:VK}{k U:Bool}(I:Inv X G Z H s)(q:Q (.bl k) H)(e:k=U):EP X G Z Q (.bool U) s:=by subst e;exact⟨.bl k,H,I,rfl,q⟩
theorem aMV:OpR X (BE .Lt) (rI0 λi j=>.bl (decide (i<j))):=aHD λ_ _ _ _ _ _ _ q=>lt_int q
theorem aMW:OpR X (BE .LtE) (rI0 λi j=>.bl (decide (i<=j))):=aHD λ_ _ _ _ _ _ _ q=>le_int q
theorem aMX:OpR X (BE .Gt) (rI0 λi j=>.bl (decide (j<i))):=aHD λ_ _ _ _ _ _ _ q=>gt_int q
theorem aMY:OpR X (BE .GtE) (rI0 λi j=>.bl (decide (j<=i))):=aHD λ_ _ _ _ _ _ _ q=>ge_int q
theorem aDh:OpR X (BE .In) (λx y H Q=>∃i j,x=.str i/\y=.str j/\Q (.bl (!(EO j i 0 j.length 1).isEmpty)) H):=by intro G s Z H x y v u Q I U W h;obtain⟨i,j,rfl,rfl,q⟩:=h;obtain⟨t,rfl⟩:=U;obtain⟨t',rfl⟩:=W;exact in_str (aAz I q rfl)
theorem aKi:OpR X (BE .Is) (λx y H Q=>y=.non/\Q (.bl (decide (x=.non))) H):=by
 intro G s Z H x y v u Q I U W h;obtain⟨rfl,q⟩:=h;cases W;refine is_none_gen (aAz I q ?_);cases x <;> first
  | (cases U;rfl)
  | (obtain⟨t,rfl⟩:=U;rfl)
theorem aHF:OpR X (BE .IsNot) (λx y H Q=>y=.non/\Q (.bl (!decide (x=.non))) H):=by
 intro G s Z H x y v u Q I U W h;obtain⟨rfl,q⟩:=h;cases W;refine isnot_none_gen (aAz I q ?_);cases x <;> first
  | (cases U;rfl)
  | (obtain⟨t,rfl⟩:=U;rfl)
theorem aBG{op:CmpOp}{r:R2}(ho:OpR X (BE op) r)(ha:PE X a ta)(hb:PE X b tb)(hm:FZ op b=false):PE X (.Compare a [op] [b] pos) (tOp r ta tb):=by intro G s Z H Q I h;exact wpAny_Compare1 (aMS ha hb I h λv u s2 x y U W rx ry q=>ho G s2 Z U x y v u Q W rx ry q) hm
noncomputable def aJk(t:TE):TT:=λZ H Q=>t Z H λx H'=>∃k,x=.bl k/\Q k H'
theorem aBH{op:CmpOp}{r:R2}(ho:OpR X (BE op) r)(ha:PE X a ta)(hb:PE X b tb)(hm:FZ op b=false):PT X (.Compare a [op] [b] pos) (aJk (tOp r ta tb)):=by
 intro G s Z H Q I h;refine wpAny_isTrue_Compare1 (thn (ha G s Z H _ I h) λv s1 ⟨x,H1,W,r1,q1⟩=>thn (hb G s1 Z H1 _ W q1) λu s2 ⟨y,q,I2,r2,q2⟩=>
  thn (ho G s2 Z q x y v u _ I2 r1 r2 q2) λc s3 ⟨z,U,I3,r3,k,e,q3⟩=>?_) hm
 subst e;cases r3;exact Bs ⟨U,I3,q3⟩
noncomputable def aEH(r r':R2)(ta tb tc:TE):TE:=λZ H Q=>ta Z H λx H1=>tb Z H1 λy H2=>r x y H2 λz H3=>∃k,z=.bl k /\
 (if k=true then tc Z H3 λw' H4=>r' y w' H4 Q else Q (.bl false) H3)
theorem aEI{op q:CmpOp}{r r':R2}(ho:OpR X (BE op) r)(U:OpR X (BE q) r')(ha:PE X a ta)(hb:PE X b tb)(hc:PE X c tc)
 (hm:IN [op,q] [b,c]=false:=by with_unfolding_all rfl):PE X (.Compare a [op,q] [b,c] pos) (aEH r r' ta tb tc):=by
 intro G s Z H Q I h;refine Compare_chain (thn (ha G s Z H _ I h) λv s1 ⟨x,H1,I1,r1,q1⟩=>chain_link (thn (hb G s1 Z H1 _ I1 q1) λu s2 ⟨y,H2,I2,r2,q2⟩=>
  thn (ho G s2 Z H2 x y v u _ I2 r1 r2 q2) λd s3 ⟨z,W,I3,r3,k,e,q3⟩=>?_)) hm
 subst e;cases r3;refine Bs ?_;cases k with
 | false=>exact ite_ff ⟨.bl false,W,I3,rfl,q3⟩|true=>exact ite_tt (chain_last (thn (hc G s3 Z W _ I3 q3) λw' s4 ⟨z',H4,I4,r4,q4⟩=>U G s4 Z H4 y z' u w' Q I4 r2 r4 q4))
theorem aEJ{op q:CmpOp}{r r':R2}(ho:OpR X (BE op) r)(U:OpR X (BE q) r')(ha:PE X a ta)(hb:PE X b tb)(hc:PE X c tc)
 (hm:IN [op,q] [b,c]=false:=by with_unfolding_all rfl):PT X (.Compare a [op,q] [b,c] pos) (aJk (aEH r r' ta tb tc)):=by
 intro G s Z H Q I h;refine isTrue_chain (thn (ha G s Z H _ I h) λv s1 ⟨x,H1,I1,r1,q1⟩=>test_link (thn (hb G s1 Z H1 _ I1 q1) λu s2 ⟨y,H2,I2,r2,q2⟩=>
  thn (ho G s2 Z H2 x y v u _ I2 r1 r2 q2) λd s3 ⟨z,W,I3,r3,k,e,q3⟩=>?_)) hm
 subst e;cases r3;refine Bs ?_;cases k with
 | false=>obtain⟨k',e',q'⟩:=q3;cases e';exact ite_ff ⟨W,I3,q'⟩|true=>refine ite_tt (test_last (thn (hc G s3 Z W _ I3 q3) λw' s4 ⟨z',H4,I4,r4,q4⟩=>thn (U G s4 Z H4 y z' u w' _ I4 r2 r4 q4) λd' s5 ⟨z2,H5,I5,r5,k2,e2,q5⟩=>?_));subst e2;cases r5;exact Bs ⟨H5,I5,q5⟩
noncomputable def aHG(K:Aq)(x:V)(H:Hp)(k:Bool):Prop:=
 match x with
 | .non=>k=false|.bl b=>k=b|.int i=>k=(i != 0)
 | .str y=>y.length<=sizeLine/\k=((y.length:Int) != 0)
 | .ref p=>(∃xs,SqL K H p xs/\k=!xs.isEmpty)\/(∃xs,SqT K H p xs/\k=!xs.isEmpty)\/False|_=>False
theorem qO{xs:List V}{q:List Ac}(r:bC xs q):(!q.toArray.isEmpty)=!xs.isEmpty:=by cases r <;> simp
theorem lO:(sizeLine:Nat)<2 ^ 63:=by rw[Cb];decide
theorem aEK:aPN X (λx H Q=>∃k,aHG X.K x H k/\Q k H):=by
 intro G s Z H x v Q I rx h;obtain⟨k,e,q⟩:=h;have hl:=lO;cases x with
 | non=>cases rx;subst e;exact truthy_none ⟨H,I,q⟩|bl b=>cases rx;subst e;exact Bs ⟨H,I,q⟩|int i=>obtain⟨t,rfl⟩:=rx;subst e;exact PySem.P.truthy_int ⟨H,I,q⟩|str y=>obtain⟨t,rfl⟩:=rx;obtain⟨hy,U⟩:y.length<=sizeLine/\k=((y.length:Int) != 0):=e;subst U;exact PySem.P.truthy_str (by omega) ⟨H,I.tok _,q⟩|ref p=>cases rx;have U:=e;rcases U with⟨xs,hx,U⟩|⟨xs,hx,U⟩|U;subst U;obtain⟨q0,r,pl,hz⟩:=I.list hx;have W:=r.length;exact wpAny_truthy_list pl.isList (by grind) ⟨H,I.tok _,by rw[qO r];exact q⟩;subst U;obtain⟨q0,r,pl,hz⟩:=I.tuple hx;have W:=r.length;exact truthy_tuple pl (by grind) ⟨H,I.tok _,by rw[qO r];exact q⟩;grind
 | _=>exact(e).elim
theorem aEL(W:PE X a ta)(he:∀q,isTrue a X.env q=(do let v<-q;JJ a.pos;Fa [v] (truthy v))) :
 PT X a (λZ H Q=>ta Z H λx H'=>∃k,aHG X.K x H' k/\Q k H'):=by intro G s Z H Q I h;exact isTrue_plain (thn (W G s Z H _ I h) λv s1 ⟨x,H1,U,r1,q1⟩=>aEK G s1 Z H1 x v Q U r1 q1) (he _)
theorem mK{x:V}{us:List Ac}(r:bC [x] us):∃u,us=[u]/\bZ x u:=by
 cases r with
 | cons I q=>cases q;grind
theorem aDi:gG X (.type "int") (λxs H Q=>(∃i,xs=[.int i]/\Q (.int i) H)\/∃k,xs=[.bl k]/\Q (.int (if k then 1 else 0)) H):=by
 intro G s Z H xs us Q I r h;rcases h with⟨i,rfl,q⟩|⟨k,rfl,q⟩
 obtain⟨u,rfl,t,rfl⟩:=mK r;exact call_int_int ⟨.int i,H,I,⟨_,rfl⟩,q⟩;obtain⟨u,rfl,U⟩:=mK r;cases U;exact call_int_bool ⟨.int (if k then 1 else 0),H,I.tok _,⟨_,rfl⟩,q⟩
end
noncomputable def putF(f:Str)(v:V):List (Str×V)->List (Str×V)
 | []=>[(f,v)]
 | (g,x)::r=>if g=f then (g,v)::r else (g,x)::putF f v r
structure lP (k:Nat) (A:Bf):Prop where
 hd:A.handled=none
 gd:A.guards=some []
 dp:A.depth+3*k+5<HI
 un:A.units+16*k+200<Cv
theorem lP.deeper{k:Nat}{A:Bf}(r:lP (k+1) A)(env:Iw):lP k (A.deeper env):=
 ⟨r.hd,r.gd,by have:=r.dp;show A.depth+1+3*k+5<_;omega,by have:=r.un;show A.units+3+16*k+200<_;omega⟩
theorem lP.depth{k:Nat}{A:Bf}(r:lP k A):A.depth<HI:=by have:=r.dp;omega
noncomputable def aMZ:TA:=λ_ H Q=>Q [] H
noncomputable def aNa(ta:TE)(tr:TA):TA:=λZ H Q=>ta Z H λx H1=>tr Z H1 λxs H2=>Q (x::xs) H2
section
variable {X:Cx} {e:As} {es:List As} {te:TE} {t:TA} {pos:CB}
theorem hZ:PA X [] aMZ:=λ_ _ _ _ H Q I h=>DE ⟨[],H,I,.nil,h⟩
theorem eX(ha:PE X e te)(hr:PA X es t)(hs:Bq (e::es) X.env=(false,DD e X.env)::Bq es X.env:=by rfl):PA X (e::es) (aNa te t):=by intro pos G s Z H Q I h;rw[hs];exact CM (thn (ha G s Z H _ I h) λu s1 ⟨x,H1,U,r1,q1⟩=>(thn (hr pos G s1 Z H1 _ U q1) λus s2 ⟨xs,q,W,r2,q2⟩=>⟨x::xs,q,W,.cons r1 r2,q2⟩))
noncomputable def aPP(t:TA):TE:=λZ H Q=>t Z H λxs H1=>xs.length<=sizeLine/\∀p,H1 p=none->Q (.ref p) (upd H1 p (.tup xs))
noncomputable def aPQ(t:TA):TE:=λZ H Q=>t Z H λxs H1=>xs.length<=sizeLine/\∀p,H1 p=none->Q (.ref p) (upd H1 p (.lst xs))
theorem aEM{x1}(h:PA X es t):PE X (.Tuple es x1 pos) (aPP t):=by intro G s Z H Q I W;refine wpAny_Tuple_spliced (thn (h pos G s Z H _ I W) λus s1 ⟨xs,H1,U,r,z,q⟩=>⟨by rw[<-r.length];exact z,?_⟩);refine⟨.ref s1.heap.objs.size,upd H1 s1.heap.objs.size (.tup xs),U.laid (λb u e=>Ab _ e) (Ap _) ?_,rfl,q _ (U.hok.fresh (Ap _))⟩;exact⟨z,us,r,⟨_,Aj _ rfl,rfl,_,rfl⟩⟩
theorem aKj(h:PA X es t):PE X (.List es pos) (aPQ t):=by intro G s Z H Q I W;refine wpAny_List_spliced (thn (h pos G s Z H _ I W) λus s1 ⟨xs,H1,U,r,z,q⟩=>⟨by rw[<-r.length];exact z,?_⟩);refine⟨.ref s1.heap.objs.size,upd H1 s1.heap.objs.size (.lst xs),U.laid (λb u e=>Ab _ e) (Ap _) ?_,rfl,q _ (U.hok.fresh (Ap _))⟩;exact⟨z,us,0,r,Aj _ rfl⟩
end
abbrev Sp:=List V->Hp->VK->XK->Prop
abbrev CXT:=List Iw->Hp->Ae->XK->Ac->Ae->Prop
structure aKk (P:Ay) (w:AJ) (K:Aq) (mg:Str->Option Ac) (base:Heap) (A:Bf) (outer:List Iw) (s:Ae) (H:Hp):Prop where
 frames:A.frames=some outer
 mod:Mod K mg base
 bs:∀b o,base.get? b=some o->s.heap.get? b=some o/\H b=none
 bsz:base.objs.size<=s.heap.objs.size
 funs:s.heap.FunFrames base outer
 frf:∀b∈frs outer,H b=none
 hok:HOk P w H s.heap
 bare:EC s.gens
noncomputable def CE(outer:List Iw)(P:Ay)(w:AJ)(H:Hp)(s:Ae)(Q:VK)(u:Ac)(s':Ae):Prop:=
 ∃v H',s'.os=s.os/\EC s'.gens/\Un (frs outer) [] H H' s.heap s'.heap/\HOk P w H' s'.heap/\bZ v u/\Q v H'
noncomputable def CR(CX:CXT)(outer:List Iw)(P:Ay)(w:AJ)(H:Hp)(s:Ae)(Q:VK)(E:XK)(r:F9)(s':Ae):Prop:=
 match r with
 | .ok (.ret u)=>CE outer P w H s Q u s'|.ok _=>False|.error e=>CX outer H s E e s'
structure pL (P:Ay) (w:AJ) (K:Aq) (mg:Str->Option Ac) (base:Heap) (CX:CXT) (k:Nat) (f:Ah) (fd:Df) (ps:List Str) (sp:Sp):Prop where
 len:∀vs H Q E,sp vs H Q E->vs.length=ps.length
 run:∀(A:Bf) (outer:List Iw) (s:Ae) (H:Hp) (args:Args) (us:List Ac) (vs:List V) (Q:VK) (E:XK),lP k A->aKk P w K mg base A outer s H->IU s fd args (ps.zip us)->bC vs us->sp vs H Q E ->
  D4 (AC P w) A (.call (.ref f) args) (CR CX outer P w H s Q E) s
section
variable {X:Cx} {G:List (Ah×Obj)} {Z:St} {H:Hp} {s s':Ae}
theorem Inv.env0(I:Inv X G Z H s):aKk X.prog X.w X.K X.mg X.base X.A X.stack s H:=
 ⟨I.ok.frames,I.ok.mod,I.bs,AL I.ok.bsz I.sz,I.stack,I.stkFree,I.hok,I.bare⟩
theorem Inv.after{Q:VK}{u:Ac}(I:Inv X G Z H s)(h:CE X.stack X.prog X.w H s Q u s'):EP X G Z Q u s':=by obtain⟨v,H',os,bare,un,hok,r,q⟩:=h;obtain⟨W,g,d,t,U⟩:=s';obtain rfl:U=s.os:=os;exact⟨v,H',I.call un hok bare (λb z=>absurd z (by simp)),r,q⟩
end
noncomputable def aJl(sp:Sp)(dvs:List V)(E:XK)(t:TA):TE:=λZ H Q=>t Z H λvs H1=>sp (vs++dvs) H1 Q E
noncomputable def lG(K:Aq)(fd:Df)(ps:List Str)(ds:List Ac):Prop:=
 ∀(s:Ae) (us:List Ac),K.In s.heap->(us++ds).length=ps.length->IU s fd ⟨us,[]⟩ (ps.zip (us++ds))
theorem lG.all{K:Aq}{fd:Df}{ps:List Str}(h:∀us:List Ac,us.length=ps.length->HJ fd ⟨us,[]⟩=pure (ps.zip us)):lG K fd ps []:=λs us _ q=>by rw[AO] at q ⊢;exact .of_eq (h us q)
noncomputable def vM(CX:CXT)(X:Cx)(E:XK):Prop:=∀(G:List (Ah×Obj)) (Z:St) (H:Hp) (s:Ae) (e:Ac) (s':Ae),Inv X G Z H s->CX X.stack H s E e s'->X.xe e s'
section
variable {X:Cx} {CX:CXT} {k:Nat} {f C:Ah} {fd:Df} {ps:List Str} {sp:Sp} {dvs:List V} {ds:List Ac} {E:XK} {x m:Str} {p pos apos:CB} {e o:As} {es:List As} {ta:TE} {t:TA}
theorem aEN{G:List (Ah×Obj)}{Z:St}{H:Hp}{s:Ae}{Q:VK}{us:List Ac}{vs:List V}(F:pL X.prog X.w X.K X.mg X.base CX k f fd ps sp)(W:lP k X.A)(U:lG X.K fd ps ds)(hd:bC dvs ds)(hx:vM CX X E)
 (I:Inv X G Z H s) (r:bC vs us) (h:sp (vs++dvs) H Q E):Av (AC X.prog X.w) X.A (call (.ref f) us) (EP X G Z Q) X.xe s:=by
 refine HK (Dn (F.run X.A X.stack s H ⟨us,[]⟩ (us++ds) (vs++dvs) Q E W I.env0 (U s us I.kIn (by rw[<-(r.append hd).length];exact F.len _ _ _ _ h)) (r.append hd) h) λr s' q=>?_);cases r with
 | error e=>exact hx G Z H s e s' I q|ok fl=>
  cases fl with
  | ret u=>exact I.after q|next=>exact D6 q|brk=>exact D6 q|cont=>exact D6 q
theorem aBI(F:pL X.prog X.w X.K X.mg X.base CX k f fd ps sp)(hr:lP k X.A)(hg:Gl X x)(hm:X.mg x=some (.ref f))(hk:Dg X.K (.ref f)=true)(hb:lG X.K fd ps ds)(hd:bC dvs ds)(hx:vM CX X E)
 (ha:PA X (e::es) t) (U:(x==("__debug__" : Str))=false:=by decide) (he:Bq (e::es) X.env=(false,DD e X.env)::Bq es X.env:=by rfl) (W:(F8 pos (Bq es X.env)).any (·.1)=false:=by rfl) :
 PE X (.Call (.Name x p) (e::es) [] pos) (aJl sp dvs E t):=by intro G s Z H Q I h;refine B6 (vJ I hg hm ?_ U);exact PySem.W.callWith_K I.ok.mod.kin hk (thn (ha pos G s Z H _ I h) λus s1 ⟨vs,H1,I1,r,q⟩=>⟨I1.kIn,(aEN F hr hb hd hx I1 r q)⟩) he W
theorem aEO(F:pL X.prog X.w X.K X.mg X.base CX k f fd ps sp)(hr:lP k X.A)(W:Gl X x)(hm:X.mg x=some (.ref f))(hk:Dg X.K (.ref f)=true)(U:lG X.K fd ps ds)(hd:bC dvs ds)(hx:vM CX X E)
 (q:(x==("__debug__" : Str))=false:=by decide):PE X (.Call (.Name x p) [] [] pos) (aJl sp dvs E aMZ):=by intro G s Z H Q I h;exact B6 (vJ I W hm (PySem.W.callWith_K0 I.kIn hk (aEN F hr U hd hx I .nil h)) q)
end
structure pT (N P:List Str) (sc:De):Prop where
 kind:sc.kind=.function
 co:sc.isCoroutine=false
 gen:sc.isGenerator=false
 nd:N.Nodup
 pre:N.take P.length=P
 par:∀x∈P,sc.names.lookup x=some .local\/sc.names.lookup x=some .cell
 nofree:∀y∈sc.names,y.2≠.free
theorem tW{kindOf:Str->Option Cc}{x:Str}:∀{binds:List (Str×Ac)} {m:Str->Option Ac},(∀v,(x,v)∉binds)->HL kindOf binds m x=m x
 | [],_,_=>rfl|(n,v)::r,m,h=>by unfold HL;rw[tW λw q=>h w (Au _ q)];split;grind;rfl
theorem tX{kindOf:Str->Option Cc}{x:Str}:∀{binds:List (Str×Ac)} {m:Str->Option Ac},(∀v,(x,v)∉binds)->HM kindOf binds m x=m x
 | [],_,_=>rfl|(n,v)::r,m,h=>by unfold HM;rw[tX λw q=>h w (Au _ q)];split;rfl;grind
theorem tY{kindOf:Str->Option Cc}{x:Str}{v:Ac}:∀{P:List Str} {vs:List Ac} {i:Nat} {m:Str->Option Ac},P.Nodup->P[i]? = some x->vs[i]? = some v->kindOf x=some .local ->
 HL kindOf (P.zip vs) m x=some v
 | [],_,_,_,_,h,_,_=>by simp at h|_::_,[],_,_,_,_,h,_=>by simp at h|p::P,w::vs,0,m,nd,h1,h2,hk=>by simp at h1 h2;subst h1;subst h2;show HL kindOf ((p,w)::P.zip vs) m p=_;unfold HL;rw[tW λv q=>(C4.mp nd).1 (Ed q).1,if_pos hk];simp|p::P,w::vs,i+1,m,nd,h1,h2,hk=>by show HL kindOf ((p,w)::P.zip vs) m x=_;unfold HL;exact tY (i:=i) (C4.mp nd).2 (by grind) (by grind) hk
theorem tZ{kindOf:Str->Option Cc}{x:Str}{v:Ac}:∀{P:List Str} {vs:List Ac} {i:Nat} {m:Str->Option Ac},P.Nodup->P[i]? = some x->vs[i]? = some v->kindOf x≠some .local ->
 HM kindOf (P.zip vs) m x=some v
 | [],_,_,_,_,h,_,_=>by simp at h|_::_,[],_,_,_,_,h,_=>by simp at h|p::P,w::vs,0,m,nd,h1,h2,hk=>by simp at h1 h2;subst h1;subst h2;show HM kindOf ((p,w)::P.zip vs) m p=_;unfold HM;rw[tX λv q=>(C4.mp nd).1 (Ed q).1,if_neg hk];simp|p::P,w::vs,i+1,m,nd,h1,h2,hk=>by show HM kindOf ((p,w)::P.zip vs) m x=_;unfold HM;exact tZ (i:=i) (C4.mp nd).2 (by grind) (by grind) hk
noncomputable def start(N:List Str)(vs:List V):St:=vs.map some++Al (N.length-vs.length) none
noncomputable def aDj(CX:CXT)(P:Ay)(w:AJ)(K:Aq)(mg:Str->Option Ac)(base:Heap)(N:List Str)(qual:Str)(scope:De)(f:Ah)(cd:Ac)(A:Bf)(outer:List Iw)(s:Ae)(H:Hp)(E:XK):Cx where
 prog:=P
 w:=w
 K:=K
 mg:=mg
 base:=base
 A:=A.deeper (FA qual scope s.heap.objs.size f cd)
 N:=N
 s₀:=s
 H₀:=H
 env:=FA qual scope s.heap.objs.size f cd
 outer:=outer
 stack:=FA qual scope s.heap.objs.size f cd::outer
 ex:=[]
 calm:=true
 fn:=λ_=>true
 pn:=[]
 xe:=λe s'=>Av (AC P w) (A.deeper (FA qual scope s.heap.objs.size f cd)) (leaving (FA qual scope s.heap.objs.size f cd) e) (λ_ s''=>CX outer H s E e s'') (λe' s''=>CX outer H s E e' s'') s'
theorem yG{sc:De}{n:Nat}{x:Str}(h:sc.names.lookup x=some .cell):∃c,(IP n sc.names []).lookup x=some c:=by exact Dw.mp (Fe sc.names n [] (.inl h))
theorem aDk{CX:CXT}{P:Ay}{w:AJ}{K:Aq}{mg:Str->Option Ac}{base:Heap}{N ps:List Str}{qual:Str}{scope:De}{f:Ah}{cd:Ac}{A:Bf}{outer:List Iw}{s s1:Ae}{H:Hp}{E:XK}{us:List Ac}{vs:List V}
 (S:pT N ps scope) (hd:A.handled=none) (I:aKk P w K mg base A outer s H) (hl:vs.length=ps.length) (r:bC vs us)
 (x:InCallC s s.heap.objs.size (HL (FA qual scope s.heap.objs.size f cd).kindOf (ps.zip us) λ_=>none) (IP (s.heap.objs.size+1) scope.names []) (HM (FA qual scope s.heap.objs.size f cd).kindOf (ps.zip us) λ_=>none) s1) :
 Inv (aDj CX P w K mg base N qual scope f cd A outer s H E) [] (start N vs) H s1:=by
 have q1:ps.length<=N.length:=by have:=congrArg Hi S.pre;rw[A9] at this;omega
 obtain⟨h1,tk,rfl,hk⟩:=x.done;have W:∀b:Ah,b∉(aDj CX P w K mg base N qual scope f cd A outer s H E).ex:=λb z=>absurd (show b∈([]:List Ah) from z) (by simp);refine⟨⟨I.mod,S.kind,rfl,rfl,Ap _,λy z c h1 h2=>?_,λy U=>?_,λy c _ h=>?_,λ_=>hd,Around.frames_deeper I.frames,.inr ⟨rfl,rfl⟩,λb z=>absurd z (W b),I.bs,I.bsz,λb _ _=>W b,λb z=>absurd z (W b),I.funs,I.frf⟩,
  rfl,I.bare,Un.kept hk,⟨_,x.toInCall.ns,λi y v h1 h2 h3=>?_⟩,λy c h=>⟨_,x.cell y c h⟩,I.hok.fresh (Ap _),λy c h=>?_,λp hp=>absurd (show p∈([]:List (Ah×Obj)) from hp) (by simp),I.hok.kept hk,?_⟩
 exact name_of_addr x.apart (BA h1) (BA h2);have U:=U;rcases U with U|U;exact yG U;exact absurd rfl (S.nofree _ (BA U));exact En (x.above y c (BA h));have hi:i<vs.length:=by unfold start at h2;grind
 have ha:vs[i]? = some v:=by
  unfold start at h2;rw[Be (by grind),A7] at h2;cases e:vs[i]? with
  | none=>rw[e] at h2;cases h2|some a=>rw[e] at h2;cases h2;rfl
 obtain⟨u,hu,rv⟩:=r.get ha;have hp:ps[i]? = some y:=by rw[<-S.pre,List.getElem?_take_of_lt (by omega)];exact h1
 have q0:ps.Nodup:=by rw[<-S.pre];exact S.nd.sublist (List.take_sublist _ _)
 refine⟨u,rv,?_⟩;rcases S.par y (List.mem_of_getElem? hp) with k|k;exact .inl ⟨k,tY q0 hp hu k⟩;obtain⟨c,e⟩:=yG k;refine .inr ⟨.inl k,c,e,?_⟩;have q:=x.cell y c e;rw[tZ q0 hp hu (by show scope.names.lookup y≠_;rw[k];decide)] at q;exact q;exact I.hok.fresh (En (x.above y c (BA h)));unfold start;show _=N.length;rw[D7,Fw,AQ];omega
theorem aNb{CX:CXT}{P:Ay}{w:AJ}{K:Aq}{mg:Str->Option Ac}{base:Heap}{k:Nat}{f:Ah}{U qual:Str}{I:FP}{body:List Ck}{scope:De}{dV kV doc pm cdv ct oc:Ac}{an od:Option Ah}
 {osl:Array (Option Ac)} {N ps:List Str} {sp:Sp} (lk:K.lookup f=some ⟨oc,od,.func (Ff U qual I body scope dV kV doc pm an cdv ct),osl⟩) (q3:HN K cdv qual=true) (S:pT N ps scope)
 (len:∀vs H Q E,sp vs H Q E->vs.length=ps.length)
 (W:∀(A:Bf) (outer:List Iw) (s:Ae) (H:Hp) (vs:List V) (Q:VK) (E:XK),lP k (A.deeper (FA qual scope s.heap.objs.size f cdv))->sp vs H Q E ->
  ∃t,PSs (aDj CX P w K mg base N qual scope f cdv A outer s H E) body t/\t { nx:=λ_ H'=>Q .non H',rt:=Q } (start N vs) H) :
 pL P w K mg base CX (k+1) f (Ff U qual I body scope dV kV doc pm an cdv ct) ps sp:=by
 refine⟨len,λA outer s H args us vs Q E hr e0 hb r q2=>?_⟩;have KX:=e0.mod.kin.keeps λb o e=>(e0.bs b o e).1;have q0:∀y∈ps.zip us,scope.names.lookup y.1=some .local\/(scope.names.lookup y.1=some .cell/\((IP (s.heap.objs.size+1) scope.names []).lookup y.1).isSome=true):=λ⟨n,v⟩ hy=>by rcases S.par n (Ed hy).1 with q|q;exact .inl q;exact .inr ⟨q,Fe _ _ _ (.inl q)⟩
 refine codeAny_call_function hr.depth (KX _ _ lk) rfl S.co S.gen rfl (PySem.W.codeRec_of KX q3) (hb _ _ _ _ ?_);refine wpAny_newFunctionEnv_cells S.kind q0 λenv he s1 x=>?_;subst he;refine⟨(e0.mod.nolimit.keeps λb o e=>(e0.bs b o e).1).keeps x.toInCall.keep,codeAny_func ?_⟩;obtain⟨t,ht,hq⟩:=W A outer s H vs Q E (hr.deeper _) q2;refine CJ (ht [] s1 (start N vs) H _ (aDk S hr.hd e0 (len _ _ _ _ q2) r x) hq) (λfl s' hs=>?_) λe s' hs=>hs;have q1:∀{Z':St} {H':Hp} {v:V} {u:Ac},Inv (aDj CX P w K mg base N qual scope f cdv A outer s H E) [] Z' H' s'->bZ v u->Q v H'->CE outer P w H s Q u s':=
  λ{Z' H' v u} J'' rv q=>⟨v,H',J''.os,J''.bare,J''.base,J''.hok,rv,q⟩
 cases fl with
 | ret u=>obtain⟨v,Z',H',J'',rv,q⟩:=hs;exact q1 J'' rv q|next=>obtain⟨Z',H',J'',q⟩:=hs;exact q1 (v:=V.non) J'' rfl q|brk=>obtain⟨_,_,_,q⟩:=hs;grind|cont=>obtain⟨_,_,_,q⟩:=hs;grind
section
variable {X:Cx} {x:Str} {p pos:CB} {e:As} {es:List As} {t:TA} {id T:String} {r:List V->Hp->VK->Prop}
noncomputable def tCB(r:List V->Hp->VK->Prop)(t:TA):TE:=λZ H Q=>t Z H λvs H1=>r vs H1 Q
theorem aEP(hc:gG X (.builtin id) r)(hg:Gl X x)(hm:X.mg x=none)(hv:BM x=some (.builtin id))(ha:PA X (e::es) t)(hn:x ≠ "__name__" := by decide)(q:(x==("__debug__" : Str))=false:=by decide)
 (he:Bq (e::es) X.env=(false,DD e X.env)::Bq es X.env:=by rfl) (U:(F8 pos (Bq es X.env)).any (·.1)=false:=by rfl):PE X (.Call (.Name x p) (e::es) [] pos) (tCB r t):=by intro G s Z H Q I h;exact B6 (fE I hg hm hv (BW (thn (ha pos G s Z H _ I h) λus s1 ⟨vs,H1,W,r1,q1⟩=>hc G s1 Z H1 vs us Q W r1 q1) he U) hn q)
theorem aDl(hc:gG X (.type T) r)(hg:Gl X x)(hm:X.mg x=none)(hv:BM x=some (.type T))(ha:PA X (e::es) t)(hn:x ≠ "__name__" := by decide)(q:(x==("__debug__" : Str))=false:=by decide)
 (he:Bq (e::es) X.env=(false,DD e X.env)::Bq es X.env:=by rfl) (U:(F8 pos (Bq es X.env)).any (·.1)=false:=by rfl):PE X (.Call (.Name x p) (e::es) [] pos) (tCB r t):=by intro G s Z H Q I h;exact B6 (fE I hg hm hv (Bh (thn (ha pos G s Z H _ I h) λus s1 ⟨vs,H1,W,r1,q1⟩=>hc G s1 Z H1 vs us Q W r1 q1) he U) hn q)
end
end L2
namespace HT
open PySem PyProof.Rows
noncomputable def lexLt:List Int->List Int->Bool
 | [],[]=>false|[],_::_=>true|_::_,[]=>false|x::xs,y::ys=>if x=y then lexLt xs ys else decide (x<y)
theorem lexLt_cons(x y:Int)(xs ys:List Int):lexLt (x::xs) (y::ys)=if x=y then lexLt xs ys else decide (x<y):=rfl
theorem tK:lexLt [] []=false:=rfl
theorem qP(y:Int)(ys:List Int):lexLt [] (y::ys)=true:=rfl
theorem qQ(x:Int)(xs:List Int):lexLt (x::xs) []=false:=rfl
theorem aEQ(A:Bf)(s:Ae)(a:Int)(t:HA)(c:Int)(u:HA):∃e,SeqAt.EqAt A s (.int a t) (.int c u) e/\(e=true↔a=c):=
 ⟨(a==c),J7 a t c u,by simp⟩
theorem aER(A:Bf)(s:Ae)(a:Int)(t:HA)(c:Int)(u:HA)(prog:Ay)(w:AJ)(E:Ac->Ae->Prop)(Q:Ac->Ae->Prop)(h:Q (.bool (decide (a<c))) s) :
 Av (AC prog w) A (DY .Lt (.int a t) (.int c u)) Q E s:=
 (J4 h:Av (AC prog w) A (BE .Lt (.int a t) (.int c u)) Q E s)
section
open PySem.SeqAt
open PySem.AutoSeq1 (wpAny_loadPart')
open PySem.MeetsSeq PySem.MeetsSeq2 PySem.MeetsSeq3
theorem tL(l b:Ah)(items I:Array Ac)(n n2:Nat)(dd q5:Option Ah)(sl q6:Array (Option Ac))(ns ms:List Int)(hi:CD items.toList ns)(hj:CD I.toList ms) :
 Meets (Cz.«tuple.__lt__» ⟨[.ref l,.ref b],[]⟩)
  (λ_ R s=>s.heap.get? l=some { cls:=.type "tuple",dict:=dd,data:=.seq items n,slots:=sl }/\s.heap.get? b=some { cls:=.type "tuple",dict:=q5,data:=.seq I n2,slots:=q6 } /\
   R (.ok (.ret (.bool (lexLt ns ms)))) s):=
 .of_wp λprog w A R s h=>by
  obtain⟨hp,g,d,tk,os⟩:=s;obtain⟨hl,hb,h⟩:=h;have f2:=Iz;have z1:items.size=ns.length:=by rw[<-hi.length];simp
  have z2:I.size=ms.length:=by rw[<-hj.length];simp
  wp_walk using wpAny_loadPart' hl,wpAny_loadPart' hb,Dp _ (λrest b s'=>b.1=none/\s'=⟨hp,g,d,tk,os⟩/\∃(vs ws:List Ac) (q0 W:List Int),rest=vs.zip ws /\
   CD vs q0/\CD ws W/\q0.length+I.size=W.length+items.size/\R (.ok (.ret (.bool (lexLt q0 W)))) ⟨hp,g,d,tk,os⟩) _
  case turn=>
   rintro ⟨y,x⟩ rest b s' ⟨q3,rfl,vs,ws,q0,W,hz,q4,q1,U,hR⟩;cases q4 with
   | nil=>rw[DF] at hz;cases hz|cons a t q7=>
    cases q1 with
    | nil=>rw[Gj] at hz;cases hz|cons c u q8=>
     rw[AV] at hz;injection hz with hyx hrest
     injection hyx with hy hx
     subst hy hx;rw[lexLt_cons] at hR;simp only[List.length_cons] at U;obtain⟨e,he,q2⟩:=aEQ A.in1 ⟨hp,g,d,tk,os⟩ a t c u;refine Aa (he prog w _ _ ?_);cases e with
     | true=>
      rw[if_pos (q2.mp rfl)] at hR
      wp_walk
      grind
     | false=>
      rw[if_neg (λq=>absurd (q2.mpr q) D5)] at hR
      wp_walk using (aER A.in1 ⟨hp,g,d,tk,os⟩ a t c u prog w)
      grind
  case fin=>
   rintro ⟨b1,b2⟩ s' ⟨q3,rfl,vs,ws,q0,W,hz,q4,q1,U,hR⟩;simp only at q3;subst q3;have hv:lexLt q0 W=decide (items.size<I.size):=by
    cases q4 with
    | nil=>
     cases q1 with
     | nil=>simp only[Fx] at U;rw[tK];grind|cons c u hw=>simp only[Fx] at U;rw[qP];grind
    | cons a t hv=>
     cases q1 with
     | nil=>simp only[Fx] at U;rw[qQ];grind|cons c u hw=>rw[AV] at hz;cases hz
   rw[hv] at hR
   wp_walk
   exact⟨_,rfl,by simpa[GP] using hR⟩
  grind
end
section
variable {prog:Ay} {w:AJ} {A:Bf} {E:Ac->Ae->Prop} {s:Ae}
theorem lt_tupInts{l b:Ah}{items q:Array Ac}{ns ms:List Int}{Q:Ac->Ae->Prop}(hl:IsTup s.heap l items)(hb:IsTup s.heap b q)(hi:CD items.toList ns)(hj:CD q.toList ms)
 (hu:A.units<Cv) (h:Q (.bool (lexLt ns ms)) s):Av (AC prog w) A (BE .Lt (.ref l) (.ref b)) Q E s:=by
 obtain⟨⟨cls,dd,data,sl⟩,ho,hc,n,hd⟩:=id hl;obtain⟨⟨q3,q1,q0,q2⟩,W,I,n2,U⟩:=id hb;simp only at hc hd I U;subst hc hd I U;exact richCompare_meets_room (op:=.Lt) ⟨_,ho,rfl⟩ ⟨_,W,rfl⟩ PySem.F.slot_tuple_lt PySem.F.entry_tuple_lt (PySem.F.args_tuple_lt_2 _ _) (tL l b items q n n2 dd q1 sl q2 ns ms hi hj)
  ⟨ho,W,show C9 (lexLt ns ms)≠Value.notImplemented/\Q (.bool (lexLt ns ms)) s from⟨(λx=>nomatch x),h⟩⟩ hu
theorem cat_tup{t b:Ah}{vs ws:List Ac}{Q:Ac->Ae->Prop}(ht:IsTup s.heap t vs.toArray)(hb:IsTup s.heap b ws.toArray)(hv:vs≠[])
 (h1:ws=[]->Q (.ref t) s) (h2:ws≠[]->Q (.ref s.heap.objs.size) { s with heap:=s.heap.push { cls:=.type "tuple",data:=.seq (vs++ws).toArray } })
 (hsz:vs.length+ws.length<=sizeLine):Av (AC prog w) A (Dv .Add (.ref t) (.ref b)) Q E s:=by
 obtain⟨⟨cls,dd,data,sl⟩,ho,hc,n,hd⟩:=id ht;obtain⟨⟨q2,I,q1,q0⟩,q,U,n2,W⟩:=id hb;simp only at hc hd U W;subst hc hd U W;have e:vs.toArray++ws.toArray=(vs++ws).toArray:=by simp
 by_cases hw:ws=[]
 exact Fh ⟨_,ho,rfl⟩ ⟨_,q,rfl⟩ EQ Ga DG D9 (Dy _ _)
  (tuple_addW1 t b vs.toArray ws.toArray n n2 dd I sl q0 (by grind) (by simp[hw])) ⟨ho,q,h1 hw⟩
 refine Fh ⟨_,ho,rfl⟩ ⟨_,q,rfl⟩ EQ Ga DG D9 (Dy _ _)
  (tuple_addW2 t b vs.toArray ws.toArray n n2 dd I sl q0 (by grind) (by grind) (by rw[Ak,Ak];exact hsz)) ⟨ho,q,?_⟩
 rw[e];exact h2 hw
noncomputable def sIx(n d:Nat):Option Int->Nat
 | none=>d|some v=>if v<0 then (v+(n:Int)).toNat else min v.toNat n
theorem aBJ(v:Int)(n d:Nat):(if v<0 then max (v+(n:Int)) 0 else min v (n:Int))=((sIx n d (some v):Nat):Int):=by
 show(if v<0 then max (v+(n:Int)) 0 else min v (n:Int))=(((if v<0 then (v+(n:Int)).toNat else min v.toNat n):Nat):Int)
 grind
theorem aAA(lo hi:Option Int)(n:Nat):Dr lo hi 1 (n:Int)=(((sIx n 0 lo:Nat):Int),((sIx n n hi:Nat):Int)):=by
 have h1:¬ ((1:Int)<0):=by omega
 unfold Dr;simp only[h1];refine JV ?_ ?_;cases lo with
 | none=>rfl|some v=>exact aBJ v n 0
 cases hi with
 | none=>rfl|some v=>exact aBJ v n n
theorem aAB(i j:Nat):C1 (i:Int) (j:Int) 1=j-i:=by unfold C1;grind
theorem qR{v:Ac}{o:Option Int}{Q:Option Int->Ae->Prop}(p:Fi v o)(h:Q o s):Av (AC prog w) A (Hm v) Q E s:=by
 cases p with
 | none=>exact HP h|int i t=>exact slicePart_int h
theorem sliceApplied_gen{sl:Ah}{U W:Ac}{lo hi:Option Int}{n:Nat}{Q:Int×Int×Nat->Ae->Prop}(hs:s.heap.IsSliceOf sl U W .none)(pl:Fi U lo)(pu:Fi W hi)
 (h:Q (((sIx n 0 lo:Nat):Int),1,sIx n n hi-sIx n 0 lo) s):Av (AC prog w) A (Ew (.ref sl) (pure (n:Int))) Q E s:=by obtain⟨os,I,q0,q⟩:=id hs;unfold Ew Ir;refine Aa (Aa (Bk I q rfl (Aa (Bk I q rfl (Aa (Bk I q rfl (Af ?_)))))));refine Aa (HP ?_);rw[if_neg (by decide)];refine Aa (qR pl (Aa (qR pu (Aa (Af ?_)))));show Av _ _ (match Dr lo hi 1 (n:Int) with|(lo,hi)=>pure (lo,(1:Int),C1 lo hi 1)) _ _ s;rw[aAA lo hi n];show Av _ _ (pure (((sIx n 0 lo:Nat):Int),(1:Int),C1 ((sIx n 0 lo:Nat):Int) ((sIx n n hi:Nat):Int) 1)) _ _ s;rw[aAB];exact Af h
theorem aES(xs:Array Ac)(i k:Nat):((Ar k).filterMap λ(m:Nat)=>xs[((i:Int)+(m:Int)*1).toNat]?).toArray=((xs.toList.drop i).take k).toArray:=by
 have e:(λ(m:Nat)=>xs[((i:Int)+(m:Int)*1).toNat]?)=λm=>xs[i+m]? := by
  funext m
  grind
 rw[e];have:=pick_run xs i k;rw[List.filterMap_map] at this;have q:((λx=>xs[x]?)∘λx=>i+x)=λm=>xs[i+m]? := rfl;rw[q] at this;rw[this]
theorem getItem_tuple_cut{t sl:Ah}{items:Array Ac}{vl vu:Ac}{lo hi:Option Int}{Q:Ac->Ae->Prop}(I:IsTup s.heap t items)(hs:s.heap.IsSliceOf sl vl vu .none)(pl:Fi vl lo)(pu:Fi vu hi)
 (hw:¬ (sIx items.size 0 lo=0/\sIx items.size items.size hi=items.size))
 (h:Q (.ref s.heap.objs.size) { s with heap:=s.heap.push { cls:=.type "tuple",data:=.seq ((items.toList.drop (sIx items.size 0 lo)).take (sIx items.size items.size hi-sIx items.size 0 lo)).toArray } })
 (hsz:items.size<=sizeLine):Av (AC prog w) A (FQ (.ref t) (.ref sl)) Q E s:=by
 have q:sizeOk (.seq ((items.toList.drop (sIx items.size 0 lo)).take (sIx items.size items.size hi-sIx items.size 0 lo)).toArray):=by show((items.toList.drop (sIx items.size 0 lo)).take (sIx items.size items.size hi-sIx items.size 0 lo)).toArray.size<=sizeLine;rw[Ak,A9,BI,B3];omega
 obtain⟨os,q0,U,q1⟩:=id hs;unfold FQ
 try with_reducible refine AY ?_
 first|refine Aa (Af ?_)|skip
 refine Aa (G4 I.typeIs (by decide) ?_);refine Aa (Ba I.typeIs Bp
  (Bb Bp I.typeIs FU ?_ (Gk _ _)))
 show Av _ _ (Dh (.ref t) >>= _) _ _ s;refine Aa (I0 I ?_);refine Aa (Eo (⟨os,q0,U⟩) ?_);rw[if_pos (by decide)];refine Aa (sliceApplied_gen hs pl pu ?_);have W:¬ ((((sIx items.size 0 lo:Nat):Int)==0&&(1:Int)==1&&(sIx items.size items.size hi-sIx items.size 0 lo)==items.size)=true):=by grind
 show Av _ _ (if (((sIx items.size 0 lo:Nat):Int)==0&&(1:Int)==1&&(sIx items.size items.size hi-sIx items.size 0 lo)==items.size)=true then _ else _) _ _ s;rw[if_neg W,aES]
 first
  | exact Aa (Bn (Af ⟨_,rfl,Af h⟩) q)
  | exact Aa (Bn (Aa (Af (Af ⟨_,rfl,Af h⟩))) q)
  | exact Aa (Aa (Bn (Af (Af ⟨_,rfl,Af h⟩)) q))
  | exact Aa (Aa (Bn (Af ⟨_,rfl,Af h⟩) q))
end
end HT
namespace L2
open PySem PySem.Spec PyProof.Rows
abbrev TO:=St->Hp->(Option Int->Hp->Prop)->Prop
noncomputable def PO(X:Cx)(e:Option As)(t:TO):Prop:=
 ∀(G:List (Ah×Obj)) (s:Ae) (Z:St) (H:Hp) (Q:Option Int->Hp->Prop),Inv X G Z H s->t Z H Q ->
  Av (AC X.prog X.w) X.A (evalPart e X.env) (λu s'=>∃o H',Inv X G Z H' s'/\Fi u o/\Q o H') X.xe s
noncomputable def aHH:TO:=λ_ H Q=>Q none H
noncomputable def aNc(t:TE):TO:=λZ H Q=>t Z H λx H1=>∃i,x=.int i/\Q (some i) H1
theorem qS{ns:List Int}:∀{us:List Ac},bC (ns.map V.int) us->CD us ns:=by
 induction ns with
 | nil=>intro us r;rw[IV] at r;cases r;exact .nil|cons n ns q=>
  intro us r;rw[I9] at r;cases r with
  | cons I U=>obtain⟨t,e⟩:=I;subst e;exact .cons n t (q U)
section
variable {X:Cx} {e:As} {te:TE} {lo hi:Option As} {tl th:TO} {pos p2:CB}
theorem aHI:PO X none aHH:=by intro G s Z H Q I h;rw[IA];exact Af ⟨none,H,I,.none,h⟩
theorem aHJ(h:PE X e te):PO X (some e) (aNc te):=by intro G s Z H Q I W;rw[evalPart_some];refine thn (h G s Z H _ I W) λu s1 ⟨x,H1,U,r1,q1⟩=>?_;obtain⟨i,rfl,q⟩:=q1;obtain⟨t,rfl⟩:=r1;exact⟨some i,H1,U,.int i t,q⟩
noncomputable def SlR(X:Cx)(r:V->Option Int->Option Int->Hp->VK->Prop):Prop:=
 ∀(G:List (Ah×Obj)) (s:Ae) (Z:St) (H:Hp) (x:V) (v vl vu:Ac) (lo hi:Option Int) (sl:Ah) (Q:VK),Inv X G Z H s->bZ x v->s.heap.IsSliceOf sl vl vu .none->Fi vl lo->Fi vu hi->r x lo hi H Q ->
  ∃T id,typeLookup (.type T) "__getitem__" = pure (some (.builtin id))/\s.TypeIs v T/\Av (AC X.prog X.w) X.A (FQ v (.ref sl)) (EP X G Z Q) X.xe s
theorem SlR.or{r W:V->Option Int->Option Int->Hp->VK->Prop}(h:SlR X r)(h':SlR X W):SlR X (λx lo hi H Q=>r x lo hi H Q\/W x lo hi H Q):=by intro G s Z H x v vl vu lo hi sl Q I rx hs pl U q;rcases q with q|q;exact h G s Z H x v vl vu lo hi sl Q I rx hs pl U q;exact h' G s Z H x v vl vu lo hi sl Q I rx hs pl U q
noncomputable def tSl(r:V->Option Int->Option Int->Hp->VK->Prop)(te:TE)(tl th:TO):TE:=λZ H Q=>te Z H λx H1=>tl Z H1 λl H2=>th Z H2 λu H3=>r x l u H3 Q
theorem aET{r:V->Option Int->Option Int->Hp->VK->Prop}(hr:SlR X r)(he:PE X e te)(hl:PO X lo tl)(hu:PO X hi th):PE X (.Subscript e (.Slice lo hi none p2) pos) (tSl r te tl th):=by intro G s Z H Q I h;refine Subscript_ (thn (he G s Z H _ I h) λv s1 ⟨x,H1,I1,r1,q1⟩=>?_);refine wpAny_Slice (thn (hl G s1 Z H1 _ I1 q1) λW s2 ⟨l,H2,I2,pl,q2⟩=>thn (hu G s2 Z H2 _ I2 q2) λvu U ⟨u,H3,I3,pu,q3⟩=>?_);rw[IA];refine Af ?_;obtain⟨T,id,hT,ht,hg⟩:=hr G { U with heap:=U.heap.push { cls:=.type "slice",data:=.fields #[W,vu,.none] } } Z H3 x v W vu l u U.heap.objs.size Q (I3.kept λb ob q=>Ab _ q) r1 (J8 ..) pl pu q3;exact tail_any ht hT hg (by with_unfolding_all rfl)
noncomputable def aDm(xs:List V)(lo hi:Option Int):List V:=(xs.drop (HT.sIx xs.length 0 lo)).take (HT.sIx xs.length xs.length hi-HT.sIx xs.length 0 lo)
theorem oZ(xs:List V)(lo hi:Option Int):(aDm xs lo hi).length<=xs.length:=by unfold aDm;rw[A9,BI];omega
noncomputable def aNd(K:Aq):V->Option Int->Option Int->Hp->VK->Prop:=λx lo hi H Q=>∃a xs,x=.ref a/\SqT K H a xs /\
 ¬ (HT.sIx xs.length 0 lo=0/\HT.sIx xs.length xs.length hi=xs.length)/\∀p,H p=none->Q (.ref p) (upd H p (.tup (aDm xs lo hi)))
theorem aKl:SlR X (aNd X.K):=by
 intro G s Z H x v vl vu lo hi sl Q I rx hs pl pu h;obtain⟨a,xs,rfl,hx,hw,q⟩:=h;cases rx;obtain⟨W,r,ht,hz⟩:=I.tuple hx;have U:W.toArray.size=xs.length:=by rw[Ak];exact r.length.symm
 refine⟨"tuple",_,Bp.lookup,ht.typeIs,?_⟩;refine HT.getItem_tuple_cut ht hs pl pu (by rw[U];exact hw) ?_ (by rw[U];exact hz);rw[U];refine⟨.ref s.heap.objs.size,_,I.laid (λb ob q=>Ab _ q) (Ap _) ?_,rfl,q _ (I.hok.fresh (Ap _))⟩;exact⟨AL (oZ xs lo hi) hz,_,(r.drop (HT.sIx xs.length 0 lo)).take (HT.sIx xs.length xs.length hi-HT.sIx xs.length 0 lo),IQ _ _⟩
noncomputable def aPR(K:Aq):R2:=λx y H Q=>∃a b ns ms,x=.ref a/\y=.ref b/\SqT K H a (ns.map V.int)/\SqT K H b (ms.map V.int)/\Q (.bl (HT.lexLt ns ms)) H
theorem aKm(hu:X.A.units<Cv):OpR X (BE .Lt) (aPR X.K):=by intro G s Z H x y v u Q I rx ry h;obtain⟨a,b,ns,ms,rfl,rfl,W,hb,q⟩:=h;cases rx;cases ry;obtain⟨q0,r1,p1,_⟩:=I.tuple W;obtain⟨U,r2,p2,_⟩:=I.tuple hb;exact HT.lt_tupInts p1 p2 (qS r1) (qS r2) hu ⟨.bl (HT.lexLt ns ms),H,I,rfl,q⟩
noncomputable def aNe(K:Aq):R2:=λx y H Q=>∃a b xs ys,x=.ref a/\y=.ref b/\SqT K H a xs/\SqT K H b ys/\xs≠[]/\xs.length+ys.length<=sizeLine /\
 (ys=[]->Q (.ref a) H)/\(ys≠[]->∀p,H p=none->Q (.ref p) (upd H p (.tup (xs++ys))))
theorem bC.nil_iff{xs:List V}{us:List Ac}(r:bC xs us):us=[]↔xs=[]:=by
 cases r with
 | nil=>simp|cons _ _=>simp
theorem aHK:OpR X (Dv .Add) (aNe X.K):=by intro G s Z H x y v u Q I rx ry h;obtain⟨a,b,xs,ys,rfl,rfl,ha,hb,hx,hz,q1,q2⟩:=h;cases rx;cases ry;obtain⟨q3,W,p1,_⟩:=I.tuple ha;obtain⟨q0,U,p2,_⟩:=I.tuple hb;refine HT.cat_tup p1 p2 (λz=>hx (W.nil_iff.mp z)) (λz=>⟨.ref a,H,I,rfl,q1 (U.nil_iff.mp z)⟩) (λz=>?_) (by rw[<-W.length,<-U.length];exact hz);refine⟨.ref s.heap.objs.size,_,I.laid (λb ob q=>Ab _ q) (Ap _) ?_,rfl,q2 (λw=>z (U.nil_iff.mpr w)) _ (I.hok.fresh (Ap _))⟩;exact⟨by rw[D7];exact hz,_,W.append U,IQ _ _⟩
end
noncomputable def ixN(n:Nat)(i:Int):Option Nat:=if 0<=i then (if i<n then some i.toNat else none) else if -(n:Int)<=i then some (i+n).toNat else none
noncomputable def atI{α:Type}(xs:List α)(i:Int):Option α:=(ixN xs.length i).bind λj=>xs[j]?
theorem vN{n:Nat}{i:Int}{j:Nat}(h:ixN n i=some j):GQ i n=some j/\j<n/\-(n:Int)<=i/\i<n:=by unfold ixN at h;by_cases q:0<=i;rw[if_pos q] at h;by_cases h1:i<n;rw[if_pos h1] at h;have e:=AF h;exact⟨by rw[Hj q h1,e],by omega,by omega,h1⟩;grind;rw[if_neg q] at h;by_cases h1:-(n:Int)<=i;rw[if_pos h1] at h;have e:=AF h;exact⟨by rw[G5 (by omega) h1,e],by omega,h1,by omega⟩;grind
theorem vO{α:Type}{xs:List α}{i:Int}{v:α}(h:atI xs i=some v):∃j,GQ i xs.length=some j/\xs[j]? = some v/\j<xs.length/\-(xs.length:Int)<=i/\i<xs.length:=by
 unfold atI at h;cases e:ixN xs.length i with
 | none=>rw[e] at h;cases h|some j=>rw[e] at h;obtain⟨h1,h2,q,I⟩:=vN e;grind
noncomputable def aBK(b:As):Prop:=∀o i,Jo b false o i=operate [o,i] (FQ o i)
noncomputable def IxR(X:Cx)(r:R2):Prop:=
 ∀(value slice:As) (G:List (Ah×Obj)) (s:Ae) (Z:St) (H:Hp) (x y:V) (v u:Ac) (Q:VK),Inv X G Z H s->bZ x v->bZ y u->r x y H Q ->
  Jo slice false v u=operate [v,u] (FQ v u)->Av (AC X.prog X.w) X.A (subscriptTail value slice v u) (EP X G Z Q) X.xe s
noncomputable def MtR(X:Cx)(id:String)(r:V->List V->Hp->VK->Prop):Prop:=
 ∀(G:List (Ah×Obj)) (s:Ae) (Z:St) (H:Hp) (x:V) (xs:List V) (v:Ac) (us:List Ac) (Q:VK),Inv X G Z H s->bZ x v->bC xs us->r x xs H Q ->
  Av (AC X.prog X.w) X.A (call (.builtin id) (v::us)) (EP X G Z Q) X.xe s
section
variable {X:Cx} {a b:As} {ta tb:TE} {pos:CB}
theorem IxR.or{r r':R2}(h:IxR X r)(h':IxR X r'):IxR X (λx y H Q=>r x y H Q\/r' x y H Q):=by intro W U G s Z H x y v u Q I rx ry q hs;rcases q with q|q;exact h W U G s Z H x y v u Q I rx ry q hs;exact h' W U G s Z H x y v u Q I rx ry q hs
theorem aBL{r:R2}(hr:IxR X r)(ha:PE X a ta)(hb:PE X b tb)(hs:aBK b):PE X (.Subscript a b pos) (tOp r ta tb):=by intro G s Z H Q I h;exact Subscript_ (aMS ha hb I h λv u s2 x y U W rx ry q=>hr a b G s2 Z U x y v u Q W rx ry q (hs _ _))
noncomputable def aNf(K:Aq):R2:=λx y H Q=>∃p xs i v,x=.ref p/\y=.int i/\SqL K H p xs/\atI xs i=some v/\Q v H
noncomputable def aNg(K:Aq):R2:=λx y H Q=>∃p xs i v,x=.ref p/\y=.int i/\SqT K H p xs/\atI xs i=some v/\Q v H
noncomputable def aNh:R2:=λx y H Q=>∃z i c,x=.str z/\y=.int i/\z.length<=sizeLine/\atI z.cps.toList i=some c/\Q (.str ⟨#[c]⟩) H
theorem aHL:IxR X (aNf X.K):=by
 intro q2 q1 G s Z H x y v u Q I rx ry h hs;obtain⟨p,xs,i,z,rfl,rfl,hq,he,q⟩:=h;cases rx;obtain⟨t,rfl⟩:=ry;obtain⟨q0,r,pl,hz⟩:=I.list hq;obtain⟨j,h1,h2,h3,h4,h5⟩:=vO he;obtain⟨w,ew,U⟩:=r.get h2;have hl:=r.length;have hn:=lO;by_cases h0:0<=i;have W:i.toNat=j:=by rw[Hj h0 h5] at h1;grind
 exact item_listR pl.isList h0 (by omega) (by rw[W];grind) (⟨z,H,I,U,q⟩) hs;have W:(i+(q0.toArray.size:Int)).toNat=j:=by rw[G5 (by omega) h4] at h1;rw[Ak,<-hl];grind
 exact Fj pl.isList.typeIs G6.lookup
  (wpAny_getItem_list_neg pl.isList (by omega) (by rw[Ak] <;> omega) (by omega) (by rw[W];grind) ⟨rfl,(⟨z,H,I,U,q⟩)⟩) hs
theorem aEU:IxR X (aNg X.K):=by
 intro q0 W G s Z H x y v u Q I rx ry h hs;obtain⟨p,xs,i,z,rfl,rfl,hq,he,q⟩:=h;cases rx;obtain⟨t,rfl⟩:=ry;obtain⟨q1,r,pl,hz⟩:=I.tuple hq;obtain⟨j,h1,h2,h3,h4,h5⟩:=vO he;obtain⟨w,ew,U⟩:=r.get h2;have hn:=lO;exact Fj pl.typeIs slot_tuple_getitem.lookup
  (getItem_tuple pl (by omega) (by omega) (by rw[Ak,<-r.length];exact h1) (by grind) ⟨rfl,(⟨z,H,I,U,q⟩)⟩) hs
theorem aKn:IxR X aNh:=by
 intro W U G s Z H x y v u Q I rx ry h hs;obtain⟨z,i,c,rfl,rfl,hz,he,q⟩:=h;obtain⟨t,rfl⟩:=rx;obtain⟨t',rfl⟩:=ry;obtain⟨j,h1,h2,h3,h4,h5⟩:=vO he;have hl:z.cps.toList.length=z.length:=by simp[J9]
 rw[hl] at h1 h4 h5;have hn:=lO;exact tail_any (typeIs_str s z t) slot_str_getitem.lookup (getItem_str (by
  rw[(A5 (by omega)),(A5 (by omega)),IB]) (by rw[h1];grind) ⟨.str ⟨#[c]⟩,H,I.tok _,⟨_,rfl⟩,q⟩) hs
noncomputable def rIx(K:Aq):R2:=λx y H Q=>aNf K x y H Q\/aNg K x y H Q\/aNh x y H Q
theorem aAC:IxR X (rIx X.K):=aHL.or (aEU.or aKn)
theorem aAD(q:List Ac)(n j:Nat)(u:Ac):D8 (·.setIfInBounds j u) { cls:=.type "list",data:=.seq q.toArray n }={ cls:=.type "list",data:=.seq (q.set j u).toArray n }:=by simp[D8]
theorem Inv.lst{G:List (Ah×Obj)}{Z:St}{H:Hp}{s:Ae}{p:Ah}{xs:List V}(I:Inv X G Z H s)(h:H p=some (.lst xs)) :
 ∃(q:List Ac) (n:Nat),bC xs q/\s.heap.get? p=some { cls:=.type "list",data:=.seq q.toArray n }/\xs.length<=sizeLine:=by obtain⟨z,q,n,r,e⟩:=I.hok p _ h;grind
theorem Inv.lstUpd{G:List (Ah×Obj)}{Z:St}{H:Hp}{s:Ae}{p:Ah}{xs ys:List V}{W U:List Ac}{n n':Nat}{f:Obj->Obj}(I:Inv X G Z H s)(h:H p=some (.lst xs))
 (ho:s.heap.get? p=some { cls:=.type "list",data:=.seq W.toArray n }) (hf:f { cls:=.type "list",data:=.seq W.toArray n }={ cls:=.type "list",data:=.seq U.toArray n' }) (r:bC ys U) (hz:ys.length<=sizeLine) (t:Nat) :
 Inv X G Z (upd H p (.lst ys)) { s with heap:=s.heap.update p f,toks:=t }:=by
 have e:(s.heap.update p f).get? p=some { cls:=.type "list",data:=.seq U.toArray n' }:=by rw[C0 f ho (by rw[hf] <;> rfl),hf]
 refine I.write (by rw[h];trivial) (.inl rfl) (λb u hb q=>(CN _ _ (Dc hb)).trans q) ⟨_,e⟩ ?_;exact⟨hz,U,n',r,e⟩
noncomputable def aNi:V->V->V->Hp->(Hp->Prop)->Prop:=λo i v H Q=>∃p xs k j,o=.ref p/\i=.int k/\H p=some (.lst xs)/\ixN xs.length k=some j/\Q (upd H p (.lst (xs.set j v)))
theorem aEV:aJX X aNi:=by
 intro G s Z H o i v ov iv u Q I ro ri rv h;obtain⟨p,xs,k,j,rfl,rfl,hp,hj,q⟩:=h;cases ro;obtain⟨t,rfl⟩:=ri;obtain⟨U,n,r,ho,hz⟩:=I.lst hp;obtain⟨h1,h2,h3,h4⟩:=vN hj;have hn:=lO;have I':=
  I.lstUpd hp ho (aAD U n j u) (r.set rv j) (by rw[Az];exact hz) s.toks
 by_cases h0:0<=k;have W:k.toNat=j:=by rw[Hj h0 h4] at h1;grind
 exact PySem.W.ki_setAt ho h0 (by omega) (by rw[Ak,<-r.length];exact h4) (by rw[W];grind);have W:(k+(U.toArray.size:Int)).toNat=j:=by rw[G5 (by omega) h3] at h1;rw[Ak,<-r.length];grind
 exact PySem.W.ki_setBack ho (by omega) (by rw[Ak,<-r.length];exact h3) (by omega) (by rw[W];grind)
theorem vP(lo hi:Option Int)(n:Nat):(DA lo hi none n).1=((HT.sIx n 0 lo:Nat):Int)/\(DA lo hi none n).2.1=((HT.sIx n n hi:Nat):Int)/\(DA lo hi none n).2.2=1:=by
 refine⟨?_,?_,rfl⟩;cases lo with
 | none=>simp[DA,HT.sIx]|some i=>simp only[DA,HT.sIx];grind
 cases hi with
 | none=>simp[DA,HT.sIx]|some i=>simp only[DA,HT.sIx];grind
theorem tM(q:List Ac)(lo hi:Option Int):slicePick q.toArray lo hi none=((q.drop (HT.sIx q.length 0 lo)).take (HT.sIx q.length q.length hi-HT.sIx q.length 0 lo)).toArray:=by obtain⟨h1,h2,I⟩:=vP lo hi q.toArray.size;unfold slicePick;rw[h1,h2,I];simp only[sliceRange_one,pick_run] <;> rfl
noncomputable def aNj(K:Aq):V->Option Int->Option Int->Hp->VK->Prop:=λx lo hi H Q=>∃a xs,x=.ref a/\SqL K H a xs/\∀p,H p=none->Q (.ref p) (upd H p (.lst (aDm xs lo hi)))
theorem aHM:SlR X (aNj X.K):=by intro G s Z H x v vl vu lo hi sl Q I rx hs pl pu h;obtain⟨a,xs,rfl,hx,q⟩:=h;cases rx;obtain⟨q0,r,W,hz⟩:=I.list hx;have U:=r.length;refine⟨"list",_,G6.lookup,W.isList.typeIs,?_⟩;refine wpAny_getItem_list_slice W.isList hs pl pu .none (by simp) ?_ (by rw[Ak] <;> omega);rw[tM,<-U];refine⟨.ref s.heap.objs.size,_,I.laid (λb ob q=>Ab _ q) (Ap _) ?_,rfl,q _ (I.hok.fresh (Ap _))⟩;exact⟨AL (oZ xs lo hi) hz,_,0,(r.drop (HT.sIx xs.length 0 lo)).take (HT.sIx xs.length xs.length hi-HT.sIx xs.length 0 lo),Aj _ rfl⟩
theorem vQ:gG X (.builtin "len") (λxs H Q=>∃p ys,xs=[.ref p]/\(SqL X.K H p ys\/SqT X.K H p ys)/\Q (.int ys.length) H):=by intro G s Z H xs us Q I r h;obtain⟨p,ys,rfl,W,q⟩:=h;obtain⟨u,rfl,rx⟩:=mK r;cases rx;have hn:=lO;rcases W with W|W;obtain⟨q0,r',pl,hz⟩:=I.list W;have U:=r'.length;exact Calls.call_len_list pl.isList (by simp only[Ak] <;> omega) ⟨.int ys.length,H,I.tok _,⟨s.toks+1,by rw[Ak,U]⟩,q⟩;obtain⟨q0,r',pl,hz⟩:=I.tuple W;have U:=r'.length;exact len_tuple pl (by simp only[Ak] <;> omega) ⟨.int ys.length,H,I.tok _,⟨s.toks+1,by rw[Ak,U]⟩,q⟩
theorem vR:gG X (.builtin "len") (λxs H Q=>∃z,xs=[.str z]/\z.length<=sizeLine/\Q (.int z.length) H):=by intro G s Z H xs us Q I r h;obtain⟨z,rfl,W,q⟩:=h;obtain⟨u,rfl,t,rfl⟩:=mK r;have U:=lO;exact len_str (by omega) ⟨.int z.length,H,I.tok _,⟨_,rfl⟩,q⟩
theorem gG.or{f:Ac}{r U:List V->Hp->VK->Prop}(h:gG X f r)(h':gG X f U):gG X f (λxs H Q=>r xs H Q\/U xs H Q):=by intro G s Z H xs us Q I W q;rcases q with q|q;exact h G s Z H xs us Q I W q;exact h' G s Z H xs us Q I W q
theorem vS:gG X (.type "list") (λxs H Q=>∃p ys,xs=[.ref p]/\(SqL X.K H p ys\/SqT X.K H p ys)/\∀l,H l=none->Q (.ref l) (upd H l (.lst ys))):=by
 intro G s Z H xs us Q I r h;obtain⟨p,ys,rfl,hq,q⟩:=h;obtain⟨u,rfl,rx⟩:=mK r;cases rx;have q0:∀(U:List Ac),bC ys U->ys.length<=sizeLine->∀(h':Heap) (W:Nat),(∀b o',s.heap.get? b=some o'->h'.get? b=some o') ->
  h'.get? s.heap.objs.size=some { cls:=.type "list",dict:=none,data:=.seq U.toArray W,slots:=#[] }->EP X G Z Q (.ref s.heap.objs.size) { s with heap:=h' }:=λU r' hz h' W kp e=>
  ⟨.ref s.heap.objs.size,_,I.laid kp (Ap _) (show gF X.prog X.w _ h' _ (.lst ys) from⟨hz,U,W,r',e⟩),rfl,q _ (I.hok.fresh (Ap _))⟩
 rcases hq with hq|hq;obtain⟨U,r',pl,hz⟩:=I.list hq;have q1:=r'.length;obtain⟨o,ho,hc,n,hd⟩:=pl.isList;exact IC p (.inl rfl) ho hc hd (λh' W kp e=>q0 U r' hz h' W kp e) (by simp only[Ak] <;> omega);obtain⟨U,r',pl,hz⟩:=I.tuple hq;have q1:=r'.length;obtain⟨o,ho,hc,n,hd⟩:=pl;exact IC p (.inr rfl) ho hc hd (λh' W kp e=>q0 U r' hz h' W kp e) (by simp only[Ak] <;> omega)
theorem tN:gG X (.type "tuple") (λxs H Q=>∃p ys,xs=[.ref p]/\((SqL X.K H p ys/\∀l,H l=none->Q (.ref l) (upd H l (.tup ys)))\/(SqT X.K H p ys/\Q (.ref p) H))):=by
 intro G s Z H xs us Q I r h;obtain⟨p,ys,rfl,h⟩:=h;obtain⟨u,rfl,rx⟩:=mK r;cases rx;rcases h with⟨W,q⟩|⟨W,q⟩
 obtain⟨U,r',pl,hz⟩:=I.list W;have q0:=r'.length;refine call_tuple_list pl.isList (λh' kp=>?_) (by simp only[Ak] <;> omega);have I2:Inv X G Z (upd H h'.objs.size (.tup ys)) { s with heap:=h'.push { cls:=.type "tuple",data:=.seq U.toArray } }:=
  (I.kept (t':=s.toks) kp).laid (λb o e=>Ab _ e) (Ap _) (⟨hz,U,r',IQ _ _⟩)
 exact⟨.ref h'.objs.size,_,I2,rfl,q _ ((I.kept (t':=s.toks) kp).hok.fresh (Ap _))⟩;obtain⟨U,r',pl,hz⟩:=I.tuple W;exact call_tuple_same pl ⟨.ref p,H,I,rfl,q⟩
noncomputable def tyV(K:Aq)(T:String)(x:V)(H:Hp):Prop:=match x with
 | .str _=>T = "str"|.int _=>T = "int"|.ref p=>(T = "list" /\ ∃xs,SqL K H p xs)\/(T = "tuple" /\ ∃o,K.lookup p=some o/\o.cls=.type "tuple" /\ o.dict=none) \/
  False
 | _=>False
theorem aKo{G:List (Ah×Obj)}{Z:St}{H:Hp}{s:Ae}{T:String}{x:V}{v:Ac}(I:Inv X G Z H s)(r:bZ x v)(ty:tyV X.K T x H) :
 s.TypeIs v T/\∀a,v=.ref a->∃U,s.heap.get? a=some U/\U.dict=none:=by
 cases x with
 | str z=>obtain⟨t,rfl⟩:=r;cases(ty);exact⟨typeIs_str s z t,λ_ e=>nomatch e⟩|int i=>obtain⟨t,rfl⟩:=r;cases(ty);exact⟨HQ s i t,λ_ e=>nomatch e⟩|ref p=>cases r;rcases ty with⟨rfl,xs,hq⟩|⟨rfl,o,q,W,hd⟩|q;obtain⟨q0,_,pl,_⟩:=I.list hq;refine⟨pl.isList.typeIs,λa e=>?_⟩;cases e;obtain⟨o,n,e,c,hd,_⟩:=pl;grind;refine⟨⟨o,I.kIn p o q,W⟩,λa e=>?_⟩;cases e;exact⟨o,I.kIn _ o q,hd⟩;grind
 | _=>exact D6 ty
noncomputable def tBM(K:Aq)(T:String)(r:V->List V->Hp->VK->Prop)(to:TE)(t:TA):TE:=λZ H Q=>to Z H λx H1=>tyV K T x H1/\t Z H1 λxs H2=>r x xs H2 Q
variable {o e:As} {es:List As} {to:TE} {t:TA} {name:Str} {apos cpos:CB} {T id:String} {r:V->List V->Hp->VK->Prop}
theorem yH(pa:PlainAttrs T)(slot:Slot T name id)(q3:typeOf (.builtin id)=pure (.type "method_descriptor"))(hm:MtR X id r)(ho:PE X o to)(ha:PA X (e::es) t)
 (q:attributeBase o name X.env (DD o X.env)=DD o X.env:=by rfl)
 (W:((F8 cpos (Bq (e::es) X.env)).all (λx=>!x.1)&&(backToKw cpos (keywordEach [] X.env)).all (λx=>x.1.isSome)
  && decide ((e::es).length+([]:List JL).length+(if ([]:List JL).isEmpty then 0 else 1)<30))=true:=by rfl)
 (U:(apos.endLine==cpos.line)=true:=by rfl) (hs:Bq (e::es) X.env=(false,DD e X.env)::Bq es X.env:=by rfl) (q0:(F8 cpos (Bq es X.env)).any (·.1)=false:=by rfl) :
 PE X (.Call (.Attribute o name apos) (e::es) [] cpos) (tBM X.K T r to t):=by intro G s Z H Q I h;refine Fk q W U rfl (thn (ho G s Z H _ I h) λv s1 ⟨x,H1,I1,r1,ty,q1⟩=>?_);obtain⟨h1,h2⟩:=aKo I1 r1 ty;refine⟨T,id,pa,slot,q3,h1,h2,?_⟩;have hA:=ha cpos G s1 Z H1 _ I1 q1;rw[hs] at hA ⊢;exact Fl (by grind) (FB (thn hA λus s2 ⟨vs,H2,I2,r2,q2⟩=>hm G s2 Z H2 x vs v us Q I2 r1 r2 q2))
end
noncomputable def MtM(X:Cx)(id:String)(r:V->List V->Hp->VK->Prop):Prop:=
 ∀(G:List (Ah×Obj)) (s:Ae) (Z:St) (H:Hp) (x:V) (xs:List V) (v:Ac) (us:List Ac) (Q:VK),Inv X G Z H s->bZ x v->bC xs us->r x xs H Q ->
  Av (AC X.prog X.w) X.A (call (.builtin id) (v::us)) (EP X G Z Q) X.xe s
theorem bC.one:∀{x:V} {us:List Ac},bC [x] us->∃u,us=[u]/\bZ x u:=by intro x us h;cases h with|cons r t=>cases t;grind
theorem bC.zero:∀{us:List Ac},bC [] us->us=[]
 | _,.nil=>rfl
theorem bC.eraseIdx:∀{xs:List V} {us:List Ac} (i:Nat),bC xs us->bC (xs.eraseIdx i) (us.eraseIdx i)
 | _,_,_,.nil=>.nil|_,_,0,.cons _ t=>t|_,_,i+1,.cons r t=>.cons r (bC.eraseIdx i t)
theorem bC.rep{xs:List V}{us:List Ac}(h:bC xs us):∀k:Nat,bC (Al k xs).flatten (Al k us).flatten
 | 0=>.nil|k+1=>by rw[BB,BB,Ce,Ce];exact bC.append h (bC.rep h k)
theorem uA(I:List Ac):∀(k:Nat) (q:List Ac),
 HR (λW x2=>W++x2) q.toArray (Al k I.toArray)=(q++(Al k I).flatten).toArray
 | 0,q=>by simp|k+1,q=>by
  have e:q.toArray++I.toArray=(q++I).toArray:=by simp
  have U:(q++I)++(Al k I).flatten=q++(Al (k+1) I).flatten:=by rw[BB,Ce,AU]
  rw[<-U,<-uA I k (q++I),<-e,BB,Ci]
section
variable {X:Cx} {G:List (Ah×Obj)} {Z:St} {H:Hp} {s:Ae} {l b:Ah} {xs ys zs:List V}
theorem Inv.lset{W U:List Ac}{n:Nat}{f:Array Ac->Array Ac}{t':Nat}(I:Inv X G Z H s)(hH:H l=some (.lst xs))
 (e:s.heap.get? l=some { cls:=.type "list",data:=.seq W.toArray n }) (hf:f W.toArray=U.toArray) (hv:bC ys U) (hz:ys.length<=sizeLine) :
 Inv X G Z (upd H l (.lst ys)) { s with heap:=s.heap.update l (D8 f),toks:=t' }:=by have q:=GR e f;rw[hf] at q;refine I.write (by rw[hH];exact trivial) (.inl rfl) (λb' u hb hu=>(CN s.heap (D8 f) (Dc hb)).trans hu) ⟨_,q⟩ ?_;exact⟨hz,U,_,hv,q⟩
theorem Inv.lnew{U:List Ac}{t':Nat}(I:Inv X G Z H s)(W:bC ys U)(hz:ys.length<=sizeLine) :
 Inv X G Z (upd H s.heap.objs.size (.lst ys)) { s with heap:=s.heap.push { cls:=.type "list",data:=.seq U.toArray },toks:=t' }:=
 I.laid (λ_ _ q=>Ab _ q) (Ap _) ⟨hz,U,0,W,Aj _ rfl⟩
theorem Inv.fresh(I:Inv X G Z H s):H s.heap.objs.size=none:=I.hok.fresh (Ap _)
theorem Inv.lstM(I:Inv X G Z H s)(U:H l=some (.lst xs)):xs.length<=sizeLine/\∃(q:List Ac) (n:Nat),bC xs q/\xs.length=q.length/\s.heap.get? l=some { cls:=.type "list",data:=.seq q.toArray n }:=by obtain⟨z,q,n,r,e⟩:=I.hok l _ U;exact⟨z,q,n,r,r.length,e⟩
theorem yI{n:Nat}(h:n<=sizeLine):CA n=false:=by unfold CA;grind
end
section
variable {X:Cx}
noncomputable def aHN:V->List V->Hp->VK->Prop:=λx vs H Q=>∃l xs y,x=.ref l/\vs=[y]/\H l=some (.lst xs)/\xs.length<sizeLine/\Q .non (upd H l (.lst (xs++[y])))
theorem nU:MtM X "list.append" aHN:=by intro G s Z H x vs v us Q I rx rv h;obtain⟨l,xs,y,rfl,rfl,W,hz,q⟩:=h;cases rx;obtain⟨u,rfl,ru⟩:=rv.one;obtain⟨z,U,n,r,hl,e⟩:=I.lstM W;refine Ex Gm ⟨_,e,rfl⟩ FV (FC _ _) (G7 l U.toArray n u (by rw[Ak];omega)) ⟨e,?_⟩;refine⟨.non,_,I.lset W e (by simp) (r.append (.cons ru .nil)) ?_,rfl,q⟩;rw[D7,BU];omega
noncomputable def aHO:V->List V->Hp->VK->Prop:=λx vs H Q=>∃l b xs zs,x=.ref l/\vs=[.ref b]/\H l=some (.lst xs)/\H b=some (.lst zs)/\xs.length+zs.length<=sizeLine/\Q .non (upd H l (.lst (xs++zs)))
theorem aDn:MtM X "list.extend" aHO:=by
 intro G s Z H x vs v us Q I rx rv h;obtain⟨l,b,xs,zs,rfl,rfl,hH,hB,hz,q⟩:=h;cases rx;obtain⟨u,rfl,ru⟩:=rv.one;cases ru;obtain⟨z,W,n,r,hl,e⟩:=I.lstM hH;obtain⟨z2,U,n2,r2,q1,e2⟩:=I.lstM hB;have hsz:W.toArray.size+U.toArray.size<=sizeLine:=by rw[Ak,Ak];omega
 have q0:¬ (!W.toArray.isEmpty&&CA (W.toArray.size+U.toArray.size))=true:=by rw[yI hsz,FD];grind
 refine Ex F.slot_list_extend ⟨_,e,rfl⟩ F.entry_list_extend (F.args_list_extend_2 _ _)
  (G8 l W.toArray n b U.toArray n2 q0 (by rw[Ak];omega) (by omega)) ⟨e,e2,?_⟩
 refine⟨.non,_,I.lset hH e (by simp) (r.append r2) ?_,rfl,q⟩;rw[D7];omega
noncomputable def aKp:V->List V->Hp->VK->Prop:=λx vs H Q=>∃l xs i k y,x=.ref l/\vs=[.int i]/\H l=some (.lst xs)/\-(2 ^ 63)<=i/\i<2 ^ 63/\GQ i xs.length=some k/\xs[k]? = some y/\Q y (upd H l (.lst (xs.eraseIdx k)))
theorem aEW:MtM X "list.pop" aKp:=by
 intro G s Z H x vs v us Q I rx rv h;obtain⟨l,xs,i,k,y,rfl,rfl,hH,h1,h2,hk,hy,q⟩:=h;cases rx;obtain⟨u,rfl,ru⟩:=rv.one;obtain⟨t,rfl⟩:=ru;obtain⟨z,U,n,r,hl,e⟩:=I.lstM hH;obtain⟨w,hw,W⟩:=r.get hy;refine Ex F.slot_list_pop ⟨_,e,rfl⟩ F.entry_list_pop (F.args_list_pop_2 _ _)
  (Jp l U.toArray n i t k w (HS h1 h2) (by rw[Ak,<-hl];exact hk) (by rw[<-BV];exact hw) (by rw[Ak];omega)) ⟨e,?_⟩
 refine⟨y,_,I.lset hH e ?_ (r.eraseIdx k) ?_,W,q⟩;grind;grind
noncomputable def aPS:R2:=λx y H Q=>∃l k xs,x=.ref l/\y=.int k/\H l=some (.lst xs)/\-(2 ^ 63)<=k/\k<2 ^ 63/\xs.length*k.toNat<=sizeLine /\
 ∀p,H p=none->Q (.ref p) (upd H p (.lst (Al k.toNat xs).flatten))
theorem aHP{α:Type}(xs:List α)(k:Nat):(Al k xs).flatten.length=k*xs.length:=by simp_all
theorem aKq:OpR X (Dv .Mult) aPS:=by
 intro G s Z H x y v u Q I rx ry h;obtain⟨l,k,xs,rfl,rfl,hH,h1,h2,hz,q⟩:=h;cases rx;obtain⟨t,rfl⟩:=ry;obtain⟨z,U,n,r,hl,e⟩:=I.lstM hH;have q2:U.toArray.size*k.toNat<=sizeLine:=by rw[Ak,<-hl];exact hz
 have q0:¬ U.toArray.size*k.toNat>(2 ^ 63-1) / 8:=by
  have:(sizeLine:Nat)<=(2 ^ 63-1) / 8:=by decide
  omega
 have q1:¬ (!HU k)=true:=by rw[HS h1 h2];grind
 have W:¬ CA (U.toArray.size*k.toNat)=true:=by rw[yI q2];grind
 have q3:HR (λx1 x2=>x1++x2) #[] (Al (if U.toArray.isEmpty=true then 0 else k.toNat) U.toArray)=(Al k.toNat U).flatten.toArray:=by
  have f0:∀m:Nat,HR (λx1 x2=>x1++x2) #[] (Al m U.toArray)=(Al m U).flatten.toArray:=λm=>by have:=uA U m [];rw[Ee] at this;exact this
  rw[f0];cases U with
  | nil=>simp|cons a r'=>rw[if_neg (by simp)]
 refine wpAny_binaryOp_repeat_ref (by decide) ⟨_,e,rfl⟩ (λs'=>HQ s' k t) noFill_list_mul F.fills_int_mul Hn repeat_list F.slot_int_index.lookup
  (Ex Hn (HQ s k t) F.entry_int_rmul (F.args_int_rmul_2 _ _) (int___rmul___int_list k t l U.toArray n)
   ⟨e,rfl,⟨_,e,rfl⟩,Ex F.slot_list_mul ⟨_,e,rfl⟩ F.entry_list_mul (F.args_list_mul_2 _ _) (G1 l U.toArray n k t q1 q0 W) ⟨e,?_⟩⟩)
 rw[q3];exact⟨.ref _,_,I.lnew (r.rep k.toNat) (by rw[aHP,Nat.mul_comm];exact hz),rfl,q _ I.fresh⟩
end
end L2
namespace Att
open PySem PySem.W PySem.Calls PyProof.Rows
theorem pM{P:HV}{h:Heap}:∀(ns:List Int) (vs:List Ac),WellAll P h vs (ns.map JS)->CD vs ns:=by
 intro ns
 induction ns with
 | nil=>intro vs w;rw[IV] at w;cases w;exact .nil|cons n ns q=>
  intro vs w;rw[I9] at w;cases w with
  | cons a b=>cases a;exact .cons _ _ (q _ b)
theorem aDo{l:JM}{n:Nat}(hn:l.most=some n){P:HV}{h:Heap}{args:List WData}{I:List Ac}
 (q:l.row.toRowW.claim.pre args=true) (q0:WellAll P h I args) :
 ∃a vs ns,I=[CV a]/\args=[WData.list (ns.map JS)]/\h.get? a=some { cls:=.type "list",data:=.seq vs.toArray }/\CD vs ns/\ns.length<=n:=by
 have hc:l.pre.holds [] { args:=args }=true:=(pre_splitW q).2;obtain⟨d,r,rfl,h1,h2⟩:=hasAllW_cons ((pre_splitW q).1);obtain rfl:=hasAllW_nil h2;obtain⟨xs,rfl,h3⟩:=hasW_list h1;obtain⟨ns,rfl⟩:=items_int h3;have W:ns.length<=n:=by
  unfold OpenLaw.pre at hc;have h4:(WTm.not (.lt (.lit (.int (n:Int))) (.len (.arg 0)))).holds [] { args:=[.list (ns.map .int)] }=true:=by have h4:=(holds_andW hc).1;rw[hn] at h4;exact h4
  have h5:=condW_of h4 (w_not (w_lt w_lit (w_len_list (w_arg rfl))));rw[Fw] at h5;grind
 cases q0 with
 | cons w1 w2=>
  cases w2;cases w1 with
  | list ho U=>exact⟨_,_,ns,rfl,rfl,ho,pM ns _ U,W⟩
theorem aDp(l:JM)(args:List WData):l.row.toRowW.claim.post args (.bool true) args=true:=
 postW_of
  (show JA [] (.bool true) .bool=true by first|rfl|decide|simp[JA])
  (w_eq_bool (w_res rfl) w_lit) rfl
theorem attach_call{l:JM}{n:Nat}{q:Ay}{U:List Str}{XP:(Str->Option Ac)->Heap->Prop}{YP:AJ->Heap->Prop}{d:DefRec}
 (hn:l.most=some n) (q4:d.params.defaults=[])
 (call:∀(w:AJ) (s₀ I:Ae) (mg mb:Str->Option Ac) (fa:Ah) (o:Obj) (pm cd doc:Ac) (a:Ah) (vs:List Ac) (ns:List Int),
  Ground q U [] XP w s₀ mg mb I.heap->YP w I.heap ->
  I.heap.get? fa=some o->o.data=.func (docDef d.name d.params d.body d.scope pm cd doc)->I.heap.CodeRec cd d.name->mg d.name=some (.ref fa) ->
  I.heap.get? a=some { cls:=.type "list",data:=.seq vs.toArray }->CD vs ns->ns.length<=n->I.gens=#[] ->
  D4 (AC l.prog w) FR (.call (.ref fa) ⟨[.ref a],[]⟩) (λr s'=>r=.ok (.ret (.bool true))/\OldK I.heap s'.heap/\s'.os=I.os/\EC s'.gens) I) :
 WalkO q U XP YP l.row.toRowW d [] (λf vs=>HW f vs):=by intro w s₀ I mg mb G' Y fa o pm cd doc dV kV ho hd q3 hD q5 hg args q8 as q2 q7 w3 q6 q9;obtain rfl:dV=.none:=Dflts.none hD q4;obtain rfl:kV=.none:=Dflts.noKw hD;obtain⟨a,vs,ns,rfl,rfl,q1,W,q0⟩:=aDo hn q2 q6;refine enter_call (Dn (call w s₀ I mg mb fa o pm cd doc a vs ns G' Y ho (fd_plain hd) q3 q5 q1 W q0 hg) λr s' hq=>?_);obtain⟨rfl,h2,h3,h4⟩:=hq;exact⟨.inl ⟨.bool true,.bool true,[],rfl,λ_=>rfl,.bool true,aDp l _,λ_=>⟨G9,λ_ hm=>(nomatch hm)⟩⟩,h2,h3,h4⟩
end Att
namespace L2
open PySem PySem.Spec PyProof.Rows
theorem iH:∀{vs:List Ac} {ns:List Int},CD vs ns->bC (ns.map V.int) vs
 | _,_,.nil=>.nil|_,_,.cons n t h=>.cons ⟨t,rfl⟩ (iH h)
noncomputable def aHQ(H:Hp):Prop:=∀b,H b=none\/∃o xs,H b=some (.frz o (.lst xs))
theorem aEX{P:Ay}{w:AJ}{K:Aq}{mg mb:Str->Option Ac}{CX:CXT}{k:Nat}{fa a:Ah}{fd:Df}{x:Str}{sp:Sp}{I:Ae}{vs:List Ac}{ns:List Int}
 (KX:K.In I.heap) (q4:I.heap.Ns B2 mg) (hb:I.heap.Ns Gg mb) (q7:∀x:Str,x ≠ "__name__" -> mb x=BM x) (q3:I.heap.NoLimit) (hg:I.gens=#[])
 (ha:I.heap.get? a=some { cls:=.type "list",data:=.seq vs.toArray }) (hi:CD vs ns) (hl:ns.length<=sizeLine) (hr:lP k FR)
 (F:∀base:Heap,K.In base->base.Ns B2 mg->pL P w K mg base CX k fa fd [x] sp) (q1:∀(s:Ae) (u:Ac),IU s fd ⟨[u],[]⟩ [(x,u)])
 (q8:∀H:Hp,aHQ H->SqL K H a (ns.map V.int)->sp [.ref a] H (λv _=>v=.bl true) λ_ _ _=>False)
 (q6:∀H e U,CX [] H I (λ_ _ _=>False) e U->False) :
 D4 (AC P w) FR (.call (.ref fa) ⟨[.ref a],[]⟩) (λr U=>r=.ok (.ret (.bool true))/\OldK I.heap U.heap/\U.os=I.os/\EC U.gens) I:=by
 have rv:=iH hi;have q0:∀H:Hp,aHQ H->SqL K H a (ns.map V.int)->HOk P w H I.heap->(∀b,H b≠none->b=a)->(H a≠none->K.lookup a=none) ->
  D4 (AC P w) FR (.call (.ref fa) ⟨[.ref a],[]⟩) (λr U=>r=.ok (.ret (.bool true))/\OldK I.heap U.heap/\U.os=I.os/\EC U.gens) I:=by
  intro H hO hS hok hA hK;have q9:∀{b:Ah} {o:Obj} {es:Array DR} {ep:Nat},I.heap.get? b=some o->o.data=.dict es ep->H b=none:=λ{b o es ep} e d=>by
   cases q:H b with
   | none=>rfl|some u=>grind
  have W:∀{b:Ah} {m:Str->Option Ac},I.heap.Ns b m->(aDb I.heap H).Ns b m:=λ{b m} ⟨o,es,ep,e,d,r⟩=>⟨o,es,ep,(λe n=>yB e n) e (q9 e d),d,r⟩
  have q2:K.In (aDb I.heap H):=λb o e=>(λe n=>yB e n) (KX b o e) (by
   cases q:H b with
   | none=>rfl|some u=>
    grind)
  refine Dn ((F _ q2 (W q4)).run FR [] I H ⟨[.ref a],[]⟩ [.ref a] [.ref a] _ _ hr (⟨rfl,(⟨q2,W q4,⟨mb,W hb,q7⟩,let ⟨mc,h1,h2⟩:=q3;⟨mc,W h1,h2⟩⟩),λb o e=>aHx e,Nat.le_of_eq (aDc _ _),trivial,λb hb=>absurd (show b∈([]:List Ah) from hb) (by simp),hok,.of_eq hg⟩) (q1 I (.ref a)) (.cons rfl .nil) (q8 H hO hS)) λr U h=>?_;cases r with
  | error e=>exact(q6 H e U h).elim|ok fl=>
   cases fl with
   | next=>exact D6 h|brk=>exact D6 h|cont=>exact D6 h|ret u=>
    obtain⟨v,H',os,bare,un,q5,r',q⟩:=h;subst q;obtain rfl:u=C9 true:=r';refine⟨rfl,OldK.of_keep λb o e=>?_,os,bare⟩;cases q:H b with
    | none=>exact un.keep b o e q (by intro z;exact absurd (show b∈([]:List Ah) from z) (by simp)) (by simp)|some u=>
     rcases hO b with z|⟨ob,xs,z⟩
     rw[q] at z;cases z;have z2:=un.frzs b ob _ z;obtain⟨e1,_⟩:=hok b _ z;obtain⟨e2,_⟩:=q5 b _ z2;rw[e] at e1;grind
 cases hk:K.lookup a with
 | some o=>have e:=KX a o hk;rw[ha] at e;cases e;refine q0 (λ_=>none) (λ_=>.inl rfl) (.inr ⟨_,vs.toArray,_,hk,rfl,rfl,rfl,by rw[Ak,hi.length];exact hl,by grind⟩) (λb u z=>by have z':(none:Option HO)=some u:=z;cases z') (λb z=>absurd rfl z) λz=>absurd rfl z|none=>refine q0 (λb=>if b=a then some (.frz { cls:=.type "list",data:=.seq vs.toArray } (.lst (ns.map V.int))) else none) (λb=>?_) (.inl (.inr ⟨{ cls:=.type "list",data:=.seq vs.toArray },if_pos rfl⟩)) (λb u z=>?_) (λb z=>?_) λ_=>hk;grind;by_cases hb:b=a;have z':=(if_pos hb).symm.trans z;cases z';subst hb;exact⟨ha,by rw[Fw];exact hl,vs,_,rv,ha⟩;grind;grind
noncomputable def kF(s:Ck):FP:=match s with|.FunctionDef _ a _ _ _ _ _ _ _ _=>a|_=>{ posonlyargs:=[],args:=[],vararg:=none,kwonlyargs:=[],kw_defaults:=[],kwarg:=none,defaults:=[] }
noncomputable def kG(s:Ck):List Ck:=match s with|.FunctionDef _ _ b _ _ _ _ _ _ _=>b|_=>[]
noncomputable def cG(s:Ck):De:=match s with|.FunctionDef _ _ _ _ _ _ sc _ _ _=>sc|_=>{ kind:=.function,names:=[],isGenerator:=false,isCoroutine:=false }
abbrev CX0:CXT:=λ_ _ _ _ _ _=>False
abbrev E0:XK:=λ_ _ _=>False
theorem aEY{X:Cx}:vM CX0 X E0:=λ_ _ _ _ _ _ _ h=>h.elim
structure Fun (K:Aq) (x qual:Str) (st:Ck) (f:Ah) (fd:Df):Prop where
 ex:∃(oc:Ac) (od:Option Ah) (kV doc pm:Ac) (an:Option Ah) (cdv ct:Ac) (osl:Array (Option Ac)),
  fd=Ff x qual (kF st) (kG st) (cG st) .none kV doc pm an cdv ct/\K.lookup f=some ⟨oc,od,.func fd,osl⟩/\HN K cdv qual=true
 kp:Dg K (.ref f)=true
section
variable {P:Ay} {w:AJ} {K:Aq} {mg:Str->Option Ac} {base:Heap}
theorem Fun.ok{x qual:Str}{st:Ck}{f:Ah}{fd:Df}{N ps:List Str}{k:Nat}{sp:Sp}(F:Fun K x qual st f fd)(S:pT N ps (cG st))(len:∀vs H Q E,sp vs H Q E->vs.length=ps.length)
 (I:∀(cdv:Ac) (A:Bf) (outer:List Iw) (s:Ae) (H:Hp) (vs:List V) (Q:VK) (E:XK),lP k (A.deeper (FA qual (cG st) s.heap.objs.size f cdv))->sp vs H Q E ->
  ∃t,PSs (aDj CX0 P w K mg base N qual (cG st) f cdv A outer s H E).nox (kG st) t/\t { nx:=λ_ H'=>Q .non H',rt:=Q } (start N vs) H):pL P w K mg base CX0 (k+1) f fd ps sp:=by obtain⟨oc,od,kV,doc,pm,an,cdv,ct,osl,rfl,lk,U⟩:=F.ex;refine aNb lk U S len λA outer s H vs Q E hr W=>?_;obtain⟨t,h,q⟩:=I cdv A outer s H vs Q E hr W;exact⟨t,h.nox,q⟩
theorem Fun.binds{x qual:Str}{st:Ck}{f:Ah}{fd:Df}{ps:List Str}(F:Fun K x qual st f fd)
 (h:∀(kV doc pm:Ac) (an:Option Ah) (cdv ct:Ac) (us:List Ac),us.length=ps.length->HJ (Ff x qual (kF st) (kG st) (cG st) .none kV doc pm an cdv ct) ⟨us,[]⟩=pure (ps.zip us)):lG K fd ps []:=by obtain⟨oc,od,kV,doc,pm,an,cdv,ct,osl,rfl,I,q⟩:=F.ex;exact .all (h kV doc pm an cdv ct)
end
theorem aKr{A B:Prop}(h:B):if false=true then A else B:=by rw[if_neg D5];exact h
theorem aKs{A B:Prop}(h:A):if true=true then A else B:=by rw[if_pos rfl];exact h
noncomputable def aQ(H H':Hp):Prop:=∀b o,H b=some o->H' b=some o
theorem aQ.refl(H:Hp):aQ H H:=λ_ _ h=>h
theorem aQ.trans{H H1 q:Hp}(a:aQ H H1)(b:aQ H1 q):aQ H q:=λc o h=>b c o (a c o h)
theorem aQ.free{H H':Hp}(e:aQ H H'){l:Ah}(h:H' l=Jq):H l=Jq:=by
 cases q:H l with
 | none=>rfl|some o=>rw[e l o q] at h;cases h
theorem aQ.seq{K:Aq}{H H':Hp}{a:Ah}{xs:List V}(e:aQ H H')(h:SqL K H a xs):SqL K H' a xs:=by rcases h with(h|⟨o,h⟩)|h;exact .inl (.inl (e _ _ h));exact .inl (.inr ⟨o,e _ _ h⟩);exact .inr h
end L2
end
namespace L2
open PySem PySem.Spec PyProof.Rows
section
variable {prog:Ay} {w:AJ} {K:Type} [DecidableEq K] (knd:HeapKind prog w K)
inductive bM (h:Heap):List K->List Ac->Prop
 | nil:bM h [] []
 | cons {k:K} {a:Ah} {ks:List K} {vs:List Ac}:knd.is h k a->bM h ks vs->bM h (k::ks) (.ref a::vs)
noncomputable def fF(h:Heap)(ks:List K)(a:Ah):Prop:=∃o its n,h.get? a=some o/\o.cls=.type "tuple" /\ o.data=.seq its n/\bM knd h ks its.toList
noncomputable def qT(ks:List K):Int:=Gn (B8 (ks.map knd.hash))
noncomputable def nV(ks:List K):Nat:=(ks.map knd.draws).sum+1
variable {knd}
theorem bM.inj{h:Heap}:∀{x y:List K} {vs:List Ac},bM knd h x vs->bM knd h y vs->x=y
 | _,_,_,.nil,hy=>by cases hy;rfl|_,_,_,.cons h1 t,hy=>by
  cases hy with
  | cons h2 q=>rw[knd.inj h1 h2,t.inj q]
theorem bM.keeps{h h':Heap}{d:Ah}{o:Obj}{es ep}(q:h.get? d=some o)(hd:o.data=.dict es ep)(hs:C6 d h h'):∀{x:List K} {vs:List Ac},bM knd h x vs->bM knd h' x vs
 | _,_,.nil=>.nil|_,_,.cons h1 t=>.cons (knd.keeps h1 q hd hs) (t.keeps q hd hs)
theorem fF.typeIs{s:Ae}{ks:List K}{a:Ah}(x:fF knd s.heap ks a):s.TypeIs (.ref a) "tuple" := let ⟨o,_,_,ho,hc,_⟩:=x;⟨o,ho,hc⟩
variable {A:Bf} {E:Ac->Ae->Prop} {s:Ae}
theorem aDq{ks:List K}{a:Ah}{Q:Int->Ae->Prop}(hu:A.units<Cv)(q:knd.room A.in1)(hk:fF knd s.heap ks a)(h:Q (qT knd ks) { s with toks:=s.toks+nV knd ks }):Av (AC prog w) A (pyHash (.ref a)) Q E s:=by
 have T:=hk.typeIs;obtain⟨o,q0,n,ho,_,hd,hi⟩:=hk;unfold pyHash pyHashByItsType;refine Aa (wpAny_cRoomFor_or (.inr hu) (Aa (CQ T DH.lookup ?_)));rw[if_neg (by rw[beq_builtin_none];grind)];refine Aa (CQ T DH.lookup ?_);refine Aa (wpAny_callSpecialIfBoundUnlessNone?_slot T DH (Bb DH T F.entry_tuple_hash ?_ (F.args_tuple_hash_1 _)));refine Aa (m:=Dh (.ref a)) (Ey ho hd (Aa ?_));rw[<-Ez];refine Dp _ (λrest (b:Array Int) W=>∃done left,ks=done++left/\bM knd s.heap left rest/\b.toList=done.map knd.hash/\W={ s with toks:=s.toks+(done.map knd.draws).sum }) _ ?_ ?_ _ _ ⟨[],ks,rfl,hi,rfl,rfl⟩
 . rintro x rest b W ⟨done,left,rfl,U,I,rfl⟩;cases U with|@cons k _ ks' _ h1 hl'=>exact Aa (knd.pyHash q h1 (Af ⟨done++[k],ks',by simp,hl',by simp[I],by simp[Gb]⟩))
 . rintro b W ⟨done,left,rfl,U,I,rfl⟩;cases U;rw[AO] at h;show Av _ _ (retInt (B8 b.toList)) _ _ _;rw[I];refine wpAny_ret_mkInt ?_;show Av _ _ (if (decide (-(2:Int) ^ 63<=B8 (done.map knd.hash))&&decide (B8 (done.map knd.hash)<2 ^ 63))=true then _ else _) Q E _;unfold qT Gn nV at h;split;rename_i q;rw[if_pos q] at h;exact Af (by simpa[Gb] using h);rename_i q;rw[if_neg q] at h;exact Aa (Di (Af (by simpa[Gb] using h)))
theorem bM.len{h:Heap}:∀{x:List K} {vs:List Ac},bM knd h x vs->x.length=vs.length
 | _,_,.nil=>rfl|_,_,.cons _ t=>by rw[lC,lC,t.len]
theorem aEZ{x y:List K}{a b:Ah}{P:Fin->Ae->Prop}(hr:knd.room A)(hx:fF knd s.heap x a)(hy:fF knd s.heap y b)(h:P (.done (.ret (.bool (decide (x=y))))) s):Av (AC prog w) A (Cz.«tuple.__eq__» ⟨[.ref a,.ref b],[]⟩) P E s:=by
 have Tb:=hy.typeIs;obtain⟨oa,xs,na,q7,_,q3,q5⟩:=hx;obtain⟨ob,ys,nb,q8,_,q4,q6⟩:=hy;refine Aa (m:=isInstance (.ref b) (.type "tuple")) (Cs Tb DO ?_);simp only[ if_false];refine Aa (Ey q7 q3 (Aa (Ey q8 q4 (Aa ?_))));refine Dp _ (λrest r s'=>r.1=none/\s'=s/\∃x' y' xs' U,rest=List.zip xs' U/\bM knd s.heap x' xs'/\bM knd s.heap y' U/\decide (x'=y')=decide (x=y)/\(xs'.length==U.length)=(xs.size==ys.size)) _ ?_ ?_ _ _ ⟨rfl,rfl,x,y,xs.toList,ys.toList,rfl,q5,q6,rfl,by simp⟩;rintro ⟨u,v⟩ rest r s' ⟨_,rfl,x',y',xs',U,hz,q0,W,q,I⟩;cases q0 with
 | nil=>simp at hz|@cons k1 _ x'' xs'' h1 hx''=>
  cases W with
  | nil=>simp at hz|@cons k2 _ y'' ys'' h2 hy''=>
   simp only[AV,Cr] at hz;obtain⟨⟨rfl,rfl⟩,rfl⟩:=hz;refine Aa (knd.eqBool hr h1 h2 ?_);by_cases hk:k1=k2;subst hk;rw[Am rfl];simp only[BK,if_false];exact Af ⟨rfl,rfl,x'',y'',xs'',ys'',rfl,hx'',hy'',by rw[<-q];simp,by simpa using I⟩;rw[A5 hk];simp only[DI,if_true];have hf:decide (x=y)=false:=by rw[<-q];simp[hk]
   rw[hf] at h;exact Aa (Af (Af (Af h)))
 rintro ⟨r1,r2⟩ s' ⟨q1,rfl,x',y',xs',U,hz,q0,W,q,I⟩;simp only at q1;subst q1;have q2:(xs.size==ys.size)=decide (x=y):=by
  rw[<-q,<-I];cases q0 with
  | nil=>cases W <;> simp|cons _ _=>
   cases W with
   | nil=>simp|cons _ _=>simp at hz
 refine Af ?_;show P (.done (.ret (.bool (xs.size==ys.size)))) s';rw[q2];exact h
theorem fF.inj{h:Heap}{a:Ah}{x y:List K}(hx:fF knd h x a)(hy:fF knd h y a):x=y:=by obtain⟨o,q0,n,ho,_,hd,hi⟩:=hx;obtain⟨o',W,n',I,_,q,U⟩:=hy;rw[ho] at I;cases I;rw[hd] at q;cases q;exact hi.inj U
theorem aHR{x y:List K}{a b:Ah}{Q:Bool->Ae->Prop}(hu:A.units<Cv)(W:knd.room A.in1)(I:fF knd s.heap x a)(U:fF knd s.heap y b)(h:Q (decide (x=y)) s):Av (AC prog w) A (eqBool (.ref a) (.ref b)) Q E s:=by
 unfold eqBool
 try with_reducible refine AY ?_
 by_cases q:(CV a==CV b)=true;have e:a=b:=by have:=eq_of_beq q;injection this
 subst e;rw[if_pos q,I.inj U] at *;exact Aa (Di (Af (by simpa using h)));rw[if_neg q];exact Aa (Ep I.typeIs U.typeIs Ef
  (Bb Ef I.typeIs F.entry_tuple_eq (aEZ W I U ⟨_,rfl,(λe=>nomatch e),Bs h⟩) (F.args_tuple_eq_2 _ _)) hu)
end
section
variable {prog:Ay} {w:AJ} {A:Bf} {E:Ac->Ae->Prop} {s:Ae}
theorem aAE{K:Type}[DecidableEq K]{knd:KeyKind prog w K}{n:Nat}{ks:List K}{a:Ah}{Q:Bool->Ae->Prop}(W:IsTupleKey knd s.heap ks a)(h:Q true s):Av (AC prog w) A (GS (n+1) (.ref a)) Q E s:=by have T:=W.typeIs;obtain⟨o,q0,m,ho,_,hd,hi⟩:=W;unfold GS;refine Aa (CQ T Ef.lookup (Aa (Cs T DO ?_)));simp only[ if_false];refine Aa (B0 ho hd (Aa ?_));rw[<-Ez];refine Dp _ (λrest r U=>r.1=none/\U=s/\∀v∈rest,carriedByValue v=true) _ ?_ ?_ _ _ ⟨rfl,rfl,hi.byValue⟩;rintro v rest r U ⟨_,rfl,q⟩;rw[eqIsQuiet_byValue _ (q v A3)];refine Aa (Af ?_);simp only[BK,if_false];exact Af ⟨rfl,rfl,λu I=>q u (Au _ I)⟩;rintro ⟨r1,r2⟩ U ⟨hr,rfl,_⟩;simp only at hr;subst hr;exact Af h
theorem aAF{K:Type}[DecidableEq K]{knd:KeyKind prog w K}{ks:List (List K)}{a:Ah}{Q:Bool->Ae->Prop}(U:fF (BF knd) s.heap ks a)(h:Q true s):Av (AC prog w) A (GS 8 (.ref a)) Q E s:=by
 have T:=U.typeIs;obtain⟨o,q0,m,ho,_,hd,hi⟩:=U;unfold GS;refine Aa (CQ T Ef.lookup (Aa (Cs T DO ?_)));simp only[ if_false];refine Aa (B0 ho hd (Aa ?_));rw[<-Ez];refine Dp _ (λrest r I=>r.1=none/\I=s/\∃ks',bM (BF knd) s.heap ks' rest) _ ?_ ?_ _ _ ⟨rfl,rfl,ks,hi⟩;rintro v rest r I ⟨_,rfl,ks',hl⟩;cases hl with
 | cons h1 q=>refine Aa (aAE h1 ?_);simp only[BK,if_false];exact Af ⟨rfl,rfl,_,q⟩
 rintro ⟨r1,r2⟩ I ⟨W,rfl,_⟩;simp only at W;subst W;exact Af h
noncomputable def aFa{K:Type}[DecidableEq K](knd:KeyKind prog w K):HeapKind prog w (List (List K)) where
 is:=fF (BF knd)
 hash:=qT (BF knd)
 draws:=nV (BF knd)
 room:=λA=>A.units+8<Cv
 inj:=λhx hy=>hx.inj hy
 keeps:=λ{h h' k a d o es ep} x ho hd hs=>by
  obtain⟨o',its,n,ho',hc,hd',hi⟩:=x;have hne:a≠d:=λe=>by grind
  exact⟨o',its,n,(hs.2 a hne).trans ho',hc,hd',hi.keeps ho hd hs⟩
 pyHash:=λ{A E s k a Q} hu hk h=>aDq (by omega) (show A.in1.units<Cv by show A.units+1<Cv;omega) hk h
 eqBool:=λ{A E s x y a b Q} hu hx hy h=>aHR (by omega) (show A.in1.units<Cv by show A.units+1<Cv;omega) hx hy h
 quiet:=λhk h=>aAF hk h
end
abbrev NK:=List (List Int)
abbrev NE:=NK×Ah×V
abbrev pj(x:NE):NK×V:=(x.1,x.2.2)
noncomputable def nW(x:NE)(e:NK×Ah×Ac):Prop:=e.1=x.1/\e.2.1=x.2.1/\bZ x.2.2 e.2.2
noncomputable def nkH(k:NK):Int:=Gn (B8 (k.map λk=>Gn (B8 (k.map H9))))
noncomputable def aPT(x:NK×Ah×Ac):DR:=⟨nkH x.1,.ref x.2.1,x.2.2⟩
noncomputable def aKt(a:Ah)(xs:List NE)(h:Heap):Prop:=
 (a==E1)=false/\xs.length<=sizeLine/\∃o es ep vs,h.get? a=some o/\o.ExactDict/\o.data=.dict es ep/\es.toList=vs.map aPT/\Cp nW xs vs/\(xs.map (·.1)).Nodup
abbrev dR(a:Ah)(xs:List NE):HO:=.ext (aKt a xs)
noncomputable def dE(K:Aq)(H:Hp)(k:NK)(b:Ah):Prop:=∃bs:List Ah,SqT K H b (bs.map V.ref)/\Cp (λis c=>SqT K H c (is.map V.int)) k bs
section
variable {X:Cx} {G:List (Ah×Obj)} {Z:St} {H:Hp} {s:Ae}
theorem aFb{is:List Int}:∀{us:List Ac},bC (is.map V.int) us->ItemsAre (BN X.prog X.w) is us:=by
 induction is with
 | nil=>intro us h;rw[mN] at h;cases h;exact .nil|cons i is q=>
  intro us h;rw[mC] at h;cases h with
  | cons r t=>obtain⟨tk,e⟩:∃t,_=BQ i t:=r;subst e;exact .cons (Go _ _ i tk) (q t)
theorem aHS(I:Inv X G Z H s){c:Ah}{is:List Int}(h:SqT X.K H c (is.map V.int)):IsTupleKey (BN X.prog X.w) s.heap is c:=by obtain⟨q,rv,⟨o,W,U,n,hd⟩,_⟩:=I.tuple h;exact⟨o,q.toArray,n,W,U,hd,by simpa using aFb rv⟩
theorem qU(I:Inv X G Z H s):∀{k:NK} {bs:List Ah} {us:List Ac},Cp (λis c=>SqT X.K H c (is.map V.int)) k bs->bC (bs.map V.ref) us->bM (BF (BN X.prog X.w)) s.heap k us
 | _,_,us,.nil,r=>by rw[mN] at r;cases r;exact .nil|_,_,us,.cons h t,r=>by
  rw[mC] at r;cases r with
  | cons q U=>cases q;exact .cons (aHS I h) (qU I t U)
theorem vT(I:Inv X G Z H s){k:NK}{b:Ah}(h:dE X.K H k b):fF (BF (BN X.prog X.w)) s.heap k b:=by obtain⟨bs,q,p⟩:=h;obtain⟨U,rv,⟨o,ho,W,n,hd⟩,_⟩:=I.tuple q;exact⟨o,U.toArray,n,ho,W,hd,by simpa using qU I p rv⟩
theorem kH:∀{xs:List NE} {vs:List (NK×Ah×Ac)},Cp nW xs vs->vs.map (·.1)=xs.map (·.1)
 | _,_,.nil=>rfl|_,_,.cons h t=>by rw[mC,mC,kH t,h.1]
theorem yJ:∀{xs:List NE} {vs:List (NK×Ah×Ac)},Cp nW xs vs->∀v∈vs,∃x∈xs,nW x v
 | _,_,.nil,v,h=>by cases h|_,_,.cons h t,v,m=>by rcases AA.mp m with rfl|m;exact⟨_,A3 ..,h⟩;obtain⟨x,q,r⟩:=yJ t v m;exact⟨x,Au _ q,r⟩
theorem vU{k:NK}:∀{xs:List NE} {vs:List (NK×Ah×Ac)},Cp nW xs vs->(atKey vs k).isSome=decide (k∈xs.map (·.1))
 | _,_,.nil=>rfl|x::xs,e::vs,.cons h t=>by have I:=vU (k:=k) t;unfold atKey at I ⊢;rw[Ho];by_cases q:x.1=k;rw[show decide (e.1=k)=true from Am (h.1.trans q)];grind;rw[show decide (e.1=k)=false from A5 (by rw[h.1];exact q)];grind
theorem vV(I:Inv X G Z H s){a:Ah}{xs:List NE}(e:H a=some (dR a xs))(hk:∀x∈xs,dE X.K H x.1 x.2.1):(a==E1)=false/\xs.length<=sizeLine/\∃vs,Cp nW xs vs/\s.heap.DictOfH (aFa (BN X.prog X.w)) a vs:=by
 obtain⟨⟨h1,h2,o,es,ep,vs,U,W,h5,h6,q,h8⟩,_⟩:=(I.hok a _ e)
 refine⟨h1,h2,vs,q,o,es,ep,U,W,h5,h6,λx hx=>?_,?_⟩;obtain⟨y,hy,r1,r2,_⟩:=yJ q x hx;rw[r1,r2];exact vT I (hk y hy);rw[kH q];exact h8
noncomputable def qV(xs:List NE)(k:NK)(b:Ah)(v:V):List NE:=if k∈xs.map (·.1) then xs.map (λx=>if x.1=k then (x.1,x.2.1,v) else x) else xs++[(k,b,v)]
theorem yK{k:NK}{v:V}{u:Ac}(r:bZ v u):∀{xs:List NE} {vs:List (NK×Ah×Ac)},Cp nW xs vs->Cp nW (xs.map λx=>if x.1=k then (x.1,x.2.1,v) else x) (vs.map (putAt k u))
 | _,_,.nil=>.nil|x::xs,e::vs,.cons h t=>by rw[mC,mC];refine .cons ?_ (yK r t);unfold putAt;by_cases q:x.1=k;rw[if_pos q,if_pos (h.1.trans q)];exact⟨h.1,h.2.1,r⟩;rw[if_neg q,if_neg (by rw[h.1];exact q)];exact h
theorem yL{x:NE}{e:NK×Ah×Ac}(r:nW x e):∀{xs:List NE} {vs:List (NK×Ah×Ac)},Cp nW xs vs->Cp nW (xs++[x]) (vs++[e])
 | _,_,.nil=>.cons r .nil|_,_,.cons h t=>.cons h (yL r t)
theorem pA{xs:List NE}{vs:List (NK×Ah×Ac)}{k:NK}{b:Ah}{v:V}{u:Ac}(h:Cp nW xs vs)(r:bZ v u):Cp nW (qV xs k b v) (storedH vs k b u):=by unfold storedH qV;rw[vU h];by_cases q:k∈xs.map (·.1);rw[if_pos (Am q),if_pos q];exact yK r h;rw[if_neg q,if_neg (by grind)];exact yL ⟨rfl,rfl,r⟩ h
theorem pB{xs:List NE}{k:NK}{b:Ah}{v:V}:(qV xs k b v).length<=xs.length+1:=by unfold qV;split;rw[lM];omega;rw[lA];exact Ap _
theorem vW{a:Ah}{xs:List NE}:∀h1 h2:Heap,aKt a xs h1->(∀o,h1.get? a=some o->h2.get? a=some o)->aKt a xs h2:=by rintro h1 h2 ⟨W,z2,o',I,q,vs,z3,z4⟩ U;exact⟨W,z2,o',I,q,vs,U _ z3,z4⟩
theorem aJm(hu:X.A.units+100<Cv):OpR X (BE .NotIn) (λU W H Q=>∃a b xs k,U=.ref b/\W=.ref a/\H a=some (dR a xs)/\(∀x∈xs,dE X.K H x.1 x.2.1)/\dE X.K H k b/\Q (.bl (!decide (k∈xs.map (·.1)))) H):=by intro G s Z H U W v u Q I rx ry h;obtain⟨a,b,xs,k,rfl,rfl,e,hk,kb,q⟩:=h;cases rx;cases ry;obtain⟨h1,h2,vs,hp,h3⟩:=vV I e hk;refine wpAny_notIn_heap (show X.A.in1.units+8<Cv by show X.A.units+1+8<Cv;omega) (vT I kb) h1 h3 ?_;rw[vU hp];exact⟨.bl _,H,I.tok _,rfl,q⟩
theorem aKu(hu:X.A.units+100<Cv):aJX X (λo i v H Q=>∃a b xs k,o=.ref a/\i=.ref b/\H a=some (dR a xs)/\(∀x∈xs,dE X.K H x.1 x.2.1)/\dE X.K H k b/\xs.length<sizeLine/\Q (upd H a (dR a (qV xs k b v)))):=by intro G s Z H o i v ov iv u Q I ro ri rv h;obtain⟨a,b,xs,k,rfl,rfl,e,hk,kb,hl,q⟩:=h;cases ro;cases ri;obtain⟨h1,h2,vs,hp,h3⟩:=vV I e hk;refine wpAny_setItem_heap (hsz:=by rw[((Iv hp).symm)];exact h2) (show X.A.in1.units+8<Cv by show X.A.units+1+8<Cv;omega) (vT I kb) h3 λh' hm hs=>?_;obtain⟨ob,es,ep,W,g2,g3,g4,_,g6⟩:=hm;have U:=pA (k:=k) (b:=b) hp rv;refine⟨_,I.write (o:=dR a (qV xs k b v)) (by rw[e];exact E3) (.inl rfl) (λc q hc z=>(hs.2 c hc).trans z) ⟨ob,W⟩ ⟨⟨h1,(AL pB hl),ob,es,ep,_,W,g2,g3,g4,U,(by rw[<-kH U];exact g6)⟩,⟨ob,W⟩,vW⟩,q⟩
theorem Inv.big(I:Inv X G Z H s):E1<s.heap.objs.size:=by exact GA (by decide) ((I.ok.mod.glob.keeps I.bk).lt)
end
end L2
namespace Hp
open PySem (Str Operator CmpOp)
inductive D where
 | non|bl (b:Bool)|int (i:Int)|str (x:Str)
 | tup (ds:List D)|lst (ds:List D)
 deriving Inhabited
mutual
noncomputable def noL:D->Bool
 | .tup ds=>noLs ds|.lst _=>false|_=>true
noncomputable def noLs:List D->Bool
 | []=>true|d::ds=>noL d&&noLs ds
end
noncomputable def lim:Nat:=1000000
noncomputable def lexG{α:Type}[DecidableEq α](lt:α->α->Bool):List α->List α->Bool
 | [],[]=>false|[],_::_=>true|_::_,[]=>false|x::xs,y::ys=>if x=y then lexG lt xs ys else lt x y
noncomputable def ltI(a b:Int):Bool:=decide (a<b)
abbrev lexJ:List Int->List Int->Bool:=lexG ltI
abbrev lexN:List (List Int)->List (List Int)->Bool:=lexG lexJ
noncomputable def b2i(b:Bool):Int:=if b then 1 else 0
noncomputable def eqL(f:D->D->Option Bool):List D->List D->Option Bool
 | [],[]=>some true|a::as,b::bs=>match f a b,eqL f as bs with|some x,some y=>some (x&&y)|_,_=>none
 | _,_=>some false
noncomputable def eqF:Nat->D->D->Option Bool
 | 0,_,_=>none|n+1,a,b=>match a,b with|.non,.non=>some true|.bl a,.bl b=>some (a==b)|.int a,.int b=>some (a==b)|.str a,.str b=>some (a==b)|.bl a,.int b=>some (b2i a==b)|.int a,.bl b=>some (a==b2i b)|.tup as,.tup bs=>eqL (eqF n) as bs|.lst as,.lst bs=>if as.length=bs.length then eqL (eqF n) as bs else some false|_,_=>some false
noncomputable def iA(n:Nat):List D->List D->Option Bool
 | [],[]=>some true|a::as,b::bs=>match eqF n a b,iA n as bs with|some x,some y=>some (x&&y)|_,_=>none
 | _,_=>some false
@[simp] theorem aFc (n:Nat):∀as bs:List D,eqL (eqF n) as bs=iA n as bs
 | [],[]=>rfl|[],_::_=>rfl|_::_,[]=>rfl|a::as,b::bs=>by rw[eqL,iA,aFc n as bs]
noncomputable def mL:Nat:=120
noncomputable def eqD(a b:D):Option Bool:=eqF mL a b
set_option genInjectivity true in
inductive R (α:Type) where
 | ok (a:α)|bad
 deriving Inhabited
noncomputable def R.bind{α β:Type}(x:R α)(f:α->R β):R β:=match x with|.ok a=>f a|.bad=>.bad
instance:Monad R where
 pure:=.ok
 bind:=.bind
noncomputable def R.of{α:Type}:Option α->R α
 | some a=>.ok a|none=>.bad
noncomputable def R.iff{α:Type}(c:Bool)(x:R α):R α:=if c then x else .bad
structure Vl where
 d:D
 fr:Bool:=false
 pa:Bool:=false
 al:List Nat:=[]
 deriving Inhabited
noncomputable def Vl.cl(d:D):Vl:=⟨d,false,false,[]⟩
noncomputable def Vl.sub(v:Vl)(d:D):Vl:=if noL d then .cl d else ⟨d,false,v.pa,v.al⟩
inductive Sl where
 | dead|sh (pa:Bool) (d:D)|own (pa:Bool) (ds:List D)|dct (ks:List (List (List Int)×D))|two (ab:List D×List D)
 deriving Inhabited
abbrev Sg:=List Sl
noncomputable def Sl.val(i:Nat):Sl->R Vl
 | .dead=>.bad|.sh pa d=>.ok ⟨d,false,pa&&!noL d,[]⟩|.own pa ds=>.ok ⟨.lst ds,false,pa,[i]⟩|.dct _=>.bad|.two _=>.bad
noncomputable def cX(Z:Sg)(i:Nat):R Vl:=match Z[i]? with|some s=>s.val i|none=>.bad
noncomputable def Sl.freeze:Sl->Sl
 | .own pa ds=>.sh pa (.lst ds)|s=>s
noncomputable def freeze(Z:Sg):List Nat->Sg
 | []=>Z|i::is=>freeze (match Z[i]? with|some s=>Z.set i s.freeze|none=>Z) is
noncomputable def Vl.slot(v:Vl):Sl:=match v.fr,v.d with|true,.lst ds=>.own v.pa ds|_,d=>.sh v.pa d
inductive Bi where
 | len|list|tuple|int|all|any|min
 deriving DecidableEq,Inhabited
inductive Cl where
 | tInt|tBool|tStr|tList|tTuple
 deriving DecidableEq,Inhabited
inductive T where
 | n (i:Nat)
 | t (ts:List Nat)
 deriving Inhabited
mutual
inductive E where
 | c (d:D)
 | v (i:Nat)
 | op (o:Operator) (a b:E)
 | neg (a:E)
 | nt (a:E)
 | an (a b:E)
 | orr (a b:E)
 | ife (t a b:E)
 | cmp (o:CmpOp) (a b:E)
 | cmp2 (o o':CmpOp) (a b c:E)
 | idx (a b:E)
 | sli (a:E) (lo hi:Es)
 | tup (es:Es)
 | lst (es:Es)
 | call (f:Nat) (es:Es)
 | bi (b:Bi) (es:Es)
 | isi (a:E) (cs:List Cl)
 | comp (k:Nat) (caps:List Nat) (t:T) (it:It) (cond:Es) (elt:E)
 | numset (a:E)   -- len(set(a))
 | tget (i:Nat) (a:E)   -- a dict of the module,.get(a)
 | dnin (a:E) (j:Nat)   -- a not in a dict of one's own
 | row (i:Nat) (a:E)   -- x[a],x an own list
 | hid (i:Nat) (a:E)   -- a,read while the slot's two lists stay;what is told holds neither
 | sset (a:E)   -- sorted(set(a)),numbers from 0 to 3
inductive Es where
 | nil|cons (e:E) (es:Es)
inductive It where
 | seq (e:E)|rng (a b:E)|zip (a b:E)|enum (a:E)|dwn (a:E)   -- range(a,-1,-1)
end
instance:Inhabited E:=⟨.c .non⟩
mutual
inductive S where
 | set (t:T) (e:E)
 | mov (i j:Nat)
 | setIx (i:Nat) (k e:E)
 | app (i:Nat) (e:E)
 | ext (i:Nat) (e:E)
 | ret (e:E)
 | retv (i:Nat)
 | iff (c:E) (a b:Ss)
 | for (t:T) (it:It) (b:Ss)
 | whl (c:E) (b:Ss)
 | ex (e:E)
 | dpv (i:Nat) (k a:E)   -- i[k]=a
 | rse (c:Nat) (keep:Bool) (es:Es)
 | tryN (b:Ss)   -- try: b,which ends without an exception
 | appPop (i j:Nat) (e:E) (k:Nat)   -- i.append(j.pop(e)[k])
 | dnw (i:Nat) (k a:E)   -- i={k: a}
 | setU (is:List Nat) (e:E)   -- a,b=e,a list without lists
 | retP (i j:Nat)   -- return (i,j),two lists of one's own
 | tld (i f:Nat) (es:Es)   -- i=f(..),a tuple of two new lists
 | appP (i k:Nat) (e:E)   -- i[k].append(e),i such a tuple
inductive Ss where
 | nil|cons (s:S) (ss:Ss)
end
structure Fn where
 np:Nat
 ns:Nat
 body:Ss
structure Pg where
 fns:List Fn
 tabs:List (List (Str×D)):=[]
abbrev Rt:=D×Bool×Bool
abbrev Caller:=Nat->List D->R Rt
noncomputable def gH(i j:Int):Bool:=(decide (-(2 ^ 64)<i)&&decide (i<2 ^ 64))||(decide (-(2 ^ 64)<j)&&decide (j<2 ^ 64))
noncomputable def yM(j:Int):Bool:=decide (0<j)&&decide (j<1073741824)
noncomputable def aM(k:Int):Bool:=decide (-(2 ^ 62)<=k)&&decide (k<2 ^ 62)
noncomputable def Str.rep(x:Str)(k:Nat):Str:=⟨(Al k x.cps).foldl (·++·) #[]⟩
@[simp] noncomputable def aKv (x y:Vl):R Vl:=match x.d,y.d with|.int i,.int j=>.ok (.cl (.int (i+j)))|.tup a,.tup b=>.iff (decide (a.length+b.length<=lim)) (.ok ⟨.tup (a++b),false,x.pa||y.pa,x.al++y.al⟩)|.lst a,.lst b=>.iff (decide (a.length+b.length<=lim)) (.ok ⟨.lst (a++b),true,(x.pa&&!noLs a)||(y.pa&&!noLs b),(if noLs a then [] else x.al)++(if noLs b then [] else y.al)⟩)|_,_=>.bad
@[simp] noncomputable def aKw (x y:Vl):R Vl:=match x.d,y.d with|.int i,.int j=>.iff (gH i j) (.ok (.cl (.int (i*j))))|.lst a,.int k=>.iff (x.fr&&aM k&&decide (a.length*k.toNat<=lim)&&noLs a) (.ok ⟨.lst (Al k.toNat a).flatten,true,false,[]⟩)|_,_=>.bad
@[simp] noncomputable def aDr (f:Int->Int->R Vl) (x y:Vl):R Vl:=match x.d,y.d with|.int i,.int j=>f i j|_,_=>.bad
noncomputable def opD(o:Operator)(x y:Vl):R Vl:=match o with|.Add=>aKv x y|.Mult=>aKw x y|.Sub=>aDr (λi j=>.ok (.cl (.int (i-j)))) x y|.FloorDiv=>aDr (λi j=>.iff (yM j) (.ok (.cl (.int (i / j))))) x y|.Mod=>aDr (λi j=>.iff (decide (0<j)) (.ok (.cl (.int (i % j))))) x y|_=>.bad
noncomputable def aFd:D->Option Bool
 | .non=>some false|.bl b=>some b|.int i=>some (i != 0)|.str _=>none|.tup ds=>some (!ds.isEmpty)|.lst ds=>some (!ds.isEmpty)
noncomputable def jL(x:Vl):R Bool:=.of (aFd x.d)
noncomputable def dG:List D->Option (List Int)
 | []=>some []|.int a::ds=>match dG ds with|some ns=>some (a::ns)|none=>none
 | _=>none
noncomputable def aDs:List Int->List Int->Bool
 | [],[]=>false|[],_::_=>true|_::_,[]=>false|x::xs,y::ys=>if x=y then aDs xs ys else decide (x<y)
noncomputable def aKx(as bs:List D):Option Bool:=match dG as,dG bs with|some ns,some ms=>some (aDs ns ms)|_,_=>none
noncomputable def ltD:D->D->Option Bool
 | .int a,.int b=>some (decide (a<b))|.tup as,.tup bs=>aKx as bs|_,_=>none
noncomputable def leD:D->D->Option Bool
 | .int a,.int b=>some (decide (a<=b))|_,_=>none
noncomputable def isNone:D->Bool
 | .non=>true|_=>false
noncomputable def qW(Z:Sg):Bool:=Z.all fun|.two _=>false|_=>true
noncomputable def gR:List D->Option (List (List Int))
 | []=>some []|.tup k::ds=>match dG k,gR ds with|some k,some ks=>some (k::ks)|_,_=>none
 | _=>none
noncomputable def qX:List D->Option (List (List (List Int)))
 | []=>some []|.lst ds::r=>match gR ds,qX r with|some k,some ks=>some (k::ks)|_,_=>none
 | _=>none
noncomputable def bestI(bt:Nat->Nat->Bool):Nat->Nat
 | 0=>0|k+1=>if bt (k+1) (bestI bt k) then k+1 else bestI bt k
noncomputable def minIx(ks:List (List (List Int))):Nat:=bestI (λi j=>lexN (ks.getD i []) (ks.getD j [])) (ks.length-1)
noncomputable def tP(x:D):List D->Option Bool
 | []=>some false|y::ys=>match eqD y x,tP x ys with|some a,some b=>some (a||b)|_,_=>none
noncomputable def inD(x y:D):Option Bool:=match x,y with|x,.lst ys=>tP x ys|.str a,.str b=>some (!(Hk b a 0 b.length 1).isEmpty)|_,_=>none
noncomputable def dJ(o:CmpOp)(x y:D):Option Bool:=match o with
 | .Eq=>eqD x y|.NotEq=>(eqD x y).map (!·)|.Lt=>ltD x y|.Gt=>match x,y with|.int a,.int b=>some (decide (b<a))|_,_=>none
 | .LtE=>leD x y|.GtE=>match x,y with|.int a,.int b=>some (decide (b<=a))|_,_=>none
 | .Is=>match y with|.non=>some (isNone x)|_=>none
 | .IsNot=>match y with|.non=>some (!isNone x)|_=>none
 | .In=>inD x y|.NotIn=>none
noncomputable def ixN(n:Nat)(k:Int):Option Nat:=
 if 0<=k then (if k<n then some k.toNat else none) else (if -(n:Int)<=k then some (k+n).toNat else none)
noncomputable def eT(x y:Vl):R Vl:=match x.d,y.d with
 | .lst ds,.int k=>match ixN ds.length k with
  | some j=>match ds[j]? with|some d=>.ok (x.sub d)|none=>.bad
  | none=>.bad
 | .tup ds,.int k=>match ixN ds.length k with
  | some j=>match ds[j]? with|some d=>.ok (x.sub d)|none=>.bad
  | none=>.bad
 | .str a,.int k=>.iff (decide (a.length<=lim)) (match ixN a.length k with
  | some j=>match a.cps.toList[j]? with|some c=>.ok (.cl (.str ⟨#[c]⟩))|none=>.bad
  | none=>.bad)
 | _,_=>.bad
noncomputable def sIx(n d:Nat):Option Int->Nat
 | none=>d|some v=>if v<0 then (v+(n:Int)).toNat else min v.toNat n
noncomputable def cut{α:Type}(xs:List α)(lo hi:Option Int):List α:=(xs.drop (sIx xs.length 0 lo)).take (sIx xs.length xs.length hi-sIx xs.length 0 lo)
noncomputable def eU(x:Vl)(lo hi:Option Int):R Vl:=match x.d with|.lst ds=>.ok ⟨.lst (cut ds lo hi),true,x.pa&&!noLs ds,if noLs ds then [] else x.al⟩|.tup ds=>.ok ⟨.tup (cut ds lo hi),false,x.pa&&!noLs ds,if noLs ds then [] else x.al⟩|_=>.bad
noncomputable def isI(cs:List Cl)(P:Pg):D->Option Bool
 | .non=>some false|.bl _=>some (cs.contains .tBool||cs.contains .tInt)|.int _=>some (cs.contains .tInt)|.str _=>some (cs.contains .tStr)|.tup _=>some (cs.contains .tTuple)|.lst _=>some (cs.contains .tList)
noncomputable def cJ:List D->Option (List Bool)
 | []=>some []|.bl a::ds=>match cJ ds with|some bs=>some (a::bs)|none=>none
 | _=>none
noncomputable def iB:List D->Option (List (Sum Int Str))
 | []=>some []|.int a::ds=>match iB ds with|some ks=>some (.inl a::ks)|none=>none
 | .str a::ds=>match iB ds with|some ks=>some (.inr a::ks)|none=>none
 | _=>none
noncomputable def aAG(ks:List (Sum Int Str)):List (Sum Int Str):=ks.foldl (λZ v=>if Z.any (·==v) then Z else Z++[v]) []
@[simp] noncomputable def yN (b:Bi) (x:Vl):R Vl:=match b with
 | .len=>match x.d with|.lst ds=>.ok (.cl (.int ds.length))|.tup ds=>.ok (.cl (.int ds.length))|.str a=>.iff (decide (a.length<=lim)) (.ok (.cl (.int a.length)))|_=>.bad
 | .list=>match x.d with|.lst ds=>.ok ⟨.lst ds,true,x.pa&&!noLs ds,if noLs ds then [] else x.al⟩|.tup ds=>.ok ⟨.lst ds,true,x.pa&&!noLs ds,if noLs ds then [] else x.al⟩|_=>.bad
 | .tuple=>match x.d with|.lst ds=>.ok ⟨.tup ds,false,x.pa&&!noLs ds,if noLs ds then [] else x.al⟩|.tup ds=>.ok ⟨.tup ds,false,x.pa,x.al⟩|_=>.bad
 | .int=>match x.d with|.int i=>.ok (.cl (.int i))|.bl b=>.ok (.cl (.int (b2i b)))|_=>.bad
 | .all=>match x.d with
  | .lst ds=>match cJ ds with|some bs=>.ok (.cl (.bl (bs.all id)))|none=>.bad
  | _=>.bad
 | .any=>match x.d with
  | .lst ds=>match cJ ds with|some bs=>.ok (.cl (.bl (bs.any id)))|none=>.bad
  | _=>.bad
 | .min=>match x.d with
  | .lst ds=>match qX ds with
   | some ks=>match ds[minIx ks]? with|some d=>.ok (x.sub d)|none=>.bad
   | none=>.bad
  | _=>.bad
noncomputable def biD(b:Bi)(xs:List Vl):R Vl:=match xs with|[x]=>yN b x|_=>.bad
noncomputable def bT(vs:List Vl):List Nat:=vs.flatMap (·.al)
noncomputable def dS(vs:List Vl):Bool:=vs.any (·.pa)
noncomputable def aBM(vs:List Vl):Vl:=⟨.tup (vs.map (·.d)),false,dS vs,bT vs⟩
noncomputable def yO(vs:List Vl):Vl:=⟨.lst (vs.map (·.d)),true,dS vs,bT vs⟩
noncomputable def isL:D->Bool
 | .lst _=>true|_=>false
noncomputable def iW(args:List Vl)(r:Rt):Vl:=if r.2.2 then ⟨r.1,r.2.1&&isL r.1,dS args,bT args⟩ else ⟨r.1,r.2.1&&isL r.1,false,[]⟩
noncomputable def vX:List D->Option (List Nat)
 | []=>some []|.int i::ds=>if 0<=i/\i<=3 then (match vX ds with|some r=>some (i.toNat::r)|none=>none) else none|_=>none
noncomputable def fQ(ns:List Nat):List Nat:=(Ar 4).filter λk=>decide (k∈ns)
noncomputable def pC(a:Int):List D:=(Ar (a+1).toNat).map λ(k:Nat)=>.int (a-(k:Int))
noncomputable def gI(a b:Int):List D:=(Ar (b-a).toNat).map λ(k:Nat)=>.int (a+(k:Int))
noncomputable def iJ:Int->List D->List D
 | _,[]=>[]
 | k,d::ds=>.tup [.int k,d]::iJ (k+1) ds
noncomputable def fR:List D->List D->List D
 | a::as,b::bs=>.tup [a,b]::fR as bs|_,_=>[]
noncomputable def cN(Z:Sg)(v:Vl):T->R Sg
 | .n i=>.ok (Z.set i v.slot)|.t is=>match v.d with|.tup ds=>if ds.length=is.length then .ok ((is.zip ds).foldl (λZ p=>Z.set p.1 (v.sub p.2).slot) Z) else .bad|_=>.bad
noncomputable def fS(f:Vl->R (Option Vl)):List Vl->R (List Vl)
 | []=>.ok []|x::xs=>do
  let y<-f x
  let ys<-fS f xs
  match y with
  | some y=>.ok (y::ys)|none=>.ok ys
noncomputable def yP:D->Option (List D)
 | .lst ds=>some ds|.tup ds=>some ds|_=>none
noncomputable def items(x:Vl)(ds:List D):List Vl:=ds.map x.sub
abbrev NK:=List (List Int)
noncomputable def yQ(ks:List (NK×D))(k:NK×D):List (NK×D):=if k.1∈ks.map (·.1) then ks.map (λx=>if x.1=k.1 then (x.1,k.2) else x) else ks++[k]
noncomputable def vY:D->Option NK
 | .tup ds=>gR ds|_=>none
noncomputable def vZ:D->Bool
 | .int _|.bl _=>true|_=>false
noncomputable def lQ(x:Vl):Bool:=match x.d with|.lst ds=>x.fr&&noLs ds|d=>noL d
noncomputable def fV(k:Nat)(caps al:List Nat)(vs:List Vl):Vl:=
 if noLs (vs.map (·.d)) then ⟨.lst (vs.map (·.d)),true,false,[]⟩
 else ⟨.lst (vs.map (·.d)),true,dS vs,al++(bT vs).filterMap λj=>caps[j-k]?⟩
section
variable (P:Pg) (W:Caller)
mutual
noncomputable def ev(Z:Sg):E->R Vl
 | .c d=>.ok (.cl d)|.v i=>cX Z i|.op o a b=>do let x<-ev Z a;let y<-ev Z b;opD o x y
 | .neg a=>do
  let x<-ev Z a
  match x.d with
  | .int i=>.ok (.cl (.int (-i)))|_=>.bad
 | .nt a=>do let x<-ev Z a;let k<-jL x;.ok (.cl (.bl (!k)))
 | .an a b=>do
  let x<-ev Z a
  match x.d with
  | .bl true=>ev Z b|.bl false=>.ok (.cl (.bl false))|_=>.bad
 | .orr a b=>do
  let x<-ev Z a
  match x.d with
  | .bl true=>.ok (.cl (.bl true))|.bl false=>ev Z b|_=>.bad
 | .ife t a b=>do
  let x<-tst Z t
  if x then ev Z a else ev Z b
 | .cmp o a b=>do
  let x<-ev Z a
  let y<-ev Z b
  match dJ o x.d y.d with
  | some k=>.ok (.cl (.bl k))|none=>.bad
 | .cmp2 o o' a b c=>do
  let x<-ev Z a
  let y<-ev Z b
  match dJ o x.d y.d with
  | some true=>do
   let z<-ev Z c
   match dJ o' y.d z.d with
   | some k=>.ok (.cl (.bl k))|none=>.bad
  | some false=>.ok (.cl (.bl false))|none=>.bad
 | .idx a b=>do let x<-ev Z a;let y<-ev Z b;eT x y
 | .sli a lo hi=>do
  let x<-ev Z a
  let l<-evs Z lo
  let h<-evs Z hi
  match l,h with
  | [],[]=>eU x none none|[l],[]=>match l.d with|.int l=>.iff (aM l) (eU x (some l) none)|_=>.bad
  | [],[h]=>match h.d with|.int h=>.iff (aM h) (eU x none (some h))|_=>.bad
  | [l],[h]=>match l.d,h.d with|.int l,.int h=>.iff (aM l&&aM h) (eU x (some l) (some h))|_,_=>.bad
  | _,_=>.bad
 | .tup es=>do let vs<-evs Z es;.ok (aBM vs)
 | .lst es=>do let vs<-evs Z es;.ok (yO vs)
 | .call f es=>do
  let vs<-evs Z es
  let r<-W f (vs.map (·.d))
  .ok (iW vs r)
 | .bi b es=>do let vs<-evs Z es;biD b vs
 | .isi a cs=>do
  let x<-ev Z a
  match isI cs P x.d with
  | some k=>.ok (.cl (.bl k))|none=>.bad
 | .comp k caps t it cond elt=>do
  let xs<-walk Z it
  let vs<-fS (λx=>do
   let Z1<-cN (Al k .dead++caps.map λi=>((freeze Z xs.2)[i]?).getD .dead) x t
   let k<-tsts Z1 cond
   if k then do let y<-ev Z1 elt;.ok (some y) else .ok none) xs.1
  .iff (decide (vs.length<=lim)) (.ok (fV k caps xs.2 vs))
 | .numset a=>do
  let x<-ev Z a
  match x.d with
  | .lst ds=>match iB ds with|some ks=>.iff (decide (ds.length<=1000)) (.ok (.cl (.int (aAG ks).length)))|none=>.bad
  | _=>.bad
 | .tget i a=>do
  let x<-ev Z a
  match x.d,P.tabs[i]? with
  | .str k,some t=>.ok (.cl ((t.lookup k).getD .non))|_,_=>.bad
 | .dnin a j=>do
  let x<-ev Z a
  match Z[j]?,vY x.d with
  | some (.dct ks),some k=>.ok (.cl (.bl (!decide (k∈ks.map (·.1)))))|_,_=>.bad
 | .row i a=>do
  let y<-ev Z a
  match Z[i]?,y.d with
  | some (.own pa ds),.int k=>(match ixN ds.length k with
   | some j=>(match ds[j]? with
    | some d=>.ok ⟨d,false,pa&&!noL d,[]⟩|none=>.bad)
   | none=>.bad)
  | _,_=>.bad
 | .hid i a=>match Z[i]? with
  | some (.two (as,bs))=>do
   let x<-ev (Z.set i (.sh false (.tup [.lst as,.lst bs]))) a
   .iff (lQ x) (.ok ⟨x.d,x.fr,false,[]⟩)
  | _=>.bad
 | .sset a=>do
  let x<-ev Z a
  match x.d with
  | .lst ds=>match vX ds with|some ns=>.ok ⟨.lst ((fQ ns).map λ(k:Nat)=>.int (k:Int)),true,false,[]⟩|none=>.bad
  | _=>.bad
noncomputable def tst(Z:Sg):E->R Bool
 | .nt a=>do let x<-tst Z a;.ok (!x)
 | .an a b=>do
  let x<-tst Z a
  if x then tst Z b else .ok false
 | .orr a b=>do
  let x<-tst Z a
  if x then .ok true else tst Z b
 | .c d=>jL (.cl d)|.v i=>do let x<-cX Z i;jL x
 | .cmp o a b=>do
  let x<-ev Z a
  let y<-ev Z b
  match dJ o x.d y.d with
  | some k=>.ok k|none=>.bad
 | .cmp2 o o' a b c=>do
  let x<-ev Z a
  let y<-ev Z b
  match dJ o x.d y.d with
  | some true=>do
   let z<-ev Z c
   match dJ o' y.d z.d with
   | some k=>.ok k|none=>.bad
  | some false=>.ok false|none=>.bad
 | .call f es=>do
  let vs<-evs Z es
  let r<-W f (vs.map (·.d))
  jL (iW vs r)
 | .bi b es=>do let vs<-evs Z es;let x<-biD b vs;jL x
 | .idx a b=>do let x<-ev Z a;let y<-ev Z b;let z<-eT x y;jL z
 | .isi a cs=>do
  let x<-ev Z a
  match isI cs P x.d with
  | some k=>.ok k|none=>.bad
 | .dnin a j=>do
  let x<-ev Z a
  match Z[j]?,vY x.d with
  | some (.dct ks),some k=>.ok (!decide (k∈ks.map (·.1)))|_,_=>.bad
 | .hid i a=>match Z[i]? with|some (.two (as,bs))=>tst (Z.set i (.sh false (.tup [.lst as,.lst bs]))) a|_=>.bad
 | _=>.bad
noncomputable def evs(Z:Sg):Es->R (List Vl)
 | .nil=>.ok []|.cons e es=>do let x<-ev Z e;let xs<-evs Z es;.ok (x::xs)
noncomputable def walk(Z:Sg):It->R (List Vl×List Nat)
 | .seq e=>do
  let x<-ev Z e
  match x.d with
  | .lst ds=>.ok (items x ds,x.al)|.tup ds=>.ok (items x ds,x.al)|.str a=>.iff (decide (a.length<=lim)) (.ok (a.cps.toList.map λn=>.cl (.str ⟨#[n]⟩),[]))|_=>.bad
 | .dwn a=>do
  let x<-ev Z a
  match x.d with
  | .int i=>.iff (aM i) (.ok ((pC i).map .cl,[]))|_=>.bad
 | .rng a b=>do
  let x<-ev Z a
  let y<-ev Z b
  match x.d,y.d with
  | .int i,.int j=>.iff (aM i&&aM j) (.ok ((gI i j).map .cl,[]))|_,_=>.bad
 | .zip a b=>do
  let x<-ev Z a
  let y<-ev Z b
  match yP x.d,yP y.d with
  | some as,some bs=>.ok (items ⟨.non,false,x.pa||y.pa,x.al++y.al⟩ (fR as bs),x.al++y.al)|_,_=>.bad
 | .enum a=>do
  let x<-ev Z a
  match yP x.d with
  | some as=>.ok (items x (iJ 0 as),x.al)|none=>.bad
noncomputable def tsts(Z:Sg):Es->R Bool
 | .nil=>.ok true|.cons e es=>do
  let x<-tst Z e
  if x then tsts Z es else .ok false
end
set_option genInjectivity true in
inductive O where
 | next (Z:Sg)|ret (v:Vl)|bad
 deriving Inhabited
noncomputable def O.from{α:Type}(Z:Sg)(x:R α)(f:α->O):O:=match x with|.ok a=>f a|.bad=>.bad
noncomputable def O.on(o:O)(f:Sg->O):O:=match o with|.next Z=>f Z|o=>o
noncomputable def eK(f:Sg->Vl->O):List Vl->Sg->O
 | [],Z=>.next Z|x::xs,Z=>match f Z x with|.next Z'=>eK f xs Z'|o=>o
noncomputable def jM(t:Sg->R Bool)(f:Sg->O):Nat->Sg->O
 | 0,_=>.bad|n+1,Z=>O.from Z (t Z) λk=>if k then (match f Z with
     | .next Z'=>jM t f n Z'|o=>o) else .next Z
noncomputable def pD:Nat:=1000000
noncomputable def lH(Z:Sg)(i:Nat):Option (Bool×List D):=match Z[i]? with|some (.own pa ds)=>some (pa,ds)|_=>none
noncomputable def put(Z:Sg)(i:Nat)(v:Vl)(f:List D->Option (List D)):O:=match lH (freeze Z v.al) i with
 | some (pa,ds)=>match f ds with|some ds'=>if ds'.length<=lim then .next ((freeze Z v.al).set i (.own (pa||v.pa) ds')) else .bad|none=>.bad
 | none=>.bad
noncomputable def aFe(Z:Sg)(i:Nat)(v:Vl):O:=put Z i v λds=>some (ds++[v.d])
noncomputable def uB(v:Vl):Option (Vl×List D):=match v.fr,v.d with|true,.lst ds=>some (⟨.non,false,v.pa&&!noLs ds,if noLs ds then [] else v.al⟩,ds)|_,_=>none
noncomputable def mM(Z:Sg)(i:Nat)(k:Option Int):R (Vl×Sg):=match lH Z i with
 | some (pa,ds)=>match (match k with|none=>ixN ds.length (-1)|some k=>ixN ds.length k) with
  | some j=>match ds[j]? with|some d=>.ok (Vl.sub ⟨.non,false,pa,[]⟩ d,Z.set i (.own pa (ds.eraseIdx j)))|none=>.bad
  | none=>.bad
 | none=>.bad
noncomputable def aBN(v:Vl)(k:Nat):R Vl:=match v.d with
 | .tup ds=>match ds[k]? with|some d=>.ok (v.sub d)|none=>.bad
 | _=>.bad
noncomputable def yR(e:Option (R Vl)):R (Option Int):=match e with
 | none=>.ok none|some x=>do
  let v<-x
  match v.d with
  | .int k=>.iff (aM k) (.ok (some k))|_=>.bad
mutual
noncomputable def ex(Z:Sg):S->O
 | .set t e=>O.from Z (ev P W Z e) λv=>O.from Z (cN (freeze Z v.al) v t) .next|.mov i j=>match Z[j]? with|some (.own pa ds)=>if i=j then .bad else .next ((Z.set j .dead).set i (.own pa ds))|some (.sh pa d)=>.next (Z.set i (.sh (pa&&!noL d) d))|_=>.bad
 | .setIx i k e=>O.from Z (ev P W Z e) λv=>O.from Z (ev P W Z k) λkv=>match kv.d with
  | .int k=>put Z i v λds=>match ixN ds.length k with|some j=>some (ds.set j v.d)|none=>none
  | _=>.bad
 | .app i e=>O.from Z (ev P W Z e) λv=>aFe Z i v|.ext i e=>O.from Z (ev P W Z e) λv=>match uB v with|some (v',ds')=>put Z i v' λds=>some (ds++ds')|none=>.bad
 | .ret e=>O.from Z (ev P W Z e) .ret|.retv i=>match Z[i]? with|some (.own pa ds)=>.ret ⟨.lst ds,true,pa,[]⟩|_=>O.from Z (cX Z i) .ret
 | .iff c a b=>O.from Z (tst P W Z c) λk=>if k then exs Z a else exs Z b|.for t it b=>O.from Z (walk P W Z it) λxs=>eK (λZ x=>O.from Z (cN Z x t) λZ'=>exs Z' b) xs.1 (freeze Z xs.2)|.whl c b=>jM (λZ=>tst P W Z c) (λZ=>exs Z b) pD Z|.ex e=>O.from Z (ev P W Z e) λ_=>.next Z|.dpv i e a=>O.from Z (ev P W Z a) λw=>O.from Z (ev P W Z e) λv=>match Z[i]?,vY v.d with|some (.dct ks),some k=>if ks.length<lim/\vZ w.d=true then .next (Z.set i (.dct (yQ ks (k,w.d)))) else .bad|_,_=>.bad
 | .rse _ _ _=>.bad|.tryN b=>exs Z b|.appPop i j e k=>O.from Z (yR (some (ev P W Z e))) λm=>O.from Z (mM Z j m) λ(v,Z')=>O.from Z' (aBN v k) λw=>aFe Z' i w|.dnw i k a=>O.from Z (ev P W Z k) λv=>O.from Z (ev P W Z a) λw=>match vY v.d with|some k=>if vZ w.d=true then .next (Z.set i (.dct [(k,w.d)])) else .bad|none=>.bad
 | .setU is e=>O.from Z (ev P W Z e) λv=>match v.d with|.lst ds=>if ds.length=is.length/\noLs ds=true then .next ((is.zip ds).foldl (λZ p=>Z.set p.1 (v.sub p.2).slot) Z) else .bad|_=>.bad
 | .retP i j=>match Z[i]?,Z[j]? with|some (.own false as),some (.own false bs)=>if i≠j/\noLs as=true/\noLs bs=true then .ret ⟨.tup [.lst as,.lst bs],true,false,[]⟩ else .bad|_,_=>.bad
 | .tld i f es=>O.from Z (evs P W Z es) λvs=>O.from Z (W f (vs.map (·.d))) λr=>match r with|(.tup [.lst as,.lst bs],true,false)=>if qW Z=true then .next (Z.set i (.two (as,bs))) else .bad|_=>.bad
 | .appP i k e=>O.from Z (ev P W Z e) λv=>match Z[i]?,noL v.d with|some (.two (as,bs)),true=>if k=0/\as.length<lim then .next (Z.set i (.two (as++[v.d],bs))) else if k=1/\bs.length<lim then .next (Z.set i (.two (as,bs++[v.d]))) else .bad|_,_=>.bad
noncomputable def exs(Z:Sg):Ss->O
 | .nil=>.next Z|.cons s ss=>(ex Z s).on λZ'=>exs Z' ss
end
noncomputable def wB(f:Nat)(ds:List D):R Rt:=match P.fns[f]? with
 | none=>.bad|some F=>if ds.length=F.np then
  match exs P W ((ds.map λd=>Sl.sh true d)++Al (F.ns-F.np) Sl.dead) F.body with
  | .ret v=>.ok (v.d,v.fr,v.pa)|.next _=>.ok (.non,false,false)|_=>.bad
  else .bad
end
noncomputable def call(P:Pg):Nat->Caller
 | 0=>λ_ _=>.bad|n+1=>wB P (call P n)
end Hp
namespace Hp
open PySem
structure Ct where
 N:List Str
 sc:List (Str×Cc)
 fns:List Str
 cns:List (Str×D)
 fn:Bool
 tbs:List Str
noncomputable def aFf(Γ:Ct)(x:Str):Bool:=match Γ.sc.lookup x with|some .local=>true|some .cell=>true|some .free=>true|_=>false
noncomputable def yS(Γ:Ct)(x:Str):Bool:=match Γ.sc.lookup x with|some .local=>true|some .cell=>Γ.fn|_=>false
noncomputable def uC(sc names:List (Str×Cc)):List (Str×Cc):=names.map λ(n,k)=>if (k==.free&&sc.lookup n==some .cell) then (n,.cell) else (n,k)
noncomputable def qY:As->Bool
 | .Tuple _ _ _=>true|_=>false
noncomputable def tIx:T->List Nat
 | .n i=>[i]
 | .t is=>is
noncomputable def dN(Γ:Ct)(x:Str):Bool:=match Γ.sc.lookup x with|some .globalImplicit=>true|_=>false
noncomputable def dO(x:Str):Bool:=!(x==("__debug__" : Str))&&!(x==("__classdict__" : Str))
noncomputable def bY(Γ:Ct)(i:Nat)(x:Str):Bool:=(Γ.N[i]?==some x)&&aFf Γ x&&dO x
noncomputable def cD(Γ:Ct)(i:Nat)(x:Str):Bool:=(Γ.N[i]?==some x)&&yS Γ x&&dO x
noncomputable def eqC:D->JW->Bool
 | .non,.none=>true|.bl a,.bool b=>a==b|.int a,.int b=>a==b|.str a,.str b=>a==b|_,_=>false
noncomputable def eqK:D->D->Bool
 | .non,.non=>true|.bl a,.bl b=>a==b|.int a,.int b=>a==b|.str a,.str b=>a==b|_,_=>false
noncomputable def lR:Bi->Str
 | .len => "len" | .list => "list" | .tuple => "tuple" | .int => "int" | .all => "all" | .any => "any" | .min => "min"
noncomputable def clName:Cl->String
 | .tInt => "int" | .tBool => "bool" | .tStr => "str" | .tList => "list" | .tTuple => "tuple"
noncomputable def aJn(Γ:Ct)(c:Cl):As->Bool
 | .Name x _=>((clName c:Str)==x)&&dN Γ x&&dO x|_=>false
noncomputable def pN(Γ:Ct):T->As->Bool
 | .n i,.Name x _=>cD Γ i x|.t is,.Tuple es _ _=>is.length==es.length&&(is.zip es).all λp=>match p.2 with|.Name x _=>cD Γ p.1 x|_=>false
 | _,_=>false
noncomputable def iC:As->List Str
 | .Name x _=>[x]
 | .Tuple es _ _=>es.filterMap fun|.Name x _=>some x|_=>none
 | _=>[]
noncomputable def aAH:E->Bool
 | .c (.int i)=>i==0|_=>false
noncomputable def asC(e:As):Option { c:JW // ∃k p,e=.Constant c k p }:=match e with|.Constant c k p=>some ⟨c,k,p,rfl⟩|_=>none
noncomputable def asN(e:As):Option { x:Str // ∃p,e=.Name x p }:=match e with|.Name x p=>some ⟨x,p,rfl⟩|_=>none
noncomputable def aNk(e:As):Option { r:As×Operator×As // ∃p,e=.BinOp r.1 r.2.1 r.2.2 p }:=match e with|.BinOp l o r p=>some ⟨(l,o,r),p,rfl⟩|_=>none
noncomputable def aKy(e:As):Option { r:UnaryOp×As // ∃p,e=.UnaryOp r.1 r.2 p }:=match e with|.UnaryOp o x p=>some ⟨(o,x),p,rfl⟩|_=>none
noncomputable def aNl(e:As):Option { r:JB×List As×CB // e=.BoolOp r.1 r.2.1 r.2.2 }:=match e with|.BoolOp o xs p=>some ⟨(o,xs,p),rfl⟩|_=>none
noncomputable def aPU(e:As):Option { r:As×As×As // ∃p,e=.IfExp r.1 r.2.1 r.2.2 p }:=match e with|.IfExp t a b p=>some ⟨(t,a,b),p,rfl⟩|_=>none
noncomputable def aFg(e:As):Option { r:As×List CmpOp×List As // ∃p,e=.Compare r.1 r.2.1 r.2.2 p }:=match e with|.Compare l os rs p=>some ⟨(l,os,rs),p,rfl⟩|_=>none
noncomputable def qZ(e:As):Option { r:As×As // ∃p,e=.Subscript r.1 r.2 p }:=match e with|.Subscript x i p=>some ⟨(x,i),p,rfl⟩|_=>none
noncomputable def aPV(e:As):Option { r:Option As×Option As // ∃p,e=.Slice r.1 r.2 none p }:=match e with|.Slice l h none p=>some ⟨(l,h),p,rfl⟩|_=>none
noncomputable def aJo(e:As):Option { r:List As // ∃k p,e=.Tuple r k p }:=match e with|.Tuple xs k p=>some ⟨xs,k,p,rfl⟩|_=>none
noncomputable def aNm(e:As):Option { r:List As // ∃p,e=.List r p }:=match e with|.List xs p=>some ⟨xs,p,rfl⟩|_=>none
noncomputable def kZ(e:As):Option { r:Str×List As // ∃p1 p2,e=.Call (.Name r.1 p1) r.2 [] p2 }:=match e with|.Call (.Name x p1) xs [] p2=>some ⟨(x,xs),p1,p2,rfl⟩|_=>none
noncomputable def aNn(e:As):Option { r:As×Str×List As×Bool // ∃ap cp,e=.Call (.Attribute r.1 r.2.1 ap) r.2.2.1 [] cp/\(ap.endLine==cp.line)=r.2.2.2 }:=match e with|.Call (.Attribute x a ap) xs [] cp=>some ⟨(x,a,xs,ap.endLine==cp.line),ap,cp,rfl,rfl⟩|_=>none
noncomputable def aNo(e:As):Option { r:As×As // ∃p,e=.Dict [some r.1] [r.2] p }:=match e with|.Dict [some a] [b] p=>some ⟨(a,b),p,rfl⟩|_=>none
noncomputable def aPW(e:As):Option { r:As×List Comprehension×De // ∃p,e=.ListComp r.1 r.2.1 r.2.2 p }:=match e with|.ListComp e gs s p=>some ⟨(e,gs,s),p,rfl⟩|_=>none
noncomputable def oB{α:Type}(o:Option α)(f:α->Bool):Bool:=match o with|some a=>f a|none=>false
noncomputable def oS{α:Type}{q:α->Prop}(o:Option { a:α // q a })(f:α->Bool):Bool:=match o with|some a=>f a.1|none=>false
noncomputable def aPX:As->Bool
 | .Compare _ _ _ _=>false|.Call _ _ _ _=>false|_=>true
noncomputable def aAI(e:As):Bool:=oS (aKy e) λp=>p.1==.USub&&oS (asC p.2) (eqC (.int 1))
mutual
noncomputable def aW(Γ:Ct):E->As->Bool
 | .c d,e=>oS (asC e) (eqC d)||oS (asN e) λx=>dN Γ x&&dO x&&oB (Γ.cns.lookup x) (eqK d)|.v i,e=>oS (asN e) (bY Γ i)|.op o a b,e=>oS (aNk e) λp=>o==p.2.1&&aW Γ a p.1&&aW Γ b p.2.2|.neg a,e=>oS (aKy e) λp=>p.1==.USub&&aW Γ a p.2|.nt a,e=>oS (aKy e) λp=>p.1==.Not&&aW Γ a p.2|.an a b,e=>oS (aNl e) λp=>p.1==.And&&(match p.2.1 with
  | [x,y]=>aW Γ a x&&aW Γ b y|x::y::z::r=>aW Γ a x&&aW Γ b (.BoolOp .And (y::z::r) p.2.2)|_=>false)
 | .orr a b,e=>oS (aNl e) λp=>p.1==.Or&&(match p.2.1 with
  | [x,y]=>aW Γ a x&&aW Γ b y|x::y::z::r=>aW Γ a x&&aW Γ b (.BoolOp .Or (y::z::r) p.2.2)|_=>false)
 | .ife t a b,e=>oS (aPU e) λp=>aW Γ t p.1&&aW Γ a p.2.1&&aW Γ b p.2.2|.cmp o a b,e=>oS (aFg e) λp=>(match p.2.1,p.2.2 with
  | [o'],[r]=>o==o'&&aW Γ a p.1&&aW Γ b r|_,_=>false)
 | .cmp2 o1 o2 a b c,e=>oS (aFg e) λp=>(match p.2.1,p.2.2 with
  | [o1',o2'],[m,r]=>o1==o1'&&o2==o2'&&aW Γ a p.1&&aW Γ b m&&aW Γ c r|_,_=>false)
 | .dnin a j,e=>oS (aFg e) λp=>(match p.2.1,p.2.2 with
  | [.NotIn],[r]=>aW Γ a p.1&&oS (asN r) (bY Γ j)|_,_=>false)
 | .row i a,e=>oS (qZ e) λp=>oS (asN p.1) λx=>bY Γ i x&&aW Γ a p.2|.hid _ a,e=>!aPX e&&aW Γ a e|.sset a,e=>oS (kZ e) λp=>(match p.2 with
  | [s]=>oS (kZ s) λq=>(p.1==("sorted" : Str))&&dN Γ p.1&&(q.1==("set" : Str))&&dN Γ q.1&&(match q.2 with|[x]=>aW Γ a x|_=>false)|_=>false)
 | .idx a b,e=>oS (qZ e) λp=>aW Γ a p.1&&aW Γ b p.2|.sli a lo hi,e=>oS (qZ e) λp=>oS (aPV p.2) λq=>aW Γ a p.1&&chkO Γ lo q.1&&chkO Γ hi q.2|.tup es,e=>oS (aJo e) λxs=>decide (xs.length<=1000)&&chkEs Γ es xs|.lst es,e=>oS (aNm e) λxs=>decide (xs.length<=1000)&&chkEs Γ es xs|.call f es,e=>oS (kZ e) λp=>(Γ.fns[f]?==some p.1)&&dN Γ p.1&&dO p.1&&chkEs Γ es p.2|.bi b es,e=>oS (kZ e) λp=>(lR b==p.1)&&dN Γ p.1&&dO p.1&&!p.2.isEmpty&&chkEs Γ es p.2|.numset a,e=>oS (kZ e) λp=>(match p.2 with
  | [s]=>oS (kZ s) λq=>(p.1==("len" : Str))&&dN Γ p.1&&(q.1==("set" : Str))&&dN Γ q.1&&(match q.2 with|[x]=>aW Γ a x|_=>false)|_=>false)
 | .tget i a,e=>oS (aNn e) λp=>oS (asN p.1) λx=>(p.2.1==("get" : Str))&&(Γ.tbs[i]?==some x)&&dN Γ x&&dO x&&p.2.2.2&&(match p.2.2.1 with|[y]=>aW Γ a y|_=>false)|.isi a cs,e=>oS (kZ e) λp=>(match cs,p.2 with
  | [c],[x,y]=>(p.1==("isinstance" : Str))&&dN Γ p.1&&aW Γ a x&&aJn Γ c y|_,_=>false)
 | .comp k caps t it cond elt,e=>oS (aPW e) λp=>(match p.2.1 with
  | [⟨tg,iter,ifs,as⟩]=>
   as==0&&(iC tg).length==k&&(caps.all λi=>decide (i<Γ.N.length))&&decide caps.Nodup&&p.2.2.kind==.function&&decide (iC tg++caps.filterMap λi=>Γ.N[i]?).Nodup &&
   ((caps.filterMap λi=>Γ.N[i]?).all λx=>p.2.2.names.lookup x==some .free&&Γ.sc.lookup x==some .cell) &&
   (p.2.2.names.all λq=>q.2 != .cell&&(q.2 != .local||p.2.2.names.lookup q.1==some .local)&&(q.2 != .free||Γ.sc.lookup q.1==some .cell)) &&
   ((tIx t).all λi=>decide (i<k))&&decide (ifs.length<=1) &&
   pN { Γ with N:=iC tg++caps.filterMap λi=>Γ.N[i]?,sc:=uC Γ.sc p.2.2.names,fn:=false } t tg&&chkI Γ (qY tg) it iter &&
   chkEs { Γ with N:=iC tg++caps.filterMap λi=>Γ.N[i]?,sc:=uC Γ.sc p.2.2.names,fn:=false } cond ifs &&
   aW { Γ with N:=iC tg++caps.filterMap λi=>Γ.N[i]?,sc:=uC Γ.sc p.2.2.names,fn:=false } elt p.1
  | _=>false)
noncomputable def chkEs(Γ:Ct):Es->List As->Bool
 | .nil,[]=>true|.cons e es,x::xs=>aW Γ e x&&chkEs Γ es xs|_,_=>false
noncomputable def chkO(Γ:Ct):Es->Option As->Bool
 | .nil,none=>true|.cons e .nil,some x=>aW Γ e x|_,_=>false
noncomputable def chkI(Γ:Ct)(tt:Bool):It->As->Bool
 | .rng a b,e=>oS (kZ e) λp=>(p.1==("range" : Str))&&dN Γ p.1&&(match p.2 with
  | [x]=>aAH a&&aW Γ b x|[x,y]=>aW Γ a x&&aW Γ b y|_=>false)
 | .zip a b,e=>oS (kZ e) λp=>(match p.2 with
  | [x,y]=>tt&&(p.1==("zip" : Str))&&dN Γ p.1&&aW Γ a x&&aW Γ b y|_=>false)
 | .seq c,x=>aW Γ c x|.enum a,e=>oS (kZ e) λp=>(match p.2 with
  | [x]=>tt&&(p.1==("enumerate" : Str))&&dN Γ p.1&&aW Γ a x|_=>false)
 | .dwn a,e=>oS (kZ e) λp=>(p.1==("range" : Str))&&dN Γ p.1&&(match p.2 with
  | [x,y,z]=>aW Γ a x&&aAI y&&aAI z|_=>false)
end
noncomputable def rA:As->Bool
 | .ListComp _ _ _ _=>true|.SetComp _ _ _ _=>true|.DictComp _ _ _ _ _=>true|_=>false
noncomputable def nX:As->Bool
 | .Tuple _ _ _=>true|.List _ _=>true|_=>false
noncomputable def aKz:As->Bool
 | .Name _ _=>true|_=>false
noncomputable def nY(Γ:Ct)(i:Nat)(m:Str):As->Option (List As)
 | .Call (.Attribute (.Name x _) a ap) xs [] cp=>if (a==m)&&bY Γ i x&&(ap.endLine==cp.line) then some xs else none|_=>none
noncomputable def aAJ(s:Ck):Option { r:As×As // ∃p,s=.Assign [r.1] r.2 p }:=match s with|.Assign [t] v p=>some ⟨(t,v),p,rfl⟩|_=>none
noncomputable def sEx(s:Ck):Option { r:As // ∃p,s=.Expr r p }:=match s with|.Expr v p=>some ⟨v,p,rfl⟩|_=>none
noncomputable def aKA(s:Ck):Option { r:Option As // ∃p,s=.Return r p }:=match s with|.Return v p=>some ⟨v,p,rfl⟩|_=>none
noncomputable def sIf(s:Ck):Option { r:As×List Ck×List Ck // ∃p,s=.If r.1 r.2.1 r.2.2 p }:=match s with|.If t x y p=>some ⟨(t,x,y),p,rfl⟩|_=>none
noncomputable def aPY(s:Ck):Option { r:As×As×List Ck // ∃p,s=.For r.1 r.2.1 r.2.2 [] p }:=match s with|.For t i b [] p=>some ⟨(t,i,b),p,rfl⟩|_=>none
noncomputable def aPZ(s:Ck):Option { r:As×List Ck // ∃p,s=.While r.1 r.2 [] p }:=match s with|.While t b [] p=>some ⟨(t,b),p,rfl⟩|_=>none
noncomputable def aNp(s:Ck):Option { r:List Ck // ∃h hs p,s=.Try r (h::hs) [] [] p }:=match s with|.Try b (h::hs) [] [] p=>some ⟨b,h,hs,p,rfl⟩|_=>none
mutual
noncomputable def iD(Γ:Ct):S->Ck->Bool
 | .set t e,s=>oS (aAJ s) λr=>pN Γ t r.1&&aW Γ e r.2&&(aKz r.1||!nX r.2)|.mov i j,s=>oS (aAJ s) λr=>oS (asN r.1) λx=>oS (asN r.2) λy=>cD Γ i x&&bY Γ j y|.dpv i k e,s=>oS (aAJ s) λr=>oS (qZ r.1) λu=>oS (asN u.1) λx=>bY Γ i x&&aW Γ k u.2&&aW Γ e r.2&&!nX r.2|.setIx i k e,s=>oS (aAJ s) λr=>oS (qZ r.1) λu=>oS (asN u.1) λx=>bY Γ i x&&aW Γ k u.2&&aW Γ e r.2|.app i e,s=>oS (sEx s) λc=>(match nY Γ i "append" c with|some [a]=>aW Γ e a|_=>false)
 | .ext i e,s=>oS (sEx s) λc=>(match nY Γ i "extend" c with|some [a]=>aW Γ e a|_=>false)
 | .ret e,s=>oS (aKA s) λr=>oB r (aW Γ e)|.retv i,s=>oS (aKA s) λr=>oB r λv=>oS (asN v) (bY Γ i)|.iff c a b,s=>oS (sIf s) λr=>aW Γ c r.1&&chkSs Γ a r.2.1&&chkSs Γ b r.2.2|.for t it b,s=>oS (aPY s) λr=>pN Γ t r.1&&chkI Γ (qY r.1) it r.2.1&&chkSs Γ b r.2.2|.whl c b,s=>oS (aPZ s) λr=>aW Γ c r.1&&chkSs Γ b r.2|.ex e,s=>oS (sEx s) λv=>aW Γ e v&&!rA v|.rse _ _ _,_=>true|.tryN b,s=>oS (aNp s) λr=>chkSs Γ b r|.appPop i j e k,s=>oS (sEx s) λc=>(match nY Γ i "append" c with|some [a]=>oS (qZ a) (λu=>oS (asC u.2) (eqC (.int k))&&(match nY Γ j "pop" u.1 with|some [b]=>aW Γ e b&&(i != j)|_=>false))|_=>false)
 | .dnw i k e,s=>oS (aAJ s) λr=>oS (asN r.1) λx=>cD Γ i x&&oS (aNo r.2) λq=>aW Γ k q.1&&aW Γ e q.2|.setU is e,s=>oS (aAJ s) λr=>pN Γ (.t is) r.1&&aW Γ e r.2&&!nX r.2|.retP i j,s=>oS (aKA s) λr=>oB r λv=>oS (aJo v) λl=>(match l with
  | [x,y]=>oS (asN x) (bY Γ i)&&oS (asN y) (bY Γ j)|_=>false)
 | .tld i f es,s=>oS (aAJ s) λr=>oS (asN r.1) λx=>oS (kZ r.2) λp=>cD Γ i x&&(Γ.fns[f]?==some p.1)&&dN Γ p.1&&dO p.1&&!p.2.isEmpty&&chkEs Γ es p.2|.appP i k e,s=>oS (sEx s) λc=>oS (aNn c) λr=>oS (qZ r.1) λu=>oS (asN u.1) λx=>bY Γ i x&&aW Γ (.c (.int k)) u.2&&(r.2.1==("append" : Str))&&r.2.2.2&&(match r.2.2.1 with|[a]=>aW Γ e a|_=>false)
noncomputable def chkSs(Γ:Ct):Ss->List Ck->Bool
 | .nil,[]=>true|.cons s ss,x::xs=>iD Γ s x&&chkSs Γ ss xs|_,_=>false
end
end Hp
namespace Hp
open PySem L2
abbrev Fg:=Aq
mutual
noncomputable def Rep(K:Fg)(H:Hp)(ex:Ah->Prop):D->V->Prop
 | .non,v=>v=.non|.bl b,v=>v=.bl b|.int i,v=>v=.int i|.str x,v=>v=.str x|.tup ds,v=>∃a xs,v=.ref a/\SqT K H a xs/\Reps K H ex ds xs|.lst ds,v=>∃a xs,v=.ref a/\SqL K H a xs/\¬ ex a/\Reps K H ex ds xs
noncomputable def Reps(K:Fg)(H:Hp)(ex:Ah->Prop):List D->List V->Prop
 | [],xs=>xs=[]
 | d::ds,xs=>∃x r,xs=x::r/\Rep K H ex d x/\Reps K H ex ds r
end
section
variable {K:Fg} {H H':Hp} {ex ex':Ah->Prop}
theorem aQ.seqT{a:Ah}{xs:List V}(e:aQ H H')(h:SqT K H a xs):SqT K H' a xs:=by rcases h with(h|⟨o,h⟩)|h;exact .inl (.inl (e _ _ h));exact .inl (.inr ⟨o,e _ _ h⟩);exact .inr h
mutual
theorem Rep.imp(U:∀a xs,SqT K H a xs->SqT K H' a xs)(I:∀a xs,¬ ex a->SqL K H a xs->¬ ex' a/\SqL K H' a xs) :
 ∀(d:D) (v:V),Rep K H ex d v->Rep K H' ex' d v
 | .non,_,h=>h|.bl _,_,h=>h|.int _,_,h=>h|.str _,_,h=>h|.tup ds,_,h=>by obtain⟨a,xs,e,q,r⟩:=h;exact⟨a,xs,e,U a xs q,Reps.imp U I ds xs r⟩|.lst ds,_,h=>by obtain⟨a,xs,e,q,n,r⟩:=h;obtain⟨W,q'⟩:=I a xs n q;exact⟨a,xs,e,q',W,Reps.imp U I ds xs r⟩
theorem Reps.imp(I:∀a xs,SqT K H a xs->SqT K H' a xs)(q:∀a xs,¬ ex a->SqL K H a xs->¬ ex' a/\SqL K H' a xs) :
 ∀(ds:List D) (xs:List V),Reps K H ex ds xs->Reps K H' ex' ds xs
 | [],_,h=>h|d::ds,_,h=>by obtain⟨x,r,e,h1,h2⟩:=h;exact⟨x,r,e,Rep.imp I q d x h1,Reps.imp I q ds r h2⟩
end
theorem Rep.weak{d:D}{v:V}(h:Rep K H ex d v)(e:∀a,ex' a->ex a):Rep K H ex' d v:=Rep.imp (λ_ _ q=>q) (λa _ n q=>⟨λz=>n (e a z),q⟩) d v h
theorem Reps.weak{d:List D}{v:List V}(h:Reps K H ex d v)(e:∀a,ex' a->ex a):Reps K H ex' d v:=Reps.imp (λ_ _ q=>q) (λa _ n q=>⟨λz=>n (e a z),q⟩) d v h
theorem Rep.grow{d:D}{v:V}(h:Rep K H ex d v)(s:aQ H H'):Rep K H' ex d v:=Rep.imp (λ_ _ q=>aQ.seqT s q) (λ_ _ n q=>⟨n,s.seq q⟩) d v h
theorem Reps.grow{d:List D}{v:List V}(h:Reps K H ex d v)(s:aQ H H'):Reps K H' ex d v:=Reps.imp (λ_ _ q=>aQ.seqT s q) (λ_ _ n q=>⟨n,s.seq q⟩) d v h
theorem Rep.keep{d:D}{v:V}(h:Rep K H ex d v)(s:∀a o,H a=some o->(∀xs,o=.lst xs->¬ ex a)->(∀φ,o≠.ext φ)->H' a=some o):Rep K H' ex d v:=by refine Rep.imp (λa xs q=>?_) (λa xs n q=>⟨n,?_⟩) d v h;rcases q with(q|⟨o,q⟩)|q;exact .inl (.inl (s _ _ q (λxs e=>by cases e) (λ_ z=>by cases z)));exact .inl (.inr ⟨o,s _ _ q (λxs e=>by cases e) (λ_ z=>by cases z)⟩);exact .inr q;rcases q with(q|⟨o,q⟩)|q;exact .inl (.inl (s _ _ q (λ_ _=>n) (λ_ z=>by cases z)));exact .inl (.inr ⟨o,s _ _ q (λxs e=>by cases e) (λ_ z=>by cases z)⟩);exact .inr q
theorem Reps.keep{d:List D}{v:List V}(h:Reps K H ex d v)(s:∀a o,H a=some o->(∀xs,o=.lst xs->¬ ex a)->(∀φ,o≠.ext φ)->H' a=some o):Reps K H' ex d v:=by refine Reps.imp (λa xs q=>?_) (λa xs n q=>⟨n,?_⟩) d v h;rcases q with(q|⟨o,q⟩)|q;exact .inl (.inl (s _ _ q (λxs e=>by cases e) (λ_ z=>by cases z)));exact .inl (.inr ⟨o,s _ _ q (λxs e=>by cases e) (λ_ z=>by cases z)⟩);exact .inr q;rcases q with(q|⟨o,q⟩)|q;exact .inl (.inl (s _ _ q (λ_ _=>n) (λ_ z=>by cases z)));exact .inl (.inr ⟨o,s _ _ q (λxs e=>by cases e) (λ_ z=>by cases z)⟩);exact .inr q
mutual
theorem Rep.free:∀(d:D) (v:V),noL d=true->Rep K H ex d v->Rep K H ex' d v
 | .non,_,_,h=>h|.bl _,_,_,h=>h|.int _,_,_,h=>h|.str _,_,_,h=>h|.tup ds,_,n,h=>by obtain⟨a,xs,e,q,r⟩:=h;exact⟨a,xs,e,q,Reps.free ds xs (by simpa[noL] using n) r⟩|.lst ds,_,n,_=>by simp[noL] at n
theorem Reps.free:∀(ds:List D) (xs:List V),noLs ds=true->Reps K H ex ds xs->Reps K H ex' ds xs
 | [],_,_,h=>h|d::ds,_,n,h=>by obtain⟨x,r,e,h1,h2⟩:=h;simp only[noLs,bA] at n;exact⟨x,r,e,Rep.free d x n.1 h1,Reps.free ds r n.2 h2⟩
end
theorem Reps.length:∀{ds:List D} {xs:List V},Reps K H ex ds xs->ds.length=xs.length
 | [],_,h=>by rw[show _=[] from h];rfl|d::ds,_,h=>by obtain⟨x,r,e,_,h2⟩:=h;subst e;rw[lC,lC,Reps.length h2]
theorem Reps.get:∀{ds:List D} {xs:List V} {j:Nat} {d:D},Reps K H ex ds xs->ds[j]? = some d->∃x,xs[j]? = some x/\Rep K H ex d x
 | [],_,_,_,_,e=>by simp at e|d::ds,_,0,_,h,e=>by obtain⟨x,r,I,h1,_⟩:=h;grind|d::ds,_,j+1,d',h,e=>by obtain⟨x,r,I,_,h2⟩:=h;subst I;obtain⟨y,U,q⟩:=Reps.get h2 (by simpa using e);grind
theorem Reps.get'{ds:List D}{xs:List V}{j:Nat}{x:V}(h:Reps K H ex ds xs)(e:xs[j]? = some x):∃d,ds[j]? = some d/\Rep K H ex d x:=by
 have W:=h.length;have U:=(Ao.mp e).1;obtain⟨d,hd⟩:∃d,ds[j]? = some d:=⟨ds[j],Ad (by omega)⟩
 obtain⟨y,I,q⟩:=h.get hd;rw[e] at I;grind
theorem Reps.nil:Reps K H ex [] []:=rfl
theorem Reps.cons{d:D}{ds:List D}{x:V}{xs:List V}(h:Rep K H ex d x)(t:Reps K H ex ds xs):Reps K H ex (d::ds) (x::xs):=⟨x,xs,rfl,h,t⟩
theorem Reps.append:∀{ds es:List D} {xs ys:List V},Reps K H ex ds xs->Reps K H ex es ys->Reps K H ex (ds++es) (xs++ys)
 | [],_,_,_,h,t=>by rw[show _=[] from h];exact t|d::ds,_,_,_,h,t=>by obtain⟨x,r,e,h1,h2⟩:=h;subst e;exact⟨x,_,rfl,h1,Reps.append h2 t⟩
theorem Reps.take:∀{ds:List D} {xs:List V} (n:Nat),Reps K H ex ds xs->Reps K H ex (ds.take n) (xs.take n)
 | _,_,0,_=>by simp[Reps]|[],_,n+1,h=>by rw[show _=[] from h];simp[Reps]|d::ds,_,n+1,h=>by obtain⟨x,r,e,h1,h2⟩:=h;subst e;exact⟨x,_,rfl,h1,Reps.take n h2⟩
theorem Reps.drop:∀{ds:List D} {xs:List V} (n:Nat),Reps K H ex ds xs->Reps K H ex (ds.drop n) (xs.drop n)
 | _,_,0,h=>h|[],_,n+1,h=>by rw[show _=[] from h];simp[Reps]|d::ds,_,n+1,h=>by obtain⟨x,r,e,h1,h2⟩:=h;subst e;exact Reps.drop n h2
theorem Reps.set:∀{ds:List D} {xs:List V} {d:D} {x:V} (j:Nat),Reps K H ex ds xs->Rep K H ex d x->Reps K H ex (ds.set j d) (xs.set j x)
 | [],_,_,_,_,h,_=>by rw[show _=[] from h];simp[Reps]|d::ds,_,_,_,0,h,q=>by obtain⟨x,r,e,h1,h2⟩:=h;subst e;exact⟨_,_,rfl,q,h2⟩|d::ds,_,_,_,j+1,h,q=>by obtain⟨x,r,e,h1,h2⟩:=h;subst e;exact⟨x,_,rfl,h1,Reps.set j h2 q⟩
theorem Reps.eraseIdx:∀{ds:List D} {xs:List V} (j:Nat),Reps K H ex ds xs->Reps K H ex (ds.eraseIdx j) (xs.eraseIdx j)
 | [],_,_,h=>by rw[show _=[] from h];simp[Reps]|d::ds,_,0,h=>by obtain⟨x,r,e,h1,h2⟩:=h;subst e;exact h2|d::ds,_,j+1,h=>by obtain⟨x,r,e,h1,h2⟩:=h;subst e;exact⟨x,_,rfl,h1,Reps.eraseIdx j h2⟩
theorem Reps.flat:∀{ds:List D} {xs:List V},Reps K H ex ds xs->∀k:Nat,Reps K H ex (Al k ds).flatten (Al k xs).flatten
 | _,_,_,0=>by simp[Reps]|ds,xs,h,k+1=>by rw[BB,BB,Ce,Ce];exact h.append (Reps.flat h k)
end
end Hp
namespace Hp
open PySem PySem.Spec PyProof.Rows L2
theorem aPo(a b:Str):(a++b).length=a.length+b.length:=by show(a.cps++b.cps).size=_;rw[Array.size_append];rfl
noncomputable def Kp(R:Ah->Prop)(H H':Hp):Prop:=∀a o,H a=some o->¬ R a->H' a=some o
noncomputable def RE{α:Type}:R α->(α->Prop)->Prop
 | .ok a,p=>p a|_,_=>False
theorem RE.mono{α:Type}{x:R α}{p q:α->Prop}(h:RE x p)(f:∀a,p a->q a):RE x q:=by
 cases x with
 | ok a=>exact f a h|bad=>exact h
theorem RE.bind{α q:Type}{x:R α}{f:α->R q}{p:q->Prop}:RE (x >>= f) p=RE x λa=>RE (f a) p:=by cases x <;> rfl
theorem RE.iff{α:Type}{c:Bool}{x:R α}{p:α->Prop}(h:RE (R.iff c x) p):c=true/\RE x p:=by
 cases c with
 | true=>exact⟨rfl,h⟩|false=>exact h.elim
section
variable (K:Fg) (RT Y J:Ah->Prop)
noncomputable def exB(pa:Bool)(a:Ah):Prop:=Y a\/(pa=false/\J a)
noncomputable def Tk(H:Hp):Prop:=∀b,H b≠none->K.lookup b=none
noncomputable def dV:D->V
 | .int i=>.int i|.bl b=>.bl b|_=>.non
abbrev kV(x:NK×D):NK×V:=(x.1,dV x.2)
noncomputable def Pt(Z:Sg)(ZV:L2.St)(p:Ah):Prop:=RT p/\¬ J p/\∀(k:Nat) (pa:Bool) (ds:List D),Z[k]? = some (.own pa ds)->ZV[k]?≠some (some (.ref p))
structure Dx (Z:Sg) (ZV:L2.St) (H:Hp):Prop where
 at':∀(i:Nat) (ks:List (NK×D)),Z[i]? = some (.dct ks)->∃a xs,ZV[i]? = some (some (.ref a))/\H a=some (dR a xs)/\RT a/\¬ J a/\xs.map pj=ks.map kV/\∀x∈xs,dE K H x.1 x.2.1
 inj:∀(i j:Nat) (ks ks':List (NK×D)) (a:Ah),Z[i]? = some (.dct ks)->Z[j]? = some (.dct ks')->ZV[i]? = some (some (.ref a))->ZV[j]? = some (some (.ref a))->i=j
 at2:∀(i:Nat) (ab:List D×List D),Z[i]? = some (.two ab)->∃a b c xs ys,ZV[i]? = some (some (.ref a))/\SqT K H a [.ref b,.ref c]/\H b=some (.lst xs)/\H c=some (.lst ys)/\Pt RT J Z ZV b/\Pt RT J Z ZV c/\b≠c/\(noLs ab.1=true/\noLs ab.2=true)/\Reps K H (λ_=>False) ab.1 xs/\Reps K H (λ_=>False) ab.2 ys
 one:∀(i j:Nat) (ab ab':List D×List D),Z[i]? = some (.two ab)->Z[j]? = some (.two ab')->i=j
noncomputable def RtO(H:Hp)(a:Ah):Prop:=(∃xs,H a=some (.lst xs))\/∃xs,H a=some (dR a xs)
structure Sx (Z:Sg) (ZV:L2.St) (H:Hp):Prop where
 sh:∀(i:Nat) (pa:Bool) (d:D),Z[i]? = some (.sh pa d)->∃v,ZV[i]? = some (some v)/\Rep K H (λa=>RT a\/exB Y J pa a) d v
 own:∀(i:Nat) (pa:Bool) (ds:List D),Z[i]? = some (.own pa ds)->∃a xs,ZV[i]? = some (some (.ref a))/\H a=some (.lst xs)/\RT a/\¬ J a/\Reps K H (λa=>RT a\/exB Y J pa a) ds xs
 trk:∀a,RT a\/Y a\/J a->H a≠none
 yo:∀a,Y a->J a
 tk:Tk K H
 rt:∀a,RT a->RtO H a
 inj:∀(i j:Nat) (pa pa':Bool) (ds ds':List D) (a:Ah),Z[i]? = some (.own pa ds)->Z[j]? = some (.own pa' ds')->ZV[i]? = some (some (.ref a))->ZV[j]? = some (some (.ref a))->i=j
 len:Z.length=ZV.length
 dx:Dx K RT J Z ZV H
noncomputable def alR(Z:Sg)(ZV:L2.St)(al:List Nat)(a:Ah):Prop:=∃j∈al,(∃pa ds,Z[j]? = some (.own pa ds))/\ZV[j]? = some (some (.ref a))
noncomputable def exV(Z:Sg)(ZV:L2.St)(pa:Bool)(al:List Nat)(a:Ah):Prop:=(RT a/\¬ alR Z ZV al a)\/exB Y J pa a
noncomputable def Rv(Z:Sg)(ZV:L2.St)(H:Hp)(v:Vl)(u:V):Prop:=Rep K H (exV RT Y J Z ZV v.pa v.al) v.d u
noncomputable def Ro(Z:Sg)(ZV:L2.St)(H H':Hp)(v:Vl)(u:V):Prop:=
 aQ H H'/\(if v.fr=true then ∃a xs ds,u=.ref a/\v.d=.lst ds/\H a=none/\H' a=some (.lst xs)/\Reps K H' (λb=>b=a\/exV RT Y J Z ZV v.pa v.al b) ds xs
  else Rv K RT Y J Z ZV H' v u)
noncomputable def Rvs(Z:Sg)(ZV:L2.St)(H:Hp):List Vl->List V->Prop
 | [],us=>us=[]
 | v::vs,us=>∃u r,us=u::r/\Rv K RT Y J Z ZV H v u/\Rvs Z ZV H vs r
end
section
variable {K:Fg} {RT Y J:Ah->Prop} {Z:Sg} {ZV:L2.St} {H H' H1 H2:Hp} {v:Vl} {u:V}
theorem dE.imp(q:∀b ks,SqT K H b ks->SqT K H' b ks){k:NK}{b:Ah}(h:dE K H k b):dE K H' k b:=by
 obtain⟨bs,h1,h2⟩:=h;refine⟨bs,q _ _ h1,?_⟩;clear h1
 induction h2 with
 | nil=>exact .nil|cons h t I=>exact .cons (q _ _ h) I
mutual
theorem Rep.noT{ex:Ah->Prop}(I:∀b ks,SqT K H b ks->SqT K H' b ks):∀(d:D) (v:V),noL d=true->Rep K H ex d v->Rep K H' ex d v
 | .non,_,_,h=>h|.bl _,_,_,h=>h|.int _,_,_,h=>h|.str _,_,_,h=>h|.tup ds,_,n,h=>by obtain⟨a,xs,e,q,r⟩:=h;exact⟨a,xs,e,I _ _ q,Reps.noT I ds xs (by simpa[noL] using n) r⟩|.lst ds,_,n,_=>by simp[noL] at n
theorem Reps.noT{ex:Ah->Prop}(q:∀b ks,SqT K H b ks->SqT K H' b ks):∀(ds:List D) (xs:List V),noLs ds=true->Reps K H ex ds xs->Reps K H' ex ds xs
 | [],_,_,h=>h|d::ds,_,n,h=>by obtain⟨x,r,e,h1,h2⟩:=h;simp only[noLs,bA] at n;exact⟨x,r,e,Rep.noT q d x n.1 h1,Reps.noT q ds r n.2 h2⟩
end
theorem Dx.imp{I:Ah->Prop}{Z':Sg}{q:L2.St}(L:Dx K RT J Z ZV H)(m:Nat->Nat)(hs:∀j ks,Z'[j]? = some (.dct ks)->Z[m j]? = some (.dct ks)/\q[j]? = ZV[m j]?)(hm:∀i j ks ks',Z'[i]? = some (.dct ks)->Z'[j]? = some (.dct ks')->m i=m j->i=j)
 (hh:∀a xs,H a=some (dR a xs)->RT a->¬ J a->H' a=some (dR a xs)/\I a) (hr:∀b ks,SqT K H b ks->SqT K H' b ks)
 (U:∀j ab,Z'[j]? = some (.two ab)->Z[m j]? = some (.two ab)/\q[j]? = ZV[m j]?) (q3:∀i j ab ab',Z'[i]? = some (.two ab)->Z'[j]? = some (.two ab')->m i=m j->i=j)
 (q0:∀p xs,H p=some (.lst xs)->Pt RT J Z ZV p->H' p=some (.lst xs)/\Pt I J Z' q p):Dx K I J Z' q H' where
 at':=λi ks e=>by obtain⟨W,e2⟩:=hs i ks e;obtain⟨a,xs,h1,h2,h3,h4,h5,h6⟩:=L.at' (m i) ks W;obtain⟨g1,g2⟩:=hh a xs h2 h3 h4;exact⟨a,xs,by rw[e2];exact h1,g1,g2,h4,h5,λx hx=>dE.imp hr (h6 x hx)⟩
 inj:=λi j ks ks' a q1 q2 v1 v2=>by obtain⟨W,e2⟩:=hs i ks q1;obtain⟨e3,e4⟩:=hs j ks' q2;exact hm i j ks ks' q1 q2 (L.inj (m i) (m j) ks ks' a W e3 (by rw[<-e2];exact v1) (by rw[<-e4];exact v2))
 at2:=λi ab e=>by obtain⟨W,e2⟩:=U i ab e;obtain⟨a,b,c,xs,ys,h1,ht,hb,hc,pb,pc,hn,n1,r1,r2⟩:=L.at2 (m i) ab W;obtain⟨kb,qb⟩:=q0 b _ hb pb;obtain⟨kc,qc⟩:=q0 c _ hc pc;exact⟨a,b,c,xs,ys,by rw[e2];exact h1,hr _ _ ht,kb,kc,qb,qc,hn,n1,Reps.noT hr _ _ n1.1 r1,Reps.noT hr _ _ n1.2 r2⟩
 one:=λi j ab ab' q1 q2=>q3 i j _ _ q1 q2 (L.one _ _ _ _ (U i _ q1).1 (U j _ q2).1)
theorem RtO.grow{a:Ah}(h:RtO H a)(s:aQ H H'):RtO H' a:=h.imp (λ⟨xs,e⟩=>⟨xs,s _ _ e⟩) λ⟨xs,e⟩=>⟨xs,s _ _ e⟩
theorem Sx.grow(S:Sx K RT Y J Z ZV H)(s:aQ H H')(t:Tk K H'):Sx K RT Y J Z ZV H' where
 sh:=λi pa d e=>let ⟨v,h1,h2⟩:=S.sh i pa d e;⟨v,h1,h2.grow s⟩
 own:=λi pa ds e=>let ⟨a,xs,h1,h2,h3,h4,h5⟩:=S.own i pa ds e;⟨a,xs,h1,s _ _ h2,h3,h4,h5.grow s⟩
 trk:=λa h z=>S.trk a h (s.free z)
 yo:=S.yo
 tk:=t
 rt:=λa h=>(S.rt a h).grow s
 inj:=S.inj
 len:=S.len
 dx:=S.dx.imp id (λ_ _ e=>⟨e,rfl⟩) (λ_ _ _ _ _ _ e=>e) (λa xs e z _=>⟨s _ _ e,z⟩) (λ_ _ r=>aQ.seqT s r) (λ_ _ e=>⟨e,rfl⟩) (λ_ _ _ _ _ _ e=>e) λp xs e z=>⟨s _ _ e,z⟩
theorem exV.trk(S:Sx K RT Y J Z ZV H){pa:Bool}{al:List Nat}{a:Ah}(h:exV RT Y J Z ZV pa al a):H a≠none:=by
 rcases h with⟨h,_⟩|h|⟨_,h⟩
 exact S.trk a (.inl h);exact S.trk a (.inr (.inl h));exact S.trk a (.inr (.inr h))
theorem Ro.rv(S:Sx K RT Y J Z ZV H)(h:Ro K RT Y J Z ZV H H' v u):Rv K RT Y J Z ZV H' v u:=by obtain⟨s,h⟩:=h;by_cases q:v.fr=true;rw[if_pos q] at h;obtain⟨a,xs,ds,I,U,W,e4,r⟩:=h;unfold Rv;rw[U];exact⟨a,xs,I,SqL.of e4,λz=>exV.trk S z W,r.weak λb z=>.inr z⟩;rw[if_neg q] at h;exact h
theorem Rv.grow(h:Rv K RT Y J Z ZV H v u)(s:aQ H H'):Rv K RT Y J Z ZV H' v u:=Rep.grow h s
theorem Rvs.grow:∀{vs:List Vl} {us:List V},Rvs K RT Y J Z ZV H vs us->aQ H H'->Rvs K RT Y J Z ZV H' vs us
 | [],_,h,_=>h|v::vs,_,h,s=>by obtain⟨u,r,e,h1,h2⟩:=h;exact⟨u,r,e,h1.grow s,Rvs.grow h2 s⟩
theorem Ro.plain(s:aQ H H')(q:v.fr=false)(h:Rv K RT Y J Z ZV H' v u):Ro K RT Y J Z ZV H H' v u:=⟨s,by rw[if_neg (by rw[q];decide)];exact h⟩
theorem Ro.from(h:Ro K RT Y J Z ZV H1 H' v u)(s:aQ H H1):Ro K RT Y J Z ZV H H' v u:=by obtain⟨s',h⟩:=h;refine⟨s.trans s',?_⟩;by_cases q:v.fr=true;rw[if_pos q] at h ⊢;obtain⟨a,xs,ds,I,U,W,e4,r⟩:=h;exact⟨a,xs,ds,I,U,s.free W,e4,r⟩;rw[if_neg q] at h ⊢;exact h
theorem Ro.cl{d:D}(s:aQ H H')(h:Rep K H' (exV RT Y J Z ZV false []) d u):Ro K RT Y J Z ZV H H' (.cl d) u:=Ro.plain s rfl h
theorem Rv.sub{d:D}{x:V}{ds:List D}{xs:List V}{j:Nat}(h:Rep K H (exV RT Y J Z ZV v.pa v.al) d x):Rv K RT Y J Z ZV H (v.sub d) x:=by unfold Rv Vl.sub;by_cases q:noL d=true;rw[if_pos q];exact Rep.free d x q h;rw[if_neg q];exact h
theorem alR.mono{al I:List Nat}{a:Ah}(h:alR Z ZV al a)(s:∀j∈al,j∈I):alR Z ZV I a:=by obtain⟨j,U,q⟩:=h;exact⟨j,s j U,q⟩
theorem exV.mono{pa pa':Bool}{al q:List Nat}{a:Ah}(h:exV RT Y J Z ZV pa' q a)(I:pa=true->pa'=true)(s:∀j∈al,j∈q):exV RT Y J Z ZV pa al a:=by
 rcases h with⟨h1,h2⟩|h|⟨h1,h2⟩
 exact .inl ⟨h1,λz=>h2 (z.mono s)⟩;exact .inr (.inl h);refine .inr (.inr ⟨?_,h2⟩);grind
theorem Rvs.length:∀{vs:List Vl} {us:List V},Rvs K RT Y J Z ZV H vs us->vs.length=us.length
 | [],_,h=>by rw[show _=[] from h];rfl|v::vs,_,h=>by obtain⟨u,r,e,_,h2⟩:=h;subst e;rw[lC,lC,Rvs.length h2]
theorem pE{vs:List Vl}{v:Vl}(h:v∈vs):∀j∈v.al,j∈bT vs:=λj q=>DS.mpr ⟨v,h,q⟩
theorem yT{vs:List Vl}{v:Vl}(h:v∈vs)(q:v.pa=true):dS vs=true:=ES.mpr ⟨v,h,q⟩
theorem Rvs.reps:∀{vs:List Vl} {us:List V} {pa:Bool} {al:List Nat},Rvs K RT Y J Z ZV H vs us->(∀v∈vs,(v.pa=true->pa=true)/\∀j∈v.al,j∈al) ->
 Reps K H (exV RT Y J Z ZV pa al) (vs.map (·.d)) us
 | [],_,_,_,h,_=>h|v::vs,_,_,_,h,q=>by obtain⟨u,r,e,h1,h2⟩:=h;have I:=q v A3;exact⟨u,r,e,Rep.weak h1 λa z=>z.mono I.1 I.2,Rvs.reps h2 λw U=>q w (Au _ U)⟩
theorem Rvs.all{vs:List Vl}{us:List V}(h:Rvs K RT Y J Z ZV H vs us):Reps K H (exV RT Y J Z ZV (dS vs) (bT vs)) (vs.map (·.d)) us:=
 h.reps λv q=>⟨λz=>yT q z,pE q⟩
theorem Ro.fresh{p:Ah}{xs:List V}{ds:List D}(I:H p=none)(W:Tk K (upd H p (.lst xs)))(hd:v.d=.lst ds)(U:v.fr=true)(S:Sx K RT Y J Z ZV H)(r:Reps K H (exV RT Y J Z ZV v.pa v.al) ds xs) :
 Ro K RT Y J Z ZV H (upd H p (.lst xs)) v (.ref p):=by
 have s:aQ H (upd H p (.lst xs)):=λb o q=>by rw[aO (bS q I)];exact q
 refine⟨s,?_⟩;rw[if_pos U];refine⟨p,xs,ds,rfl,hd,I,bD,?_⟩;refine Reps.imp (λ_ _ q=>aQ.seqT s q) (λa ys n q=>⟨λz=>?_,s.seq q⟩) ds xs r;rcases z with z|z;subst z;rcases q with(q|⟨o,q⟩)|⟨o,q0,n',q,_⟩
 rw[I] at q;cases q;rw[I] at q;cases q;have z:=W a (by rw[bD];simp);rw[q] at z;cases z;exact n z
theorem aQ.new{p:Ah}{o:HO}(I:H p=none):aQ H (upd H p o):=λb u q=>by rw[aO (bS q I)];exact q
theorem Ro.tup{p:Ah}{xs:List V}{ds:List D}(q:H p=none)(hd:v.d=.tup ds)(I:v.fr=false)(r:Reps K H (exV RT Y J Z ZV v.pa v.al) ds xs) :
 Ro K RT Y J Z ZV H (upd H p (.tup xs)) v (.ref p):=by refine Ro.plain (aQ.new q) I ?_;unfold Rv;rw[hd];exact⟨p,xs,rfl,SqT.of bD,r.grow (aQ.new q)⟩
end
section
variable (X:Cx) (P:Pg) (W:Caller) (RT Y J:Ah->Prop)
noncomputable def wE(Z:Sg)(c:E):TE:=λZV H Q=>Sx X.K RT Y J Z ZV H/\RE (ev P W Z c) λv=>∀u H',Tk X.K H'->Ro X.K RT Y J Z ZV H H' v u->Q u H'
noncomputable def wT(Z:Sg)(c:E):TT:=λZV H Q=>Sx X.K RT Y J Z ZV H/\RE (tst P W Z c) λk=>∀H',Tk X.K H'->aQ H H'->Q k H'
noncomputable def wA(Z:Sg)(cs:Es):TA:=λZV H Q=>Sx X.K RT Y J Z ZV H/\RE (evs P W Z cs) λvs=>∀us H',Tk X.K H'->aQ H H'->Rvs X.K RT Y J Z ZV H' vs us->Q us H'
end
section
variable {X:Cx} {P:Pg} {W:Caller} {RT Y J:Ah->Prop} {Z:Sg} {pos:CB}
theorem _root_.L2.Inv.tk{G:List (Ah×Obj)}{ZV:L2.St}{H:Hp}{s:Ae}(I:Inv X G ZV H s):Tk X.K H:=λb U=>by
 cases q:X.K.lookup b with
 | none=>rfl|some o=>exact absurd (I.bs b o (I.ok.mod.kin b o q)).2 U
theorem _root_.L2.PE.imp{e:As}{t t':TE}(h:PE X e t)(f:∀ZV H Q,Tk X.K H->t' ZV H Q->t ZV H λv H'=>Tk X.K H'->Q v H'):PE X e t':=λG s ZV H Q I hw=>thn (h G s ZV H _ I (f ZV H Q I.tk hw)) λu s' ⟨v,H',U,r,q⟩=>⟨v,H',U,r,q U.tk⟩
theorem _root_.L2.PT.imp{e:As}{t t':TT}(h:PT X e t)(f:∀ZV H Q,Tk X.K H->t' ZV H Q->t ZV H λv H'=>Tk X.K H'->Q v H'):PT X e t':=λG s ZV H Q I hw=>thn (h G s ZV H _ I (f ZV H Q I.tk hw)) λk s' ⟨H',U,q⟩=>⟨H',U,q U.tk⟩
theorem _root_.L2.PA.imp{es:List As}{t t':TA}(h:PA X es t)(f:∀ZV H Q,Tk X.K H->t' ZV H Q->t ZV H λv H'=>Tk X.K H'->Q v H'):PA X es t':=λpos G s ZV H Q I hw=>thn (h pos G s ZV H _ I (f ZV H Q I.tk hw)) λu s' ⟨v,H',U,r,q⟩=>⟨v,H',U,r,q U.tk⟩
theorem wE.two{a b:E}{ZV:L2.St}{H:Hp}{p:Vl->Vl->Prop}{Q:V->V->Hp->Prop}(S:Sx X.K RT Y J Z ZV H)(h:RE (ev P W Z a) λx=>RE (ev P W Z b) λy=>p x y)
 (f:∀x y I U q,p x y->Tk X.K q->aQ H q->Sx X.K RT Y J Z ZV q->Rv X.K RT Y J Z ZV q x I->Rv X.K RT Y J Z ZV q y U->Q I U q) :
 wE X P W RT Y J Z a ZV H λI H1=>wE X P W RT Y J Z b ZV H1 λU q=>Q I U q:=by refine⟨S,h.mono λx hx I H1 t1 r1=>⟨S.grow r1.1 t1,hx.mono λy hy U q t2 r2=>?_⟩⟩;have S1:=S.grow r1.1 t1;exact f x y I U q hy t2 (r1.1.trans r2.1) (S1.grow r2.1 t2) ((r1.rv S).grow r2.1) (r2.rv S1)
theorem Ro.val{d:D}{u:V}{ZV:L2.St}{H H':Hp}(s:aQ H H')(h:∀ex,Rep X.K H' ex d u):Ro X.K RT Y J Z ZV H H' (.cl d) u:=Ro.cl s (h _)
theorem s_c {d : D} {c : JW} {k : Nat} (h : eqC d c = true) : PE X (.Constant c k pos) (wE X P W RT Y J Z (.c d)) := by
 have key : ∀ {v : V}, (∀ (H : Hp) ex, Rep X.K H ex d v) -> PE X (.Constant c k pos) (tC v) -> PE X (.Constant c k pos) (wE X P W RT Y J Z (.c d)) := λ U I =>I.imp λ ZV H Q t ⟨S, q⟩ t' => q _ H t' (Ro.val (aQ.refl H) (U H));cases d with
 | non => cases c with|none => exact key (λ _ _ => rfl) aJP|_ => cases h
 | bl b => cases c with
  | bool b' => have e : b = b' := by simpa [eqC] using h
               subst e; exact key (λ _ _ => rfl) aMH
  | _ => cases h
 | int b => cases c with
  | int b' => have e : b = b' := by simpa [eqC] using h
              subst e; exact key (λ _ _ => rfl) aEz
  | _ => cases h
 | str b => cases c with
  | str b' => have e : b = b' := by simpa [eqC] using h
              subst e; exact key (λ _ _ => rfl) aJQ
  | _ => cases h
 | _ => cases c <;> cases h
theorem s_v{i:Nat}{x:Str}(hN:X.N[i]? = some x)(hv:Vis X.env.scope x)(hd:(x==("__debug__" : Str))=false)(I:(x==("__classdict__" : Str))=false) :
 PE X (.Name x pos) (wE X P W RT Y J Z (.v i)):=by
 refine(nT hN hv hd I).imp λZV H Q t ⟨S,q⟩=>?_;have q:RE (cX Z i) _:=q;unfold cX at q;cases e:Z[i]? with
 | none=>rw[e] at q;exact q.elim|some sl=>
  rw[e] at q;cases sl with
  | dead=>exact q.elim|dct _=>exact q.elim|two _=>exact q.elim|sh pa d=>
   obtain⟨v,h1,h2⟩:=S.sh i pa d e;refine⟨v,h1,λt'=>q v H t' (Ro.plain (aQ.refl H) rfl ?_)⟩;unfold Rv;by_cases hn:noL d=true;exact Rep.free d v hn h2;refine Rep.weak h2 λa z=>?_;rcases z with⟨z,_⟩|z|⟨z,z'⟩
   exact .inl z;exact .inr (.inl z);have:pa=false:=by grind
   exact .inr (.inr ⟨this,z'⟩)
  | own pa ds=>
   obtain⟨a,xs,h1,h2,h3,U,h5⟩:=S.own i pa ds e;refine⟨.ref a,h1,λt'=>q _ H t' (Ro.plain (aQ.refl H) rfl ?_)⟩;unfold Rv;refine⟨a,xs,rfl,SqL.of h2,λz=>?_,h5.weak λb z=>?_⟩;rcases z with⟨_,z⟩|z|⟨_,z⟩
   exact z ⟨i,by simp,⟨pa,ds,e⟩,h1⟩;exact U (S.yo a z);exact U z;rcases z with⟨z,_⟩|z;exact .inl z;exact .inr z
end
noncomputable def uD(prog:Ay)(w:AJ)(K:Fg)(a:Ah)(t:List (Str×D)):Prop:=(a==E1)=false/\∃vs:List (Key×Ac),(∀h:Heap,K.In h->h.DictOf (cF prog w) a vs) /\
 ∀k:Str,(t.lookup k=none/\Fm vs (Co k:Key)=none)\/∃d u v,t.lookup k=some d/\Fm vs (Co k:Key)=some u/\bZ v u/\∀(H:Hp) (ex:Ah->Prop),Rep K H ex d v
section
variable {X:Cx}
theorem aHT{a:Ah}{t:List (Str×D)}{x:Str}{p ap cp:CB}{e:As}{te:TE}(T:uD X.prog X.w X.K a t)(hg:Gl X x)(hm:X.mg x=some (.ref a))(hd:(x==("__debug__" : Str))=false)(he:PE X e te)(U:(ap.endLine==cp.line)=true)
 (hs:Bq [e] X.env=[(false,DD e X.env)]) :
 PE X (.Call (.Attribute (.Name x p) "get" ap) [e] [] cp) (λZ H Q=>te Z H λu H1=>∃k,u=.str k/\∀v,(∀(H:Hp) (ex:Ah->Prop),Rep X.K H ex ((t.lookup k).getD .non) v)->Q v H1):=by
 intro G s Z H Q I h;obtain⟨q1,vs,dict,q3⟩:=T;refine Fk rfl (by rw[hs];rfl) U rfl (thn (aBE (v:=.ref a) hg hm rfl hd G s Z H (λv H1=>v=.ref a/\H1=H) I ⟨rfl,rfl⟩) λv s1 ⟨y,H1,I1,r1,e1,e2⟩=>?_);subst e1 e2;obtain rfl:v=CV a:=r1;have dd:=dict s1.heap I1.kIn;refine⟨"dict", "dict.get",PySem.F.plainAttrs_dict,F1,PySem.F.type_dict_get,dd.typeIs,λb q=>?_,?_⟩;cases q;obtain⟨ob,_,_,h1,h2,_⟩:=dd;exact⟨ob,h1,h2.2.1⟩
 . have hA:=(eX he hZ hs) cp G s1 Z H1 (λus H2=>match us with|[u]=>(∃k,u=.str k/\∀v,(∀(H:Hp) (ex:Ah->Prop),Rep X.K H ex ((t.lookup k).getD .non) v)->Q v H2)|_=>False) I1 h;rw[hs] at hA ⊢;refine Fl rfl (FB ?_);refine thn hA λus s2 ⟨xs,H2,I2,r2,W⟩=>?_
   match xs,r2,W with
   | [y],.cons ry .nil,W=>
    obtain⟨k,ey,W⟩:=W;subst ey;obtain⟨tk,rfl⟩:=ry;have q0:=dict s2.heap I2.kIn;refine IW F1 q0.typeIs PySem.F.entry_dict_get (PySem.F.args_dict_get_2 _ _) (meets_dict_get (cF X.prog X.w) a (k:=(Co k:Key)) (kE k tk) q1) ⟨_,q0.mapOf,?_⟩;rcases q3 k with⟨l1,l2⟩|⟨d,u,v,l1,l2,rv,rep⟩
    rw[l2];refine⟨.non,H2,I2.tok _,rfl,W .non λH ex=>?_⟩;rw[l1];rfl;rw[l2];refine⟨v,H2,I2.tok _,rv,W v λH ex=>?_⟩;rw[l1];exact rep H ex
end
section
variable {X:Cx} {RT Y J:Ah->Prop} {Z:Sg} {ZV:L2.St} {H:Hp} {s:Ae} {G:List (Ah×Obj)} {Q:VK} {ux uy:V} {vx vy:Ac} {x y:Vl}
theorem _root_.L2.EP.tk{u:Ac}{U:Ae}(h:EP X G ZV (λv H'=>Tk X.K H'->Q v H') u U):EP X G ZV Q u U:=by obtain⟨v,H',I,r,q⟩:=h;exact⟨v,H',I,r,q (Inv.tk I)⟩
abbrev Wn(X:Cx)(RT Y J:Ah->Prop)(Z:Sg)(ZV:L2.St)(H:Hp)(Q:VK)(v:Vl):Prop:=∀u H',Tk X.K H'->Ro X.K RT Y J Z ZV H H' v u->Q u H'
theorem Wn.val{d:D}{u:V}(w:Wn X RT Y J Z ZV H Q (.cl d))(t:Tk X.K H)(h:∀ex,Rep X.K H ex d u):Q u H:=w u H t (Ro.cl (aQ.refl H) (h _))
theorem Rv.int{i:Int}{u:V}(h:Rv X.K RT Y J Z ZV H x u)(e:x.d=.int i):u=.int i:=by unfold Rv at h;rw[e] at h;exact h
theorem Rv.str{i:Str}{u:V}(h:Rv X.K RT Y J Z ZV H x u)(e:x.d=.str i):u=.str i:=by unfold Rv at h;rw[e] at h;exact h
theorem Rv.bl{i:Bool}{u:V}(h:Rv X.K RT Y J Z ZV H x u)(e:x.d=.bl i):u=.bl i:=by unfold Rv at h;rw[e] at h;exact h
theorem Rv.non{u:V}(h:Rv X.K RT Y J Z ZV H x u)(e:x.d=.non):u=.non:=by unfold Rv at h;rw[e] at h;exact h
theorem Rv.tup{ds:List D}{u:V}(h:Rv X.K RT Y J Z ZV H x u)(e:x.d=.tup ds):∃a xs,u=.ref a/\SqT X.K H a xs/\Reps X.K H (exV RT Y J Z ZV x.pa x.al) ds xs:=by unfold Rv at h;rw[e] at h;exact h
theorem Rv.lst{ds:List D}{u:V}(h:Rv X.K RT Y J Z ZV H x u)(e:x.d=.lst ds):∃a xs,u=.ref a/\SqL X.K H a xs/\¬ exV RT Y J Z ZV x.pa x.al a/\Reps X.K H (exV RT Y J Z ZV x.pa x.al) ds xs:=by unfold Rv at h;rw[e] at h;exact h
theorem aKB:lim<=sizeLine:=by unfold lim;rw[Cb];decide
theorem nZ{n:Nat}(h:n<=lim):n<=sizeLine:=AL h aKB
theorem fX{ds:List D}{xs:List V}{pa:Bool}{al:List Nat}{K:Fg}(r:Reps K H (exV RT Y J Z ZV pa al) ds xs) :
 Reps K H (exV RT Y J Z ZV (pa&&!noLs ds) (if noLs ds=true then [] else al)) ds xs:=by by_cases q:noLs ds=true;exact Reps.free ds xs q r;grind
noncomputable def aNq(K:Fg):R2:=λx y H Q=>∃l b xs zs,x=.ref l/\y=.ref b/\SqL K H l xs/\SqL K H b zs/\xs.length+zs.length<=sizeLine/\∀p,H p=none->Q (.ref p) (upd H p (.lst (xs++zs)))
theorem aHU:OpR X (Dv .Add) (aNq X.K):=by
 intro G s ZV H x y v u Q I rx ry h;obtain⟨l,b,xs,zs,rfl,rfl,hH,hB,hz,q⟩:=h;cases rx;cases ry;obtain⟨W,r,pl,z⟩:=I.list hH;obtain⟨U,r2,q5,z2⟩:=I.list hB;obtain⟨⟨cls,dd,data,sl⟩,ho,hc,n,hd⟩:=pl.isList;obtain⟨⟨q7,q4,q3,q6⟩,q2,q0,n2,q1⟩:=q5.isList;simp only at hc hd q0 q1;subst hc hd q0 q1;have e:W.toArray++U.toArray=(W++U).toArray:=by simp
 have hl:=r.length;have q8:=r2.length;refine Fh ⟨_,ho,rfl⟩ ⟨_,q2,rfl⟩ noFill_list_add seq_list_add PySem.F.slot_list_add PySem.F.entry_list_add (PySem.F.args_list_add_2 _ _) (list_addW l b W.toArray U.toArray n n2 dd q4 sl q6 (by rw[Ak,Ak];omega)) ⟨ho,q2,?_⟩;rw[e];exact⟨.ref _,_,I.lnew (r.append r2) (by rw[lA];omega),rfl,q _ I.fresh⟩
noncomputable def aKC(K:Fg):R2:=λx y H Q=>∃a b xs ys,x=.ref a/\y=.ref b/\SqT K H a xs/\SqT K H b ys/\xs.length+ys.length<=sizeLine /\
 (xs=[]->Q (.ref b) H)/\(xs≠[]->ys=[]->Q (.ref a) H)/\(xs≠[]->ys≠[]->∀p,H p=none->Q (.ref p) (upd H p (.tup (xs++ys))))
theorem aFh:OpR X (Dv .Add) (aKC X.K):=by
 intro G s Z H x y v u Q I rx ry h;obtain⟨a,b,xs,ys,rfl,rfl,ha,hb,hz,q0,q1,q2⟩:=h;by_cases hx:xs=[]
 cases rx;cases ry;obtain⟨q6,r1,p1,_⟩:=I.tuple ha;obtain⟨q3,r2,p2,_⟩:=I.tuple hb;obtain⟨⟨cls,dd,data,sl⟩,ho,hc,n,hd⟩:=id p1;obtain⟨⟨q8,q5,q4,q7⟩,W,q,n2,U⟩:=id p2;simp only at hc hd q U;subst hc hd q U;exact Fh ⟨_,ho,rfl⟩ ⟨_,W,rfl⟩ EQ Ga DG D9 (Dy _ _)
  (tuple_addW0 a b q6.toArray q3.toArray n n2 dd q5 sl q7 (by simp[(r1.nil_iff.mpr hx)])) ⟨ho,W,⟨.ref b,H,I,rfl,q0 hx⟩⟩
 exact aHK G s Z H _ _ v u Q I rx ry ⟨a,b,xs,ys,rfl,rfl,ha,hb,hx,hz,q1 hx,q2 hx⟩
theorem aFi{o:Operator}(I:Inv X G ZV H s)(S:Sx X.K RT Y J Z ZV H)(rx:bZ ux vx)(ry:bZ uy vy)(hx:Rv X.K RT Y J Z ZV H x ux)(hy:Rv X.K RT Y J Z ZV H y uy)
 (q6:x.fr=true->∃a xs,ux=.ref a/\H a=some (.lst xs)) (h:RE (opD o x y) (Wn X RT Y J Z ZV H Q)):Av (AC X.prog X.w) X.A (Dv o vx vy) (EP X G ZV Q) X.xe s:=by
 have t:=Inv.tk I;have go:∀{f:Ac->Ac->JT Ac} {r:R2},OpR X f r->(r ux uy H λv H'=>Tk X.K H'->Q v H')->Av (AC X.prog X.w) X.A (f vx vy) (EP X G ZV Q) X.xe s:=λhr q=>thn (hr G s ZV H ux uy vx vy _ I rx ry q) λu s' z=>EP.tk z;cases o with
 | Add=>have h:RE (aKv x y) (Wn X RT Y J Z ZV H Q):=h;unfold aKv at h;split at h;rename_i i j U W;exact go aKd ⟨i,j,hx.int U,hy.int W,λ_=>h.val t λ_=>rfl⟩;rename_i as bs U W;obtain⟨c,h⟩:=h.iff;obtain⟨a,xs,e1,q1,r1⟩:=hx.tup U;obtain⟨b,ys,e2,q2,r2⟩:=hy.tup W;have l1:=r1.length;have l2:=r2.length;have c':=of_decide_eq_true c;have q4:Reps X.K H (exV RT Y J Z ZV (x.pa||y.pa) (x.al++y.al)) as xs:=r1.weak λa z=>z.mono (λhp=>by rw[hp];rfl) λj hj=>AN _ hj;have q5:Reps X.K H (exV RT Y J Z ZV (x.pa||y.pa) (x.al++y.al)) bs ys:=r2.weak λa z=>z.mono (λhp=>by rw[hp,IX]) λj hj=>A4 _ hj;refine go aFh ⟨a,b,xs,ys,e1,e2,q1,q2,nZ (by omega),λz t'=>?_,λz z' t'=>?_,λz z' p hp t'=>?_⟩;subst z;have:=Br.mp (by simpa using l1);subst this;exact h _ _ t' (Ro.plain (aQ.refl H) rfl ⟨b,ys,rfl,q2,q5⟩);subst z';have:=Br.mp (by simpa using l2);subst this;exact h _ _ t' (Ro.plain (aQ.refl H) rfl ⟨a,xs,rfl,q1,by rw[AO];exact q4⟩);exact h _ _ t' (Ro.tup hp rfl rfl (q4.append q5));rename_i as bs U W;obtain⟨c,h⟩:=h.iff;obtain⟨a,xs,e1,q1,_,r1⟩:=hx.lst U;obtain⟨b,ys,e2,q2,_,r2⟩:=hy.lst W;have l1:=r1.length;have l2:=r2.length;have c':=of_decide_eq_true c;refine go aHU ⟨a,b,xs,ys,e1,e2,q1,q2,nZ (by omega),λp hp t'=>h _ _ t' (Ro.fresh hp t' rfl rfl S ?_)⟩;refine Reps.append ((fX r1).weak λa z=>z.mono (λhp=>?_) λj hj=>AN _ hj) ((fX r2).weak λa z=>z.mono (λhp=>?_) λj hj=>A4 _ hj);grind;grind;exact h.elim|Mult=>have h:RE (aKw x y) (Wn X RT Y J Z ZV H Q):=h;unfold aKw at h;split at h;rename_i i j U W;obtain⟨c,h⟩:=h.iff;refine go aKf ⟨i,j,hx.int U,hy.int W,?_,λ_=>Wn.val h t λ_=>rfl⟩;simp only[gH,BG,bA,AR] at c;exact c;rename_i as k U W;obtain⟨c,h⟩:=h.iff;simp only[bA,AR] at c;obtain⟨a,xs,e1,q1,_,r1⟩:=hx.lst U;obtain⟨a',xs',q0,q3⟩:=q6 c.1.1.1;rw[e1] at q0;cases q0;have e3:=I.list_inj q1 (SqL.of q3);subst e3;have hk:=c.1.1.2;unfold aM at hk;simp only[bA,AR] at hk;exact go aKq ⟨a,k,xs,e1,hy.int W,q3,by omega,by omega,nZ (by rw[<-r1.length];exact c.1.2),λp hp t'=>h _ _ t' (Ro.fresh hp t' rfl rfl S (Reps.flat (Reps.free as xs c.2 r1) _))⟩;exact h.elim|Sub=>dsimp only[opD,aDr] at h;split at h;rename_i i j U W;exact go aKe ⟨i,j,hx.int U,hy.int W,λ_=>h.val t λ_=>rfl⟩;exact h.elim|FloorDiv=>dsimp only[opD,aDr] at h;split at h;rename_i i j U W;obtain⟨c,h⟩:=h.iff;refine go aHE ⟨i,j,hx.int U,hy.int W,?_,λ_=>Wn.val h t λ_=>rfl⟩;simp only[yM,bA,AR] at c;exact c;exact h.elim|Mod=>dsimp only[opD,aDr] at h;split at h;rename_i i j U W;obtain⟨c,h⟩:=h.iff;exact go aKg ⟨i,j,hx.int U,hy.int W,of_decide_eq_true c,λ_=>Wn.val h t λ_=>rfl⟩;exact h.elim|_=>exact h.elim
end
end Hp
namespace Hp
open PySem PySem.Spec PyProof.Rows L2 PySem.SeqAt
noncomputable def mO(n:Nat)(ds es:List D)(j:Nat):Bool:=match ds[j]?,es[j]? with|some x,some y=>(eqF n x y).getD false|_,_=>false
theorem aBO:∀{n:Nat} {ds es:List D} {k:Bool},iA n ds es=some k->∀{j:Nat} {x y:D},ds[j]? = some x->es[j]? = some y->∃b,eqF n x y=some b
 | n,[],es,k,h,j,x,y,e1,e2=>by simp at e1|n,d::ds,[],k,h,j,x,y,e1,e2=>by simp at e2|n,d::ds,e::es,k,h,j,x,y,e1,e2=>by
  rw[iA] at h;cases h1:eqF n d e with
  | none=>rw[h1] at h;simp at h|some b=>
   cases h2:iA n ds es with
   | none=>rw[h1,h2] at h;simp at h|some q=>
    cases j with
    | zero=>grind|succ j=>exact aBO h2 (by simpa using e1) (by simpa using e2)
theorem mP:∀{n:Nat} {ds es:List D} {k:Bool},iA n ds es=some k->k=((Ar (min ds.length es.length)).all (mO n ds es)&&ds.length==es.length)
 | n,[],[],k,h=>by simp[iA] at h;simp[<-h]|n,[],e::es,k,h=>by simp[iA] at h;simp[<-h]|n,d::ds,[],k,h=>by simp[iA] at h;simp[<-h]|n,d::ds,e::es,k,h=>by
  rw[iA] at h;cases h1:eqF n d e with
  | none=>rw[h1] at h;simp at h|some b=>
   cases h2:iA n ds es with
   | none=>rw[h1,h2] at h;simp at h|some U=>
    rw[h1,h2] at h;have q:mO n (d::ds) (e::es) 0=b:=by simp[mO,h1]
    have I:min (d::ds).length (e::es).length=min ds.length es.length+1:=by simp only[lC];omega
    rw[I,Cq,EG,q,IY];have:(mO n (d::ds) (e::es))∘Nat.succ=mO n ds es:=funext λj=>(λj=>by simp[mO]) j;rw[this,<-(AF h),(mP h2)];simp[Bool.and_assoc]
section
variable {X:Cx} {ZV:L2.St} {H:Hp} {s:Ae} {G:List (Ah×Obj)}
theorem _root_.L2.Inv.lt_ne(I:L2.Inv X G ZV H s){a:Ah}{xs ys:List V}(h1:SqL X.K H a xs)(h2:SqT X.K H a ys):False:=by obtain⟨U,_,pl,_⟩:=I.list h1;obtain⟨q,_,pt,_⟩:=I.tuple h2;exact ne_of_list_tuple pl.isList (pt) rfl
mutual
theorem wC(I:L2.Inv X G ZV H s):∀(n:Nat) (d e:D) (u:V) (k:Bool) (ex W:Ah->Prop),Rep X.K H ex d u->Rep X.K H W e u->eqF n d e=some k->k=true
 | 0,d,e,u,k,_,_,_,_,h=>by simp[eqF] at h|n+1,.non,e,u,k,_,_,h1,h2,h=>by
  rw[show u=.non from h1] at h2;cases e with
  | non=>simpa[eqF] using h.symm|tup ds=>obtain⟨a,xs,z,_⟩:=h2;cases z|lst ds=>obtain⟨a,xs,z,_⟩:=h2;cases z|bl b=>cases(h2)|int b=>cases(h2)|str b=>cases(h2)
 | n+1,.bl b,e,u,k,_,_,h1,h2,h=>by
  rw[show u=.bl b from h1] at h2;cases e with
  | bl U=>cases(h2);simpa[eqF] using h.symm|tup ds=>obtain⟨a,xs,z,_⟩:=h2;cases z|lst ds=>obtain⟨a,xs,z,_⟩:=h2;cases z|non=>cases(h2)|int U=>cases(h2)|str U=>cases(h2)
 | n+1,.int b,e,u,k,_,_,h1,h2,h=>by
  rw[show u=.int b from h1] at h2;cases e with
  | int U=>cases(h2);simpa[eqF] using h.symm|tup ds=>obtain⟨a,xs,z,_⟩:=h2;cases z|lst ds=>obtain⟨a,xs,z,_⟩:=h2;cases z|non=>cases(h2)|bl U=>cases(h2)|str U=>cases(h2)
 | n+1,.str b,e,u,k,_,_,h1,h2,h=>by
  rw[show u=.str b from h1] at h2;cases e with
  | str U=>cases(h2);simpa[eqF] using h.symm|tup ds=>obtain⟨a,xs,z,_⟩:=h2;cases z|lst ds=>obtain⟨a,xs,z,_⟩:=h2;cases z|non=>cases(h2)|bl U=>cases(h2)|int U=>cases(h2)
 | n+1,.tup ds,e,u,k,ex,W,h1,h2,h=>by
  obtain⟨a,xs,z,q,r⟩:=h1;subst z;cases e with
  | tup es=>obtain⟨a',ys,z,q',r'⟩:=h2;cases z;have:=I.tuple_inj q q';subst this;exact eqs_same I n ds es xs k ex W r r' (by simpa[eqF] using h)|lst es=>obtain⟨a',ys,z,q',_,r'⟩:=h2;cases z;exact(I.lt_ne q' q).elim|non=>cases(h2)|bl U=>cases(h2)|int U=>cases(h2)|str U=>cases(h2)
 | n+1,.lst ds,e,u,k,ex,W,h1,h2,h=>by
  obtain⟨a,xs,z,q,_,r⟩:=h1;subst z;cases e with
  | lst es=>obtain⟨a',ys,z,q',_,r'⟩:=h2;cases z;have:=I.list_inj q q';subst this;exact eqs_same I n ds es xs k ex W r r' (by simpa[eqF,(r.length.trans r'.length.symm)] using h)|tup es=>obtain⟨a',ys,z,q',r'⟩:=h2;cases z;exact(I.lt_ne q q').elim|non=>cases(h2)|bl U=>cases(h2)|int U=>cases(h2)|str U=>cases(h2)
theorem eqs_same(I:L2.Inv X G ZV H s):∀(n:Nat) (ds es:List D) (us:List V) (k:Bool) (ex q:Ah->Prop),Reps X.K H ex ds us->Reps X.K H q es us->iA n ds es=some k->k=true
 | n,[],[],us,k,_,_,h1,h2,h=>by simpa[iA] using h.symm|n,[],e::es,us,k,_,_,h1,h2,h=>by obtain⟨x,r,z,_⟩:=h2;rw[show us=[] from h1] at z;cases z|n,d::ds,[],us,k,_,_,h1,h2,h=>by obtain⟨x,r,z,_⟩:=h1;rw[show us=[] from h2] at z;cases z|n,d::ds,e::es,us,k,ex,q,h1,h2,h=>by
  obtain⟨x,r,z,a1,b1⟩:=h1;obtain⟨x',r',z',a2,b2⟩:=h2;rw[z] at z';cases z';rw[iA] at h;cases U:eqF n d e with
  | none=>rw[U] at h;simp at h|some b=>
   cases W:iA n ds es with
   | none=>rw[U,W] at h;simp at h|some b'=>rw[U,W] at h;have e1:=wC I n d e x b ex q a1 a2 U;have e2:=eqs_same I n ds es r b' ex q b1 b2 W;grind
end
noncomputable def Eq3(A:Bf)(s:Ae)(v z:Ac)(k:Bool):Prop:=EqAt A s v z k/\RcAt A s v z k/\RcNeAt A s v z (!k)
theorem aBP{xs:List V}{us:List Ac}(r:bC xs us){j:Nat}(h:j<us.toArray.size):∃x,xs[j]? = some x/\bZ x us.toArray[j]:=by
 have U:=r.length;have I:j<xs.length:=by rw[Ak] at h;omega
 obtain⟨u,e,q⟩:=r.get (Ad I);grind
theorem uE(A:Bf):A.in1.units=A.units+1:=rfl
theorem aBQ(I:L2.Inv X G ZV H s):∀(n:Nat) (A:Bf) (d e:D) (u w:V) (v z:Ac) (k:Bool) (ex q5:Ah->Prop),A.units+n<Cv->Rep X.K H ex d u->Rep X.K H q5 e w->bZ u v->bZ w z->eqF n d e=some k->Eq3 A s v z k:=by
 intro n
 induction n with
 | zero=>intro A d e u w v z k ex q5 _ _ _ _ _ h;simp[eqF] at h|succ n ih=>
  intro A d e u w v z k ex q5 hA h1 h2 r1 r2 h;have W:A.units<Cv:=by omega
  have items:∀{ds es:List D} {xs ys:List V} {q3 q0:List Ac} {k:Bool},Reps X.K H ex ds xs->Reps X.K H q5 es ys->bC xs q3->bC ys q0->iA n ds es=some k ->
   ∀j (_:j<q3.toArray.size) (_:j<q0.toArray.size),EqAt A.in1 s q3.toArray[j] q0.toArray[j] (mO n ds es j):=by
   intro ds es xs ys q3 q0 k q1 q2 v1 v2 hk j w6 w7;obtain⟨x,w4,rx⟩:=aBP v1 w6;obtain⟨y,w5,ry⟩:=aBP v2 w7;obtain⟨d',ed,rd⟩:=q1.get' w4;obtain⟨e',ee,re⟩:=q2.get' w5;obtain⟨b,hb⟩:=aBO hk ed ee;have hj:mO n ds es j=b:=by simp[mO,ed,ee,hb]
   rw[hj];exact(ih A.in1 d' e' x y _ _ b ex q5 (by rw[uE];omega) rd re rx ry hb).1
  cases d with
  | non=>
   rw[show u=.non from h1] at r1;cases r1;cases e with
   | non=>rw[show w=.non from h2] at r2;cases r2;simp[eqF] at h;subst h;exact⟨EqAt.same _,RcAt.none_none,RcNeAt.none_none⟩|bl b=>rw[show w=.bl b from h2] at r2;cases r2;simp[eqF] at h;subst h;exact⟨EqAt.none_bool _,RcAt.none_bool _,RcNeAt.none_bool _⟩|int b=>rw[show w=.int b from h2] at r2;obtain⟨t,rfl⟩:=r2;simp[eqF] at h;subst h;exact⟨EqAt.none_int _ _,RcAt.none_int _ _,RcNeAt.none_int _ _⟩|str b=>rw[show w=.str b from h2] at r2;obtain⟨t,rfl⟩:=r2;simp[eqF] at h;subst h;exact⟨EqAt.none_str _ _,RcAt.none_str _ _,RcNeAt.none_str _ _⟩|tup es=>obtain⟨b,ys,rfl,q,r⟩:=h2;cases r2;obtain⟨q3,_,p,_⟩:=I.tuple q;simp[eqF] at h;subst h;exact⟨EqAt.none_tuple (p) W,RcAt.none_tuple (p) W,RcNeAt.none_tuple (p) W⟩|lst es=>obtain⟨b,ys,rfl,q,_,r⟩:=h2;cases r2;obtain⟨q3,_,p,_⟩:=I.list q;simp[eqF] at h;subst h;exact⟨EqAt.none_list p.isList W,RcAt.none_list p.isList W,RcNeAt.none_list p.isList W⟩
  | bl a=>
   rw[show u=.bl a from h1] at r1;cases r1;cases e with
   | non=>rw[show w=.non from h2] at r2;cases r2;simp[eqF] at h;subst h;exact⟨EqAt.bool_none _,RcAt.bool_none _,RcNeAt.bool_none _⟩|bl b=>rw[show w=.bl b from h2] at r2;cases r2;simp only[eqF,C7] at h;subst h;exact⟨EqAt.bool_bool _ _,RcAt.bool_bool _ _,RcNeAt.bool_bool _ _⟩|int b=>rw[show w=.int b from h2] at r2;obtain⟨t,rfl⟩:=r2;simp only[eqF,C7] at h;subst h;exact⟨EqAt.bool_int _ _ _,RcAt.bool_int _ _ _,RcNeAt.bool_int _ _ _⟩|str b=>rw[show w=.str b from h2] at r2;obtain⟨t,rfl⟩:=r2;simp[eqF] at h;subst h;exact⟨EqAt.bool_str _ _ _,RcAt.bool_str _ _ _,RcNeAt.bool_str _ _ _⟩|tup es=>obtain⟨b,ys,rfl,q,r⟩:=h2;cases r2;obtain⟨q3,_,p,_⟩:=I.tuple q;simp[eqF] at h;subst h;exact⟨EqAt.bool_tuple _ (p) W,RcAt.bool_tuple _ (p) W,RcNeAt.bool_tuple _ (p) W⟩|lst es=>obtain⟨b,ys,rfl,q,_,r⟩:=h2;cases r2;obtain⟨q3,_,p,_⟩:=I.list q;simp[eqF] at h;subst h;exact⟨EqAt.bool_list _ p.isList W,RcAt.bool_list _ p.isList W,RcNeAt.bool_list _ p.isList W⟩
  | int a=>
   rw[show u=.int a from h1] at r1;obtain⟨t1,rfl⟩:=r1;cases e with
   | non=>rw[show w=.non from h2] at r2;cases r2;simp[eqF] at h;subst h;exact⟨EqAt.int_none _ _,RcAt.int_none _ _,RcNeAt.int_none _ _⟩|bl b=>rw[show w=.bl b from h2] at r2;cases r2;simp only[eqF,C7] at h;subst h;exact⟨EqAt.int_bool _ _ _,RcAt.int_bool _ _ _,RcNeAt.int_bool _ _ _⟩|int b=>rw[show w=.int b from h2] at r2;obtain⟨t,rfl⟩:=r2;simp only[eqF,C7] at h;subst h;exact⟨EqAt.int_int _ _ _ _,RcAt.int_int _ _ _ _,RcNeAt.int_int _ _ _ _⟩|str b=>rw[show w=.str b from h2] at r2;obtain⟨t,rfl⟩:=r2;simp[eqF] at h;subst h;exact⟨EqAt.int_str _ _ _ _,RcAt.int_str _ _ _ _,RcNeAt.int_str _ _ _ _⟩|tup es=>obtain⟨b,ys,rfl,q,r⟩:=h2;cases r2;obtain⟨q3,_,p,_⟩:=I.tuple q;simp[eqF] at h;subst h;exact⟨EqAt.int_tuple _ _ (p) W,RcAt.int_tuple _ _ (p) W,RcNeAt.int_tuple _ _ (p) W⟩|lst es=>obtain⟨b,ys,rfl,q,_,r⟩:=h2;cases r2;obtain⟨q3,_,p,_⟩:=I.list q;simp[eqF] at h;subst h;exact⟨EqAt.int_list _ _ p.isList W,RcAt.int_list _ _ p.isList W,RcNeAt.int_list _ _ p.isList W⟩
  | str a=>
   rw[show u=.str a from h1] at r1;obtain⟨t1,rfl⟩:=r1;cases e with
   | non=>rw[show w=.non from h2] at r2;cases r2;simp[eqF] at h;subst h;exact⟨EqAt.str_none _ _,RcAt.str_none _ _,RcNeAt.str_none _ _⟩|bl b=>rw[show w=.bl b from h2] at r2;cases r2;simp[eqF] at h;subst h;exact⟨EqAt.str_bool _ _ _,RcAt.str_bool _ _ _,RcNeAt.str_bool _ _ _⟩|int b=>rw[show w=.int b from h2] at r2;obtain⟨t,rfl⟩:=r2;simp[eqF] at h;subst h;exact⟨EqAt.str_int _ _ _ _,RcAt.str_int _ _ _ _,RcNeAt.str_int _ _ _ _⟩|str b=>rw[show w=.str b from h2] at r2;obtain⟨t,rfl⟩:=r2;simp only[eqF,C7] at h;subst h;exact⟨EqAt.str_str _ _ _ _,RcAt.str_str _ _ _ _,RcNeAt.str_str _ _ _ _⟩|tup es=>obtain⟨b,ys,rfl,q,r⟩:=h2;cases r2;obtain⟨q3,_,p,_⟩:=I.tuple q;simp[eqF] at h;subst h;exact⟨EqAt.str_tuple _ _ (p) W,RcAt.str_tuple _ _ (p) W,RcNeAt.str_tuple _ _ (p) W⟩|lst es=>obtain⟨b,ys,rfl,q,_,r⟩:=h2;cases r2;obtain⟨q3,_,p,_⟩:=I.list q;simp[eqF] at h;subst h;exact⟨EqAt.str_list _ _ p.isList W,RcAt.str_list _ _ p.isList W,RcNeAt.str_list _ _ p.isList W⟩
  | tup ds=>
   have q9:=h1;obtain⟨a,xs,rfl,q1,q6⟩:=h1;cases r1;obtain⟨q8,v1,p1,_⟩:=I.tuple q1;have U:=p1;cases e with
   | non=>rw[show w=.non from h2] at r2;cases r2;simp[eqF] at h;subst h;exact⟨EqAt.tuple_none U W,RcAt.tuple_none U W,RcNeAt.tuple_none U W⟩|bl b=>rw[show w=.bl b from h2] at r2;cases r2;simp[eqF] at h;subst h;exact⟨EqAt.tuple_bool _ U W,RcAt.tuple_bool _ U W,RcNeAt.tuple_bool _ U W⟩|int b=>rw[show w=.int b from h2] at r2;obtain⟨t,rfl⟩:=r2;simp[eqF] at h;subst h;exact⟨EqAt.tuple_int _ _ U W,RcAt.tuple_int _ _ U W,RcNeAt.tuple_int _ _ U W⟩|str b=>rw[show w=.str b from h2] at r2;obtain⟨t,rfl⟩:=r2;simp[eqF] at h;subst h;exact⟨EqAt.tuple_str _ _ U W,RcAt.tuple_str _ _ U W,RcNeAt.tuple_str _ _ U W⟩|tup es=>
    have w3:=h2;obtain⟨b,ys,rfl,q2,q4⟩:=h2;cases r2;obtain⟨q0,v2,p2,_⟩:=I.tuple q2;have hk:iA n ds es=some k:=by simpa[eqF] using h
    have l1:q8.toArray.size=ds.length:=by rw[Ak,<-v1.length,q6.length]
    have l2:q0.toArray.size=es.length:=by rw[Ak,<-v2.length,q4.length]
    have rc:RcAt A s (.ref a) (.ref b) k:=by rw[(mP hk),<-l1,<-l2];exact RcAt.tuples U (p2) W (items q6 q4 v1 v2 hk)
    have rn:RcNeAt A s (.ref a) (.ref b) (!k):=by rw[(mP hk),<-l1,<-l2];exact RcNeAt.tuples U (p2) W (items q6 q4 v1 v2 hk)
    refine⟨?_,rc,rn⟩;by_cases q7:a=b;subst q7;have:=wC I (n+1) (.tup ds) (.tup es) (.ref a) k ex q5 q9 w3 h;subst this;exact EqAt.same _;exact EqAt.of_refs q7 rc
   | lst es=>obtain⟨b,ys,rfl,q2,_,q4⟩:=h2;cases r2;obtain⟨q0,v2,p2,_⟩:=I.list q2;simp[eqF] at h;subst h;exact⟨EqAt.tuple_list U p2.isList W,RcAt.tuple_list U p2.isList W,RcNeAt.tuple_list U p2.isList W⟩
  | lst ds=>
   have q9:=h1;obtain⟨a,xs,rfl,q1,_,q6⟩:=h1;cases r1;obtain⟨q8,v1,p1,_⟩:=I.list q1;have U:=p1.isList;cases e with
   | non=>rw[show w=.non from h2] at r2;cases r2;simp[eqF] at h;subst h;exact⟨EqAt.list_none U W,RcAt.list_none U W,RcNeAt.list_none U W⟩|bl b=>rw[show w=.bl b from h2] at r2;cases r2;simp[eqF] at h;subst h;exact⟨EqAt.list_bool _ U W,RcAt.list_bool _ U W,RcNeAt.list_bool _ U W⟩|int b=>rw[show w=.int b from h2] at r2;obtain⟨t,rfl⟩:=r2;simp[eqF] at h;subst h;exact⟨EqAt.list_int _ _ U W,RcAt.list_int _ _ U W,RcNeAt.list_int _ _ U W⟩|str b=>rw[show w=.str b from h2] at r2;obtain⟨t,rfl⟩:=r2;simp[eqF] at h;subst h;exact⟨EqAt.list_str _ _ U W,RcAt.list_str _ _ U W,RcNeAt.list_str _ _ U W⟩|lst es=>
    have w3:=h2;obtain⟨b,ys,rfl,q2,_,q4⟩:=h2;cases r2;obtain⟨q0,v2,p2,_⟩:=I.list q2;have l1:q8.toArray.size=ds.length:=by rw[Ak,<-v1.length,q6.length]
    have l2:q0.toArray.size=es.length:=by rw[Ak,<-v2.length,q4.length]
    have both:RcAt A s (.ref a) (.ref b) k/\RcNeAt A s (.ref a) (.ref b) (!k):=by
     by_cases hl:ds.length=es.length;have hk:iA n ds es=some k:=by simpa[eqF,hl] using h
     have hv:=mP hk;rw[<-hl,Nat.min_self,beq_self_eq_true,DV,<-l1] at hv;rw[hv];exact⟨RcAt.lists U p2.isList (by rw[l1,l2,hl]) W (items q6 q4 v1 v2 hk),RcNeAt.lists U p2.isList (by rw[l1,l2,hl]) W (items q6 q4 v1 v2 hk)⟩;have hk:k=false:=by simpa[eqF,hl] using h.symm
     subst hk;exact⟨RcAt.lists_lengths U p2.isList (by rw[l1,l2];simpa using hl) W,RcNeAt.lists_lengths U p2.isList (by rw[l1,l2];simpa using hl) W⟩
    refine⟨?_,both.1,both.2⟩;by_cases q7:a=b;subst q7;have:=wC I (n+1) (.lst ds) (.lst es) (.ref a) k ex q5 q9 w3 h;subst this;exact EqAt.same _;exact EqAt.of_refs q7 both.1
   | tup es=>obtain⟨b,ys,rfl,q2,q4⟩:=h2;cases r2;obtain⟨q0,v2,p2,_⟩:=I.tuple q2;simp[eqF] at h;subst h;exact⟨EqAt.list_tuple U p2 W,RcAt.list_tuple U p2 W,RcNeAt.list_tuple U p2 W⟩
mutual
theorem aBR(I:L2.Inv X G ZV H s):∀(d e:D) (u:V) (ex U:Ah->Prop),Rep X.K H ex d u->Rep X.K H U e u->d=e
 | .tup ds,e,u,ex,U,⟨a,xs,z,q,r⟩,h2=>by
  subst z;cases e with
  | tup es=>obtain⟨_,ys,z,W,r'⟩:=h2;cases z;cases I.tuple_inj q W;rw[reps_inj I ds es xs ex U r r']|lst es=>obtain⟨_,ys,z,W,_⟩:=h2;cases z;exact(I.lt_ne W q).elim|_=>injection h2
 | .lst ds,e,u,ex,U,⟨a,xs,z,q,_,r⟩,h2=>by
  subst z;cases e with
  | lst es=>obtain⟨_,ys,z,W,_,r'⟩:=h2;cases z;cases I.list_inj q W;rw[reps_inj I ds es xs ex U r r']|tup es=>obtain⟨_,ys,z,W,_⟩:=h2;cases z;exact(I.lt_ne q W).elim|_=>injection h2
 | .non,e,u,_,_,h1,h2=>by cases(h1);cases e <;> first|rfl|(obtain⟨_,_,z,_⟩:=h2;cases z)|(cases(h2);try rfl)
 | .bl _,e,u,_,_,h1,h2=>by cases(h1);cases e <;> first|(obtain⟨_,_,z,_⟩:=h2;cases z)|(cases(h2);try rfl)
 | .int _,e,u,_,_,h1,h2=>by cases(h1);cases e <;> first|(obtain⟨_,_,z,_⟩:=h2;cases z)|(cases(h2);try rfl)
 | .str _,e,u,_,_,h1,h2=>by cases(h1);cases e <;> first|(obtain⟨_,_,z,_⟩:=h2;cases z)|(cases(h2);try rfl)
theorem reps_inj(I:L2.Inv X G ZV H s):∀(ds es:List D) (us:List V) (ex q:Ah->Prop),Reps X.K H ex ds us->Reps X.K H q es us->ds=es
 | [],[],_,_,_,_,_=>rfl|[],_::_,_,_,_,h1,⟨_,_,z,_⟩=>by cases(show _=[] from h1);cases z|_::_,[],_,_,_,⟨_,_,z,_⟩,h2=>by cases(show _=[] from h2);cases z|d::ds,e::es,us,ex,q,⟨x,r,z,a1,b1⟩,⟨_,_,z',a2,b2⟩=>by subst z;cases z';rw[aBR I d e x ex q a1 a2,reps_inj I ds es r ex q b1 b2]
end
theorem gU:∀{ds:List D} {ns:List Int} {xs:List V} {ex:Ah->Prop},dG ds=some ns->Reps X.K H ex ds xs->xs=ns.map V.int
 | [],ns,xs,ex,h,r=>by simp[dG] at h;subst h;exact r|.int a::ds,ns,xs,ex,h,r=>by
  obtain⟨x,I,z,h1,h2⟩:=r;rw[dG] at h;cases q:dG ds with
  | none=>rw[q] at h;cases h|some ms=>rw[q] at h;cases h;rw[z,show x=.int a from h1,gU q h2];rfl
 | .non::ds,ns,xs,ex,h,r=>by simp[dG] at h|.bl _::ds,ns,xs,ex,h,r=>by simp[dG] at h|.str _::ds,ns,xs,ex,h,r=>by simp[dG] at h|.tup _::ds,ns,xs,ex,h,r=>by simp[dG] at h|.lst _::ds,ns,xs,ex,h,r=>by simp[dG] at h
theorem aBS:∀(ns ms:List Int),aDs ns ms=HT.lexLt ns ms
 | [],[]=>rfl|[],_::_=>rfl|_::_,[]=>rfl|x::xs,y::ys=>by rw[aDs,HT.lexLt_cons,aBS xs ys]
theorem aDt{as bs:List D}{k:Bool}(h:aKx as bs=some k):∃ns ms,dG as=some ns/\dG bs=some ms/\k=HT.lexLt ns ms:=by
 unfold aKx at h;cases q:dG as with
 | none=>rw[q] at h;cases h|some ns=>
  cases I:dG bs with
  | none=>rw[q,I] at h;cases h|some ms=>rw[q,I] at h;exact⟨ns,ms,rfl,rfl,(AF h).symm.trans (aBS ns ms)⟩
theorem aBT:∀{x:D} {ys:List D} {k:Bool},tP x ys=some k->(∀y∈ys,∃b,eqD y x=some b)/\(k=true↔∃y∈ys,eqD y x=some true)
 | x,[],k,h=>by simp[tP] at h;subst h;simp|x,y::ys,k,h=>by
  rw[tP] at h;cases q:eqD y x with
  | none=>rw[q] at h;simp at h|some a=>
   cases I:tP x ys with
   | none=>rw[q,I] at h;simp at h|some b=>rw[q,I] at h;obtain⟨i1,i2⟩:=aBT I;grind
open Classical in
theorem aDu(I:L2.Inv X G ZV H s){A:Bf}(hA:A.units+mL+1<Cv){x:D}{ux:V}{vx:Ac}{ex U:Ah->Prop}{ys:List D}{xs:List V}{W:List Ac}{k:Bool}
 (hx:Rep X.K H ex x ux) (rx:bZ ux vx) (r:Reps X.K H U ys xs) (v:bC xs W) (h:tP x ys=some k) :
 ∃e:Ac->Bool,(∀y,y∈W.toArray->EqAt A.in1 s y vx (e y))/\W.toArray.any e=k:=by
 obtain⟨h1,h2⟩:=aBT h;have at':∀y∈W,∃u d,bZ u y/\Rep X.K H U d u/\d∈ys:=λy hy=>by
  obtain⟨j,hj⟩:=Bv hy;have hl:=v.length;have q0:j<xs.length:=by have:=(Ao.mp hj).1;omega
  obtain⟨u',e',q⟩:=v.get (Ad q0);rw[hj] at e';cases e';obtain⟨d,hd,rd⟩:=r.get' (Ad q0);exact⟨_,d,q,rd,mG hd⟩
 refine⟨λy=>decide (∃u d,bZ u y/\Rep X.K H U d u/\d∈ys/\eqD d x=some true),λy hy=>?_,?_⟩;obtain⟨u,d,q,rd,hd⟩:=at' y (by grind);obtain⟨b,hb⟩:=h1 d hd;have key:(decide (∃u d,bZ u y/\Rep X.K H U d u/\d∈ys/\eqD d x=some true))=b:=by
  cases b with
  | true=>grind|false=>refine A5 ?_;rintro ⟨u',d',q',q1,q3,q2⟩;have e1:=q'.inj q;subst e1;have e2:=aBR I d d' u' U U rd q1;grind
 show EqAt A.in1 s y vx (decide (∃u d,bZ u y/\Rep X.K H U d u/\d∈ys/\eqD d x=some true));rw[key];exact(aBQ I mL A.in1 d x u ux y vx b U ex (by rw[uE];omega) rd hx q rx hb).1;rw[C5,h2];constructor;grind;rintro ⟨d,hd,e⟩;have:W.any (λy=>decide (∃u d,bZ u y/\Rep X.K H U d u/\d∈ys/\eqD d x=some true))=true:=by obtain⟨j,hj⟩:=Bv hd;obtain⟨u,hu,ru⟩:=r.get hj;obtain⟨y,hy,q⟩:=v.get hu;exact ES.mpr ⟨y,mG hy,Am ⟨u,d,q,ru,hd,e⟩⟩
 grind
end
section
variable {X:Cx} {RT Y J:Ah->Prop} {Z:Sg} {ZV:L2.St} {H:Hp} {s:Ae} {G:List (Ah×Obj)} {Q:VK} {ux uy:V} {vx vy:Ac} {x y:Vl}
theorem aDv{o:CmpOp}{k:Bool}{q3:L2.St}(I:L2.Inv X G ZV H s)(hA:X.A.units+200<Cv)(rx:bZ ux vx)(ry:bZ uy vy)(U:Rv X.K RT Y J Z q3 H x ux)(hy:Rv X.K RT Y J Z q3 H y uy)
 (h:dJ o x.d y.d=some k) (q:Q (.bl k) H):Av (AC X.prog X.w) X.A (BE o vx vy) (EP X G ZV Q) X.xe s:=by
 have q0:EP X G ZV Q (.bool k) s:=⟨.bl k,H,I,rfl,q⟩
 have hD:mL=120:=rfl;have go:∀{f:Ac->Ac->JT Ac} {r:R2},OpR X f r->r ux uy H Q->Av (AC X.prog X.w) X.A (f vx vy) (EP X G ZV Q) X.xe s:=λhr q=>hr G s ZV H ux uy vx vy Q I rx ry q;have e3:∀{b:Bool},eqD x.d y.d=some b->Eq3 X.A s vx vy b:=λ{b} hb=>aBQ I mL X.A x.d y.d ux uy vx vy b _ _ (by omega) U hy rx ry hb;cases o with
 | Eq=>exact(e3 h).2.1 X.prog X.w X.xe _ q0|NotEq=>simp only[dJ,Bx] at h;obtain⟨b,hb,e⟩:=h;subst e;exact(e3 hb).2.2 X.prog X.w X.xe _ q0|Lt=>simp only[dJ] at h;unfold ltD at h;split at h;rename_i a b W d2;exact go aMV ⟨a,b,U.int W,hy.int d2,by grind⟩;rename_i as bs W d2;obtain⟨ns,ms,q1,q2,e⟩:=aDt h;obtain⟨a,xs,e1,p1,r1⟩:=U.tup W;obtain⟨b,ys,e2,p2,r2⟩:=hy.tup d2;rw[gU q1 r1] at p1;rw[gU q2 r2] at p2;exact go (aKm (by omega)) ⟨a,b,ns,ms,e1,e2,p1,p2,by rw[<-e];exact q⟩;cases h|Gt=>simp only[dJ] at h;split at h;rename_i a b W d2;exact go aMX ⟨a,b,U.int W,hy.int d2,by grind⟩;cases h|LtE=>simp only[dJ] at h;unfold leD at h;split at h;rename_i a b W d2;exact go aMW ⟨a,b,U.int W,hy.int d2,by grind⟩;cases h|GtE=>simp only[dJ] at h;split at h;rename_i a b W d2;exact go aMY ⟨a,b,U.int W,hy.int d2,by grind⟩;cases h|Is=>
  simp only[dJ] at h;split at h;rename_i d2;refine go aKi ⟨hy.non d2,?_⟩;have:decide (ux=V.non)=k:=by
   rw[<-AF h];unfold isNone;split;rename_i W;rw[U.non W];simp;rename_i W;refine A5 λz=>?_;rw[z] at U;unfold Rv at U;cases q':x.d with
   | non=>exact W q'|_=>rw[q'] at U;first|(obtain⟨a,xs,z',_⟩:=U;cases z')|exact U.elim|injection U
  rw[this];exact q;cases h
 | IsNot=>
  simp only[dJ] at h;split at h;rename_i d2;refine go aHF ⟨hy.non d2,?_⟩;have:(!decide (ux=V.non))=k:=by
   rw[<-AF h];unfold isNone;split;rename_i W;rw[U.non W];simp;rename_i W;rw[A5 λz=>?_];rw[z] at U;unfold Rv at U;cases q':x.d with
   | non=>exact W q'|_=>rw[q'] at U;first|(obtain⟨a,xs,z',_⟩:=U;cases z')|exact U.elim|injection U
  rw[this];exact q;cases h
 | In=>simp only[dJ] at h;unfold inD at h;split at h;rename_i ys d2;obtain⟨b,xs,e2,p2,_,r2⟩:=hy.lst d2;subst e2;cases ry;obtain⟨q4,v2,t2,_⟩:=I.list p2;obtain⟨e,he,hk⟩:=aDu I (A:=X.A) (by omega) U rx r2 v2 h;exact in_listAt e t2.isList he (by rw[hk];exact q0);rename_i a b W d2;exact go aDh ⟨a,b,U.str W,hy.str d2,by rw[show(!(EO b a 0 b.length 1).isEmpty)=k from AF h];exact q⟩;cases h|NotIn=>cases h
end
end Hp
namespace L2
open PySem PySem.Spec PyProof.Rows
open Hp (bestI lexN lexJ lexG ltI)
section
variable {prog:Ay} {w:AJ} {A:Bf} {E:Ac->Ae->Prop} {s:Ae}
theorem aBU:∀(ns ms:List Int),HT.lexLt ns ms=lexJ ns ms
 | [],[]=>rfl|[],_::_=>rfl|_::_,[]=>rfl|x::xs,y::ys=>by rw[HT.lexLt_cons,lexJ,lexG,aBU xs ys];rfl
theorem wD:∀{ks:List Int} {vs:List Ac},ItemsAre (BN prog w) ks vs->CD vs ks
 | _,_,.nil=>.nil|_,_,.cons (v:=v) h1 h2=>by change DX _ v=true at h1;cases v <;> simp[DX] at h1;subst h1;exact .cons _ _ (wD h2)
theorem aFj{l b:Ah}{items I:Array Ac}(hl:s.heap.IsList l items)(hb:s.heap.IsList b I)(hu:A.units+20<Cv){R:F9->Ae->Prop}:∀(ks W:List (List Int)) (i:Nat),i<=items.size->i<=I.size ->
 bM (BF (BN prog w)) s.heap ks (items.toList.drop i)->bM (BF (BN prog w)) s.heap W (I.toList.drop i)->R (.ok (.ret (.bool (lexN ks W)))) s ->
 D4 (AC prog w) A (.builtin "list.__eq__.loop" ⟨[.ref l,.ref b,Ca i,Ca 0],[]⟩) R s:=by
 obtain⟨⟨cls,dd,data,sl⟩,ho,hc,n,hd⟩:=hl;obtain⟨⟨q7,q8,q5,w5⟩,U,q3,n2,q4⟩:=hb;simp only at hc hd q3 q4;subst hc hd q3 q4;have z1:∀{X:Array Ac} {i:Nat} {ks:List (List Int)},bM (BF (BN prog w)) s.heap ks (X.toList.drop i)->i<=X.size->X.size=i+ks.length:=λ{X i ks} h hi=>by have h1:=h.len;have h2:X.toList.length=X.size:=B3;rw[BI] at h1;omega
 have hd:∀{X:Array Ac} {i:Nat} {v:Ac} {vs:List Ac},X.toList.drop i=v::vs->X[i]? = some v/\X.toList.drop (i+1)=vs:=λ{X i v vs} e=>by refine⟨?_,?_⟩;have:=congrArg (λl=>l[0]?) e;simpa using this;have:=congrArg (λl=>l.drop 1) e;simpa[Nat.add_comm] using this
 intro ks
 induction ks with
 | nil=>
  intro W i hi q0 q1 q2 h;have y1:=z1 q1 hi;have y2:=z1 q2 q0;refine Bm ET ?_;rw[AZ CG _];obtain⟨hp,g,d,tk,os⟩:=s
  wp_walk using AG ho,AG U
  have e1:items[((i:Nat):Int).toNat]? = none:=by simp at y1 ⊢;omega
  rw[e1]
  wp_walk using AG ho,AG U
  show R (.ok (.ret (.bool (decide (items.size<I.size))))) _;have:lexN [] W=decide (items.size<I.size):=by
   cases W with
   | nil=>simp[lexN,lexG];simp at y1 y2;omega|cons _ _=>simp[lexN,lexG];simp at y1 y2;omega
  rw[<-this];exact h
 | cons k ks ih=>
  intro W i hi q0 q1 q2 h;have y1:=z1 q1 hi;have y2:=z1 q2 q0;generalize e1:items.toList.drop i=v1 at q1;generalize e2:I.toList.drop i=v2 at q2;cases q1 with
  | @cons _ a _ vs h1 q1=>
   obtain⟨g1,f1⟩:=hd e1;refine Bm ET ?_;rw[AZ CG _];cases q2 with
   | nil=>
    obtain⟨hp,g,d,tk,os⟩:=s
    wp_walk using AG ho,AG U
    have g2:I[((i:Nat):Int).toNat]? = none:=by simp at y2 ⊢;omega
    rw[show((i:Nat):Int).toNat=i from rfl] at *;rw[g1,g2]
    wp_walk using AG ho,AG U
    show R (.ok (.ret (.bool (decide (items.size<I.size))))) _;have:lexN (k::ks) []=decide (items.size<I.size):=by simp[lexN,lexG];simp at y1 y2;omega
    rw[<-this];exact h
   | @cons j c W ws h2 q2=>
    obtain⟨g2,f2⟩:=hd e2;subst f1 f2;have q9:=@HeapKind.eqBool _ _ _ _ (BF (BN prog w)) A.in1;have q6:∀{E:Ac->Ae->Prop} {Q:Ac->Ae->Prop},Q (.bool (lexJ k j)) s->Av (AC prog w) A.in1 (DY .Lt (.ref a) (.ref c)) Q E s:=λ{E Q} q=>by obtain⟨o1,i1,m1,w1,w2,w3,w4⟩:=h1;obtain⟨o2,i2,m2,u1,u2,u3,u4⟩:=h2;exact HT.lt_tupInts ⟨o1,w1,w2,m1,w3⟩ ⟨o2,u1,u2,m2,u3⟩ (wD w4) (wD u4) (show A.units+1<Cv by omega) (by rw[aBU];exact q)
    unfold lexN at h;rw[lexG] at h;obtain⟨hp,g,d,tk,os⟩:=s
    wp_walk using AG ho,AG U
    rw[show((i:Nat):Int).toNat=i from rfl,g1,g2];refine Aa ((BF (BN prog w)).eqBool (show A.units+1<Cv by omega) h1 h2 ?_);by_cases ek:k=j
    . rw[Am ek];rw[if_pos ek] at h
      wp_walk
      rw[show((i:Int)+1)=((i+1:Nat):Int) by push_cast;rfl];exact⟨BL CG _,ih W (i+1) (by simp at y1;omega) (by simp at y2;omega) q1 q2 h⟩
    . rw[A5 ek];rw[if_neg ek] at h
      wp_walk using AG ho,AG U
      rw[g1,g2]
      wp_walk using q6
      exact h
abbrev aFk(I S:Ah)(h h':Heap):Prop:=∀b o,b≠I->b≠S->h.get? b=some o->h'.get? b=some o
abbrev fW(items:Array Ac)(i:Nat):Ac:=(items[i]?).getD .none
theorem aDw{I l S:Ah}{items:Array Ac}{bt:Nat->Nat->Bool}{h0:Heap}{R:F9->Ae->Prop}(hh:A.handled=none)(n1:l≠I)(n2:l≠S)(n3:S≠I)(hl:h0.IsList l items)
 (hc:∀(i j:Nat) (s':Ae) (Q E:Ac->Ae->Prop),i<items.size->j<items.size->aFk I S h0 s'.heap->Q (.bool (bt i j)) s'->Av (AC prog w) A.in1 (DY .Lt (fW items i) (fW items j)) Q E s') :
 ∀(k j:Nat) (s:Ae) (c:Nat),items.size=j+1+k->bestI bt j<items.size->s.heap.IsListIter I l (j+1)->aFk I S h0 s.heap ->
  s.heap.get? S=some (seqObj "list" #[fW items (bestI bt j),fW items (bestI bt j)] c) ->
  (∀h' tk,aFk I S h0 h'->R (.ok (.ret (fW items (bestI bt (items.size-1))))) { s with heap:=h',toks:=tk })->D4 (AC prog w) A (.builtin "min.loop" ⟨[.ref I,.none,.ref S],[]⟩) R s:=by
 have nm:(toString "min" ++ toString ".loop" : String) = "min.loop" := by decide
 intro k
 induction k with
 | zero=>
  intro j s c hj hb hI kp hS hR;refine Bm EU ?_;rw[AZ Cu _];refine Aa (B0 hS rfl ?_);refine Aa (E4 (DN hh hI ((λk=>let ⟨o,e,r⟩:=hl;⟨o,k _ _ n1 n2 e,r⟩) kp) (by simp;omega) λh1 k1=>?_));refine Aa (Fy (k1 S _ n3 hS) rfl (Aa (Dj (Af ?_))));have:=hR (h1.update S (D8 λ_=>#[])) s.toks λb o p q e=>by rw[BR _ _ _ _ q];exact k1 b o p (kp b o p q e)
  rw[show items.size-1=j by omega] at this;exact this
 | succ k ih=>
  intro j s c hj hb hI kp hS hR;refine Bm EU ?_;rw[AZ Cu _];refine Aa (B0 hS rfl ?_);have ej:items[j+1]? = some (fW items (j+1)):=by unfold fW;rw[B9 (by omega)];rfl
  refine Aa (E4 (CK hI ((λk=>let ⟨o,e,r⟩:=hl;⟨o,k _ _ n1 n2 e,r⟩) kp) ej λh1 i1 k1=>?_));have U:=(k1.2 S n3).trans hS;have W:aFk I S h0 h1:=λb o p q e=>(k1.2 b p).trans (kp b o p q e);refine Aa (Af ?_);show Av _ _ (tryCatch (Fa _ (DY .Lt _ _ >>= _)) _ >>= _) _ _ _;refine Aa (E4 (AY (Aa (hc (j+1) (bestI bt j) _ _ _ (by omega) hb W ?_))));refine Aa (AY (Bs (Aa (Dj (Af ?_)))));cases q0:bt (j+1) (bestI bt j) with
  | true=>
   have eb:bestI bt (j+1)=j+1:=by rw[bestI,q0];rfl
   rw[if_pos rfl];refine Aa (Fy U rfl (Aa (Dj ?_)));rw[nm];refine Af ⟨BL Cu _,ih (j+1) _ _ (by omega) (by rw[eb];omega) ?_ (λb o p q e=>by rw[BR _ _ _ _ q];exact W b o p q e) (by rw[eb];exact C0 _ U rfl) λh' tk k'=>hR h' tk k'⟩;obtain⟨o,e,r⟩:=i1;exact⟨o,by rw[BR _ _ _ _ (Dc n3)];exact e,r⟩
  | false=>
   have eb:bestI bt (j+1)=bestI bt j:=by rw[bestI,q0];rfl
   rw[if_neg bN];refine Aa (Dj ?_);rw[nm];exact Af ⟨BL Cu _,ih (j+1) _ c (by omega) (by rw[eb];exact hb) i1 W (by rw[eb];exact U) λh' tk k'=>hR h' tk k'⟩
theorem aFl{l b:Ah}:MeetsIn prog w (Cz.«list.__lt__» ⟨[.ref l,.ref b],[]⟩) (λA R s=>A.in1.units+20<Cv/\∃(items q:Array Ac) (ks js:List (List Int)),s.heap.IsList l items/\s.heap.IsList b q /\
 bM (BF (BN prog w)) s.heap ks items.toList/\bM (BF (BN prog w)) s.heap js q.toList/\R (.ok (.ret (.bool (lexN ks js)))) s):=by
 intro A R s h;obtain⟨hu,items,q,ks,js,hl,hb,q1,q2,h⟩:=h;have f3:=IZ;have ho:=hl;have I:=hb;obtain⟨⟨cls,dd,data,sl⟩,ho,hc,n,hd⟩:=ho;obtain⟨⟨q3,q4,q0,q5⟩,I,U,n2,W⟩:=I;simp only at hc hd U W;subst hc hd U W;have go:=aFj (A:=A) hl hb (by have:A.in1.units=A.units+1:=rfl;omega) ks js 0 (Bw _) (Bw _) q1 q2 h;clear hl hb q1 q2 h;obtain⟨hp,g,d,tk,os⟩:=s
 wp_walk using AG ho,AG I
 exact⟨BL CG _,go⟩
theorem aHV{l b:Ah}{items q:Array Ac}{ks U:List (List Int)}{Q:Ac->Ae->Prop}(hu:A.units+30<Cv)(I:s.heap.IsList l items)(W:s.heap.IsList b q)
 (q1:bM (BF (BN prog w)) s.heap ks items.toList) (q2:bM (BF (BN prog w)) s.heap U q.toList) (h:Q (.bool (lexN ks U)) s):Av (AC prog w) A (DY .Lt (.ref l) (.ref b)) Q E s:=by refine Ep I.typeIs W.typeIs FE (IW FE I.typeIs PySem.F.entry_list_lt (PySem.F.args_list_lt_2 _ _) aFl ⟨?_,items,q,ks,U,I,W,q1,q2,?_⟩) (by omega);show A.units+1+20<Cv;omega;exact⟨(λx=>nomatch x),h⟩
theorem tQ{l:Ah}{items:Array Ac}{bt:Nat->Nat->Bool}{Q:Ac->Ae->Prop}(hh:A.handled=none)(hl:s.heap.IsList l items)(h0:0<items.size)
 (hc:∀(i j:Nat) (W:Ae) (Q E:Ac->Ae->Prop),i<items.size->j<items.size->(∀b o,s.heap.get? b=some o->W.heap.get? b=some o)->Q (.bool (bt i j)) W->Av (AC prog w) A.in1 (DY .Lt (fW items i) (fW items j)) Q E W)
 (h:∀h' tk,(∀b o,s.heap.get? b=some o->h'.get? b=some o)->Q (fW items (bestI bt (items.size-1))) { s with heap:=h',toks:=tk }):Av (AC prog w) A (call (.builtin "min") [.ref l]) Q E s:=by
 have nm:(toString "min" ++ toString ".loop" : String) = "min.loop" := by decide
 refine call_function_tree F.kind_min F.plain_min F.entry_min (F.args_min1 _) ?_;refine Aa (FF (show _=pure [none,none] from rfl) ?_);refine Aa (Af (Aa (BO hl ?_)));refine Aa (Bn ?_);rw[nm];have U:=let ⟨o,e,_⟩:=hl;(λe=>An e) e;dsimp only;generalize eI:s.heap.push { cls:=.type "list_iterator",data:=.fields #[.ref l,.int 0 0] }=hp1;have sI:hp1.objs.size=s.heap.objs.size+1:=by rw[<-eI];exact HX ..
 have kI:∀b o,s.heap.get? b=some o->hp1.get? b=some o:=λb o e=>by rw[<-eI];exact Ab _ e
 have iI:hp1.IsListIter s.heap.objs.size l 0:=by rw[<-eI];exact⟨_,Aj _ rfl,rfl,rfl⟩
 rw[sI];generalize eS:hp1.push { cls:=.type "list",data:=.seq #[] }=hp2;have kS:∀b o,hp1.get? b=some o->hp2.get? b=some o:=λb o e=>by rw[<-eS];exact Ab _ e
 have iS:hp2.get? (s.heap.objs.size+1)=some (seqObj "list" #[] 0):=by rw[<-eS,<-sI];exact Aj _ rfl
 have all:∀{h'},aFk s.heap.objs.size (s.heap.objs.size+1) s.heap h'->∀b o,s.heap.get? b=some o->h'.get? b=some o:=λk b o e=>k b o (A8 ((λe=>An e) e)) (A8 (Cf ((λe=>An e) e))) e;refine Af ⟨BL Cu _,Bm EU ?_⟩;rw[AZ Cu _];refine Aa (B0 iS rfl ?_);have ej:items[0]? = some (fW items 0):=by unfold fW;rw[B9 h0];rfl
 refine Aa (E4 (CK (let ⟨o,e,r⟩:=iI;⟨o,kS _ _ e,r⟩) (let ⟨o,e,r⟩:=hl;⟨o,all (λb o _ _ e=>kS _ _ (kI _ _ e)) _ _ e,r⟩) ej λh1 i1 k1=>?_));have I:=(k1.2 _ (DT _)).trans iS;refine Aa (Af ?_);refine Aa (Fy I rfl ?_);rw[nm];refine Af ⟨BL Cu _,aDw hh (A8 U) (A8 (Cf U)) (DT _) hl (λi j W Q E hi hj k q=>hc i j W Q E hi hj (all k) q) (items.size-1) 0 _ _ (by omega) h0 ?_ (λb o p q e=>by
  rw[BR _ _ _ _ q];exact(k1.2 b p).trans ((λb o _ _ e=>kS _ _ (kI _ _ e)) b o p q e)) (C0 _ I rfl) λh' tk k=>h h' tk (all k)⟩
 obtain⟨o,e,r⟩:=i1;exact⟨o,by rw[BR _ _ _ _ (Dc (DT _))];exact e,r⟩
end
noncomputable def aBV(K:Aq)(H:Hp)(k:NK)(u:V):Prop:=∃(a:Ah) (bs:List Ah),u=.ref a/\SqL K H a (bs.map V.ref)/\Cp (λis c=>SqT K H c (is.map V.int)) k bs
section
variable {X:Cx} {G:List (Ah×Obj)} {Z:St} {H:Hp} {s:Ae}
theorem oA{prog:Ay}{w:AJ}{h h':Heap}(k:∀b o,h.get? b=some o->h'.get? b=some o):∀{ks:NK} {vs:List Ac},bM (BF (BN prog w)) h ks vs->bM (BF (BN prog w)) h' ks vs
 | _,_,.nil=>.nil|_,_,.cons q r=>.cons (by obtain⟨o,I,n,e,z⟩:=q;exact⟨o,I,n,k _ _ e,z⟩) (oA k r)
theorem yU(I:Inv X G Z H s):∀{ks:List NK} {us:List V} {U:List Ac},Cp (aBV X.K H) ks us->bC us U->∀i,i<U.length->∃a items,fW U.toArray i=.ref a/\s.heap.IsList a items/\bM (BF (BN X.prog X.w)) s.heap (ks.getD i []) items.toList
 | _,_,_,.nil,r,i,hi=>by cases r;exact absurd hi (Cj i)|_,_,_,.cons q t,r,i,hi=>by
  cases r with
  | cons W r2=>
   cases i with
   | succ i=>obtain⟨a,items,e,z⟩:=yU I t r2 i (by simpa using hi);exact⟨a,items,by rw[<-e];simp[fW],z⟩|zero=>obtain⟨a,bs,rfl,h1,h2⟩:=q;cases W;obtain⟨U,rv,pl,hz⟩:=I.list h1;exact⟨a,U.toArray,by simp[fW],pl.isList,qU I h2 rv⟩
theorem aDx(hc:X.calm=true)(hu:X.A.units+200<Cv):gG X (.builtin "min") (λxs H Q=>∃(p:Ah) (us:List V) (ks:List NK),xs=[.ref p]/\SqL X.K H p us/\Cp (aBV X.K H) ks us/\0<us.length/\∀v,us[Hp.minIx ks]? = some v->Q v H):=by
 intro G s Z H xs us Q I r h;obtain⟨p,vs,ks,rfl,hq,W,h0,q⟩:=h;obtain⟨u,rfl,rx⟩:=mK r;cases rx;obtain⟨U,rv,pl,hz⟩:=I.list hq;have hl:=rv.length;have hk:=W.length;have row:=yU I W rv;refine tQ (bt:=λi j=>lexN (ks.getD i []) (ks.getD j [])) (I.ok.hd hc) pl.isList (by rw[Ak];omega) (λi j s' Q' E' hi hj k q'=>?_) λh' tk k=>?_;obtain⟨a,A1,e1,l1,r1⟩:=row i (by simpa using hi);obtain⟨b,A2,e2,l2,r2⟩:=row j (by simpa using hj);rw[e1,e2];obtain⟨o1,w1,z1⟩:=l1;obtain⟨o2,w2,z2⟩:=l2;exact aHV (show X.A.units+1+30<Cv by omega) ⟨o1,k _ _ w1,z1⟩ ⟨o2,k _ _ w2,z2⟩ (oA k r1) (oA k r2) q';have hb:∀j,j<U.length->bestI (λi j=>lexN (ks.getD i []) (ks.getD j [])) j<U.length:=λj=>by
  induction j with
  | zero=>intro h;exact h|succ j ih=>intro h;rw[bestI];split;exact h;exact ih (by omega)
 have e:U.toArray.size-1=ks.length-1:=by rw[Ak];omega
 rw[e];obtain⟨v,ev⟩:∃v,vs[Hp.minIx ks]? = some v:=⟨_,Ad (by rw[hl];exact(hb (ks.length-1) (by omega)))⟩
 obtain⟨u,eu,ru⟩:=rv.get ev;refine⟨v,H,I.kept k,?_,q v ev⟩;unfold fW;rw[CZ];rw[show U[bestI (λi j=>lexN (ks.getD i []) (ks.getD j [])) (ks.length-1)]? = some u from eu];exact ru
end
end L2
namespace Hp
open PySem PySem.Spec PyProof.Rows L2
section
variable {X:Cx} {RT Y J:Ah->Prop} {Z:Sg} {ZV:L2.St} {H:Hp} {s:Ae} {G:List (Ah×Obj)} {Q:VK} {ux uy:V} {vx vy:Ac} {x y:Vl}
theorem oC(n:Nat)(k:Int):Hp.ixN n k=L2.ixN n k:=rfl
theorem Rv.ofSub{d:D}{u:V}(h:Rep X.K H (exV RT Y J Z ZV x.pa x.al) d u):Ro X.K RT Y J Z ZV H H (x.sub d) u:=by refine Ro.plain (aQ.refl H) ?_ (Rv.sub (ds:=[]) (xs:=[]) (j:=0) h);unfold Vl.sub Vl.cl;split <;> rfl
theorem aDy(t:Tk X.K H)(hx:Rv X.K RT Y J Z ZV H x ux)(hy:Rv X.K RT Y J Z ZV H y uy)(h:RE (eT x y) (Wn X RT Y J Z ZV H Q)):rIx X.K ux uy H (λv H'=>Tk X.K H'->Q v H'):=by
 unfold eT at h;split at h;rename_i ds k U W;obtain⟨a,xs,e,q,_,r⟩:=hx.lst U;cases I:Hp.ixN ds.length k with
 | none=>rw[I] at h;exact h.elim|some j=>
  rw[I] at h;cases hd:ds[j]? with
  | none=>simp only[hd] at h;exact h.elim|some d=>simp only[hd] at h;obtain⟨v,hv,rv⟩:=r.get hd;refine .inl ⟨a,xs,k,v,e,hy.int W,q,?_,λt'=>h v H t' (Rv.ofSub rv)⟩;unfold atI;rw[<-r.length,<-oC,I];exact hv
 rename_i ds k U W;obtain⟨a,xs,e,q,r⟩:=hx.tup U;cases I:Hp.ixN ds.length k with
 | none=>rw[I] at h;exact h.elim|some j=>
  rw[I] at h;cases hd:ds[j]? with
  | none=>simp only[hd] at h;exact h.elim|some d=>simp only[hd] at h;obtain⟨v,hv,rv⟩:=r.get hd;refine .inr (.inl ⟨a,xs,k,v,e,hy.int W,q,?_,λt'=>h v H t' (Rv.ofSub rv)⟩);unfold atI;rw[<-r.length,<-oC,I];exact hv
 rename_i z k U W;obtain⟨c,h⟩:=h.iff;have c':=of_decide_eq_true c;cases I:Hp.ixN z.length k with
 | none=>rw[I] at h;exact h.elim|some j=>
  rw[I] at h;cases hd:z.cps.toList[j]? with
  | none=>simp only[hd] at h;exact h.elim|some c=>
   simp only[hd] at h;refine .inr (.inr ⟨z,k,c,hx.str U,hy.int W,nZ c',?_,λt'=>Wn.val h t' λ_=>rfl⟩);unfold atI;have hl:z.cps.toList.length=z.length:=by simp[J9]
   rw[hl,<-oC,I];exact hd
 exact h.elim
theorem wF(n d:Nat)(o:Option Int):Hp.sIx n d o=HT.sIx n d o:=by cases o <;> rfl
theorem yV{K:Fg}{ex:Ah->Prop}{ds:List D}{xs:List V}(r:Reps K H ex ds xs)(lo hi:Option Int):Reps K H ex (cut ds lo hi) (aDm xs lo hi):=by unfold cut aDm;rw[wF,wF,r.length];exact(r.drop _).take _
theorem lB{prog:Ay}{w:AJ}{A:Bf}{E:Ac->Ae->Prop}{t sl:Ah}{items:Array Ac}{vl vu:Ac}{lo hi:Option Int}{Q:Ac->Ae->Prop}(q:IsTup s.heap t items)(hs:s.heap.IsSliceOf sl vl vu .none)(pl:Fi vl lo)(pu:Fi vu hi)
 (hw:HT.sIx items.size 0 lo=0/\HT.sIx items.size items.size hi=items.size) (h:Q (.ref t) s):Av (AC prog w) A (FQ (.ref t) (.ref sl)) Q E s:=by
 obtain⟨os,W,U,q0⟩:=id hs;unfold FQ
 try with_reducible refine AY ?_
 first|refine Aa (Af ?_)|skip
 refine Aa (G4 q.typeIs (by decide) ?_);refine Aa (Ba q.typeIs Bp
  (Bb Bp q.typeIs FU ?_ (Gk _ _)))
 show Av _ _ (Dh (.ref t) >>= _) _ _ s;refine Aa (I0 q ?_);refine Aa (Eo (⟨os,W,U⟩) ?_);rw[if_pos (by decide)];refine Aa (HT.sliceApplied_gen hs pl pu ?_);have I:(((HT.sIx items.size 0 lo:Nat):Int)==0&&(1:Int)==1&&(HT.sIx items.size items.size hi-HT.sIx items.size 0 lo)==items.size)=true:=by rw[hw.1,hw.2];simp
 show Av _ _ (if (((HT.sIx items.size 0 lo:Nat):Int)==0&&(1:Int)==1&&(HT.sIx items.size items.size hi-HT.sIx items.size 0 lo)==items.size)=true then _ else _) _ _ s;rw[if_pos I];unfold HY;refine Aa (Aa (Eo q.typeIs (Af ?_)));rw[if_pos (beq_self_eq_true _)];exact Aa (Di (Af ⟨_,rfl,Af h⟩))
noncomputable def aJp(K:Fg):V->Option Int->Option Int->Hp->VK->Prop:=λx lo hi H Q=>∃a xs,x=.ref a/\SqT K H a xs/\(HT.sIx xs.length 0 lo=0/\HT.sIx xs.length xs.length hi=xs.length)/\Q (.ref a) H
theorem aHW:SlR X (aJp X.K):=by
 intro G s Z H x v vl vu lo hi sl Q I rx hs pl pu h;obtain⟨a,xs,rfl,hx,hw,q⟩:=h;cases rx;obtain⟨W,r,ht,hz⟩:=I.tuple hx;have U:W.toArray.size=xs.length:=by rw[Ak];exact r.length.symm
 exact⟨"tuple",_,Bp.lookup,ht.typeIs,(lB ht hs pl pu (by rw[U];exact hw) ⟨.ref a,H,I,rfl,q⟩)⟩
noncomputable def aHX(K:Fg):V->Option Int->Option Int->Hp->VK->Prop:=λx lo hi H Q=>aNj K x lo hi H Q\/aNd K x lo hi H Q\/aJp K x lo hi H Q
theorem aKD:SlR X (aHX X.K):=aHM.or (aKl.or aHW)
theorem aDz{α:Type}{xs:List α}{lo hi:Option Int}(h1:Hp.sIx xs.length 0 lo=0)(h2:Hp.sIx xs.length xs.length hi=xs.length):cut xs lo hi=xs:=by unfold cut;rw[h1,h2,FG,Fo,BJ]
theorem aDA{lo hi:Option Int}(S:Sx X.K RT Y J Z ZV H)(t:Tk X.K H)(hx:Rv X.K RT Y J Z ZV H x ux)(h:RE (eU x lo hi) (Wn X RT Y J Z ZV H Q)) :
 aHX X.K ux lo hi H λv H'=>Tk X.K H'->Q v H':=by unfold eU at h;split at h;rename_i ds U;obtain⟨a,xs,e,q,_,r⟩:=hx.lst U;exact .inl ⟨a,xs,e,q,λp W t'=>h _ _ t' (Ro.fresh W t' rfl rfl S (yV (fX r) lo hi))⟩;rename_i ds U;obtain⟨a,xs,e,q,r⟩:=hx.tup U;by_cases I:HT.sIx xs.length 0 lo=0/\HT.sIx xs.length xs.length hi=xs.length;refine .inr (.inr ⟨a,xs,e,q,I,λt'=>h _ _ t' (Ro.plain (aQ.refl H) rfl ?_)⟩);unfold Rv;rw[(aDz (by rw[wF,r.length];exact I.1) (by rw[wF,r.length];exact I.2))];exact⟨a,xs,rfl,q,(fX r)⟩;exact .inr (.inl ⟨a,xs,e,q,I,λp W t'=>h _ _ t' (Ro.tup W rfl rfl (yV (fX r) lo hi))⟩);exact h.elim
theorem iX:∀{ds:List D} {bs:List Bool} {xs:List V} {ex:Ah->Prop},cJ ds=some bs->Reps X.K H ex ds xs->xs=bs.map V.bl
 | [],bs,xs,ex,h,r=>by simp[cJ] at h;subst h;exact r|.bl a::ds,bs,xs,ex,h,r=>by
  obtain⟨x,I,z,h1,h2⟩:=r;rw[cJ] at h;cases q:cJ ds with
  | none=>rw[q] at h;cases h|some ms=>rw[q] at h;cases h;rw[z,show x=.bl a from h1,iX q h2];rfl
 | .non::ds,ns,xs,ex,h,r=>by simp[cJ] at h|.int _::ds,ns,xs,ex,h,r=>by simp[cJ] at h|.str _::ds,ns,xs,ex,h,r=>by simp[cJ] at h|.tup _::ds,ns,xs,ex,h,r=>by simp[cJ] at h|.lst _::ds,ns,xs,ex,h,r=>by simp[cJ] at h
theorem lU:∀{ds:List D} {k:NK} {xs:List V} {ex:Ah->Prop},gR ds=some k->Reps X.K H ex ds xs->∃bs:List Ah,xs=bs.map V.ref/\Cp (λis c=>SqT X.K H c (is.map V.int)) k bs
 | [],k,xs,ex,h,r=>by cases h;exact⟨[],r,.nil⟩|d::ds,k,xs,ex,h,r=>by
  obtain⟨x,r',e,h1,h2⟩:=r;subst e;cases d with
  | tup as=>unfold gR at h;split at h;rename_i a q U W;cases h;obtain⟨bs,rfl,p⟩:=lU W h2;obtain⟨c,ys,rfl,I,q2⟩:=h1;rw[gU U q2] at I;exact⟨c::bs,rfl,.cons I p⟩;cases h|_=>cases h
theorem rB:∀{ds:List D} {ks:List NK} {xs:List V} {ex:Ah->Prop},qX ds=some ks->Reps X.K H ex ds xs->Cp (aBV X.K H) ks xs
 | [],ks,xs,ex,h,r=>by cases h;rw[show xs=[] from r];exact .nil|d::ds,ks,xs,ex,h,r=>by
  obtain⟨x,r',e,h1,h2⟩:=r;subst e;cases d with
  | lst as=>unfold qX at h;split at h;rename_i a q I U;cases h;obtain⟨c,ys,rfl,W,_,q2⟩:=h1;obtain⟨bs,rfl,p⟩:=lU I q2;exact .cons ⟨c,bs,rfl,W,p⟩ (rB U h2);cases h|_=>cases h
theorem uF:∀{bs:List Bool} {us:List Ac},bC (bs.map V.bl) us->us=bs.map C9:=by
 intro bs
 induction bs with
 | nil=>intro us r;rw[mN] at r;cases r;rfl|cons b bs q=>
  intro us r;rw[mC] at r;cases r with
  | cons I U=>rw[show _=C9 b from I,q U];rfl
theorem aAK(bs:List Bool):((Ar bs.length).all λi=>(bs[i]?).getD true)=bs.all id:=by rw[C5];simp only[B7,B5,id];constructor;intro h b q;obtain⟨i,hi⟩:=Bv q;have:=h i (Ao.mp hi).1;rw[hi] at this;grind;intro h i hi;rw[(Ad hi)];exact h _ (AK hi)
theorem aDB(hc:X.calm=true):gG X (.builtin "all") (λxs H Q=>∃(p:Ah) (bs:List Bool),xs=[.ref p]/\SqL X.K H p (bs.map V.bl)/\Q (.bl (bs.all id)) H):=by
 intro G s Z H xs us Q I r h;obtain⟨p,bs,rfl,hq,q⟩:=h;obtain⟨u,rfl,rx⟩:=mK r;cases rx;obtain⟨q1,rv,pl,hz⟩:=I.list hq;have q0:=uF rv;subst q0;refine call_all_walk (BO pl.isList ?_);refine⟨s.heap.objs.size,[s.heap.objs.size,p],[s.heap.objs.size],(bs.map C9).toArray.size,_,_,λi=>(bs[i]?).getD true,rfl,Gp (A:=X.A.in1) (I.ok.hd hc) _ p (A8 pl.lt) _,
  ⟨⟨_,Aj _ rfl,rfl,rfl⟩,pl.isList.push _⟩,λi v s' Q' E' hP hQ=>?_,λh' tk hk=>?_⟩
 have U:bs[i]?.map C9=some v:=by grind
 cases e:bs[i]? with
 | none=>rw[e] at U;cases U|some b=>rw[e] at U;cases U;simp only[e] at hQ;exact Bs hQ
 have e:((Ar (bs.map C9).toArray.size).all λi=>(bs[i]?).getD true)=bs.all id:=by rw[Ak,lM];exact aAK bs
 rw[e];refine⟨.bl _,H,I.kept λb o W=>hk b o ?_ (Ab _ W),rfl,q⟩;intro hm;rw[A0.mp hm] at W;exact B1 _ (An W)
theorem aAL(bs:List Bool):((Ar bs.length).any λi=>(bs[i]?).getD true)=bs.any id:=by rw[C5];simp only[ES,B5,id];constructor;rintro ⟨i,hi,h⟩;rw[Ad hi] at h;exact⟨bs[i],AK hi,h⟩;rintro ⟨b,q,h⟩;obtain⟨i,hi⟩:=Bv q;grind
theorem aDC(hc:X.calm=true):gG X (.builtin "any") (λxs H Q=>∃(p:Ah) (bs:List Bool),xs=[.ref p]/\SqL X.K H p (bs.map V.bl)/\Q (.bl (bs.any id)) H):=by
 intro G s Z H xs us Q I r h;obtain⟨p,bs,rfl,hq,q⟩:=h;obtain⟨u,rfl,rx⟩:=mK r;cases rx;obtain⟨q1,rv,pl,hz⟩:=I.list hq;have q0:=uF rv;subst q0;refine call_any_walk (BO pl.isList ?_);refine⟨s.heap.objs.size,[s.heap.objs.size,p],[s.heap.objs.size],(bs.map C9).toArray.size,_,_,λi=>(bs[i]?).getD true,rfl,Gp (A:=X.A.in1) (I.ok.hd hc) _ p (A8 pl.lt) _,
  ⟨⟨_,Aj _ rfl,rfl,rfl⟩,pl.isList.push _⟩,λi v s' Q' E' hP hQ=>?_,λh' tk hk=>?_⟩
 have U:bs[i]?.map C9=some v:=by grind
 cases e:bs[i]? with
 | none=>rw[e] at U;cases U|some b=>rw[e] at U;cases U;simp only[e] at hQ;exact Bs hQ
 have e:((Ar (bs.map C9).toArray.size).any λi=>(bs[i]?).getD true)=bs.any id:=by rw[Ak,lM];exact aAL bs
 rw[e];refine⟨.bl _,H,I.kept λb o W=>hk b o ?_ (Ab _ W),rfl,q⟩;intro hm;rw[A0.mp hm] at W;exact B1 _ (An W)
noncomputable def rBi(X:Cx)(b:Bi):List V->Hp->VK->Prop:=match b with|.len=>λxs H Q=>(∃p ys,xs=[.ref p]/\(SqL X.K H p ys\/SqT X.K H p ys)/\Q (.int ys.length) H)\/∃z,xs=[.str z]/\z.length<=sizeLine/\Q (.int z.length) H|.list=>λxs H Q=>∃p ys,xs=[.ref p]/\(SqL X.K H p ys\/SqT X.K H p ys)/\∀l,H l=none->Q (.ref l) (upd H l (.lst ys))|.tuple=>λxs H Q=>∃p ys,xs=[.ref p]/\((SqL X.K H p ys/\∀l,H l=none->Q (.ref l) (upd H l (.tup ys)))\/(SqT X.K H p ys/\Q (.ref p) H))|.int=>λxs H Q=>(∃i,xs=[.int i]/\Q (.int i) H)\/∃k,xs=[.bl k]/\Q (.int (if k then 1 else 0)) H|.all=>λxs H Q=>∃(p:Ah) (bs:List Bool),xs=[.ref p]/\SqL X.K H p (bs.map V.bl)/\Q (.bl (bs.all id)) H|.any=>λxs H Q=>∃(p:Ah) (bs:List Bool),xs=[.ref p]/\SqL X.K H p (bs.map V.bl)/\Q (.bl (bs.any id)) H|.min=>λxs H Q=>∃(p:Ah) (us:List V) (ks:List NK),xs=[.ref p]/\SqL X.K H p us/\Cp (aBV X.K H) ks us/\0<us.length/\∀v,us[Hp.minIx ks]? = some v->Q v H
noncomputable def aJq:Bi->Ac
 | .len=>.builtin "len" | .list=>.type "list" | .tuple=>.type "tuple" | .int=>.type "int" | .all=>.builtin "all" | .any=>.builtin "any" | .min=>.builtin "min"
theorem aHY(q:X.calm=true)(U:X.A.guards=some [])(I:X.A.units+200<Cv)(b:Bi):gG X (aJq b) (rBi X b):=by
 cases b with
 | len=>exact vQ.or vR|list=>exact vS|tuple=>exact tN|int=>exact aDi|all=>exact aDB q|any=>exact aDC q|min=>exact aDx q I
theorem aFm{b:Bi}(S:Sx X.K RT Y J Z ZV H){vs:List Vl}{us:List V}(hv:Rvs X.K RT Y J Z ZV H vs us)(h:RE (biD b vs) (Wn X RT Y J Z ZV H Q)) :
 rBi X b us H (λv H'=>Tk X.K H'->Q v H'):=by
 unfold biD at h;split at h;rename_i x;obtain⟨u,r,e,U,hr⟩:=hv;rw[show r=[] from hr] at e;subst e;cases b with
 | len=>dsimp only[yN] at h;split at h;rename_i ds I;obtain⟨a,xs,e,q,_,r⟩:=U.lst I;exact .inl ⟨a,xs,by rw[e],.inl q,λt'=>by rw[<-r.length];exact Wn.val h t' λ_=>rfl⟩;rename_i ds I;obtain⟨a,xs,e,q,r⟩:=U.tup I;exact .inl ⟨a,xs,by rw[e],.inr q,λt'=>by rw[<-r.length];exact Wn.val h t' λ_=>rfl⟩;rename_i z I;obtain⟨c,h⟩:=h.iff;exact .inr ⟨z,by rw[U.str I],nZ (of_decide_eq_true c),λt'=>Wn.val h t' λ_=>rfl⟩;exact h.elim|list=>dsimp only[yN] at h;split at h;rename_i ds I;obtain⟨a,xs,e,q,_,r⟩:=U.lst I;exact⟨a,xs,by rw[e],.inl q,λp hp t'=>h _ _ t' (Ro.fresh hp t' rfl rfl S (fX r))⟩;rename_i ds I;obtain⟨a,xs,e,q,r⟩:=U.tup I;exact⟨a,xs,by rw[e],.inr q,λp hp t'=>h _ _ t' (Ro.fresh hp t' rfl rfl S (fX r))⟩;exact h.elim|tuple=>dsimp only[yN] at h;split at h;rename_i ds I;obtain⟨a,xs,e,q,_,r⟩:=U.lst I;exact⟨a,xs,by rw[e],.inl ⟨q,λp hp t'=>h _ _ t' (Ro.tup hp rfl rfl (fX r))⟩⟩;rename_i ds I;obtain⟨a,xs,e,q,r⟩:=U.tup I;exact⟨a,xs,by rw[e],.inr ⟨q,λt'=>h _ _ t' (Ro.plain (aQ.refl H) rfl ⟨a,xs,rfl,q,r⟩)⟩⟩;exact h.elim|int=>dsimp only[yN] at h;split at h;rename_i i I;exact .inl ⟨i,by rw[U.int I],λt'=>Wn.val h t' λ_=>rfl⟩;rename_i k I;exact .inr ⟨k,by rw[U.bl I],λt'=>Wn.val h t' λ_=>rfl⟩;exact h.elim|all=>dsimp only[yN] at h;split at h;rename_i ds I;obtain⟨a,xs,e,q,_,r⟩:=U.lst I;split at h;rename_i bs W;rw[iX W r] at q;exact⟨a,bs,by rw[e],q,λt'=>Wn.val h t' λ_=>rfl⟩;exact h.elim;exact h.elim|any=>dsimp only[yN] at h;split at h;rename_i ds I;obtain⟨a,xs,e,q,_,r⟩:=U.lst I;split at h;rename_i bs W;rw[iX W r] at q;exact⟨a,bs,by rw[e],q,λt'=>Wn.val h t' λ_=>rfl⟩;exact h.elim;exact h.elim|min=>dsimp only[yN] at h;split at h;rename_i ds I;obtain⟨a,xs,e,q,_,r⟩:=U.lst I;split at h;rename_i ks q0;split at h;rename_i d hd;have hl:=r.length;have hj:=(Ao.mp hd).1;refine⟨a,xs,ks,by rw[e],q,rB q0 r,by omega,λv hv t'=>?_⟩;obtain⟨v',q1,rv⟩:=r.get hd;cases q1.symm.trans hv;exact h v H t' (Rv.ofSub rv);exact h.elim;exact h.elim;exact h.elim
 exact h.elim
noncomputable def tyD:D->Option String
 | .non=>some "NoneType" | .bl _=>some "bool" | .int _=>some "int" | .str _=>some "str" | .tup _=>some "tuple" | .lst _=>some "list"
theorem kJ(K:Fg)(P:Pg){c:Cl}{d:D}{k:Bool}{T:String}(q:tyD d=some T)(h:isI [c] P d=some k):PySem.W.kitOne K (.type T) (.type (clName c))=some k:=by cases c <;> cases d <;> cases q <;> simp[isI] at h <;> subst h <;> kernel_rfl
theorem aDD(P:Pg){c:Cl}{k:Bool}(I:L2.Inv X G ZV H s)(W:bZ ux vx)(hx:Rv X.K RT Y J Z ZV H x ux)(h:isI [c] P x.d=some k)(q:Q (.bl k) H) :
 Av (AC X.prog X.w) X.A (HW (.builtin "isinstance") [vx,.type (clName c)]) (EP X G ZV Q) X.xe s:=by
 have U:∀tk,EP X G ZV Q (.bool k) { s with toks:=tk }:=λtk=>⟨.bl k,H,I.tok tk,rfl,q⟩
 cases d:x.d with
 | non=>rw[hx.non d] at W;cases W;exact CT PySem.W.kitx_none I.kIn E3 (kJ X.K P (by rw[d];rfl) h) (λz=>nomatch z) U|bl b=>rw[hx.bl d] at W;cases W;exact CT PySem.W.kitx_bool I.kIn E3 (kJ X.K P (by rw[d];rfl) h) (λz=>nomatch z) U|int i=>rw[hx.int d] at W;obtain⟨t,rfl⟩:=W;exact CT PySem.W.kitx_int I.kIn E3 (kJ X.K P (by rw[d];rfl) h) (λz=>nomatch z) U|str z=>rw[hx.str d] at W;obtain⟨t,rfl⟩:=W;exact CT PySem.W.kitx_str I.kIn E3 (kJ X.K P (by rw[d];rfl) h) (λz=>nomatch z) U|tup ds=>obtain⟨a,xs,e1,p,_⟩:=hx.tup d;subst e1;cases W;obtain⟨q0,_,t,_⟩:=I.tuple p;obtain⟨o,h1,h2,_⟩:=t;exact CT PySem.W.kitx_tuple I.kIn ⟨o,h1,h2⟩ (kJ X.K P (by rw[d];rfl) h) (λz=>nomatch z) U|lst ds=>obtain⟨a,xs,e1,p,_⟩:=hx.lst d;subst e1;cases W;obtain⟨q0,_,t,_⟩:=I.list p;obtain⟨o,n,h1,h2,_⟩:=t;exact CT PySem.W.kitx_list I.kIn ⟨o,h1,h2⟩ (kJ X.K P (by rw[d];rfl) h) (λz=>nomatch z) U
end
end Hp
namespace L2
open PySem PySem.Spec PyProof.Rows
noncomputable def lD(cells:List (Str×Ah)):List (Str×Cc)->List (Str×Ah)->List (Str×Ah)
 | [],acc=>acc|(n,k)::r,acc=>if k==.free then lD cells r ((n,(cells.lookup n).getD 0)::acc) else lD cells r acc
theorem clos_mem{cells:List (Str×Ah)}:∀{names:List (Str×Cc)} {I:List (Str×Ah)} {p:Str×Ah},p∈lD cells names I->p∈I\/((p.1,Bt)∈names/\p.2=(cells.lookup p.1).getD 0)
 | [],_,_,h=>.inl h|(n,k)::r,I,p,h=>by unfold lD at h;by_cases U:(k==Bt)=true;rw[if_pos U] at h;rcases clos_mem h with q|q;grind;grind;rw[if_neg U] at h;rcases clos_mem h with q|q;exact .inl q;grind
theorem rC{cells:List (Str×Ah)}:∀{names:List (Str×Cc)} {q:List (Str×Ah)} {p:Str×Ah},p∈q->p∈lD cells names q
 | [],_,_,h=>h|(n,k)::r,q,p,h=>by unfold lD;by_cases I:(k==Bt)=true;rw[if_pos I];exact rC (Au _ h);rw[if_neg I];exact rC h
theorem mQ{cells:List (Str×Ah)}:∀{names:List (Str×Cc)} {I:List (Str×Ah)} {n:Str},(n,Bt)∈names->(n,(cells.lookup n).getD 0)∈lD cells names I
 | [],_,_,h=>by simp at h|(m,k)::r,I,n,h=>by unfold lD;rcases AA.mp h with q|q;cases q;rw[if_pos (by rfl:(Bt==Bt)=true)];exact rC A3;by_cases U:(k==Bt)=true;rw[if_pos U];exact mQ q;rw[if_neg U];exact mQ q
theorem fT{α:Type}:∀{l:List (Str×α)} {x:Str} {a:α},(x,a)∈l->∃b,l.lookup x=some b
 | (y,b)::r,x,a,h=>by
  rw[List.lookup_cons];cases I:x==y with
  | true=>grind|false=>rcases AA.mp h with q|q;grind;exact fT q
theorem dF{cells:List (Str×Ah)}{names:List (Str×Cc)}(I:∀n,(n,Bt)∈names->∃c,cells.lookup n=some c){x:Str}{c:Ah}(h:(lD cells names []).lookup x=some c):cells.lookup x=some c:=by
 rcases clos_mem (BA h) with q|⟨U,W⟩
 simp at q;grind
theorem jG{scope:De}{env:Iw}(W:∀n,(n,Bt)∈scope.names->∃c,env.cells.lookup n=some c):closureFor scope env=pure (lD env.cells scope.names []):=by
 have go:∀(l:List (Str×Cc)) (q:List (Str×Ah)),(∀n,(n,Bt)∈l->∃c,env.cells.lookup n=some c) ->
  (forIn l q (λ(x:Str×Cc) (r:List (Str×Ah))=>(match x with|(name,kind)=>if (kind==Bt)=true then do let __do_lift<-cellOf env name;pure (CU ((name,__do_lift)::r)) else pure (CU r):JT (ForInStep (List (Str×Ah))))))=(pure (lD env.cells l q):JT (List (Str×Ah))):=by
  intro l
  induction l with
  | nil=>intro q _;rfl|cons p r ih=>
   intro q U;obtain⟨n,k⟩:=p;rw[Eg];unfold lD;by_cases I:(k==Bt)=true;have:=eq_of_beq I;subst this;obtain⟨c,e⟩:=U n A3;have e':cellOf env n=pure c:=by unfold cellOf;rw[e]
   grind;simp only[I];exact ih _ λm hm=>U m (Au _ hm)
 unfold closureFor;exact(bind_pure _).trans (go scope.names [] W)
section
variable {prog:Ay} {w:AJ} {A:Bf} {R:F9->Ae->Prop} {s:Ae}
theorem jN{elt q w5:As}{w4:List As}{scope:De}{pos:CB}{it q7:Ac}{env:Iw}(I:Nat->Ae->Prop)
 (w6:∀n s,I n s->Av (AC prog w) A (CY it) (λr U=>match r with
  | none=>R (.ok .next) U|some v=>Av (AC prog w) A (Ec q it v) (λ_ W=>Av (AC prog w) A (HF q env v) (λ_ q3=>
   Av (AC prog w) A (forIn w4 true λc r=>if r=true then do let ok<-isTrue c env (DD c env);pure (CU ok) else pure (CU r)) (λok q0=>
    if ok=true then Av (AC prog w) A (DD elt env) (λx q4=>
     Av (AC prog w) A (call (.builtin "list.append") [q7,x]) (λ_ q5=>∃m,m<n/\I m q5) (λ_ _=>False) q4) (λ_ _=>False) q0
    else ∃m,m<n/\I m q0) (λ_ _=>False) q3) (λ_ _=>False) W) (λ_ _=>False) U) (λ_ _=>False) s)
 (n:Nat) (h:I n s) :
 D4 (AC prog w) A (.compLoop (.ListComp elt [⟨q,w5,w4,0⟩] scope pos) 0 it q7 env) R s:=by
 refine codeAny_loop rfl I (λn s hI=>?_) n h;refine wpAny_noted ?_;rw[compTurn_list];refine Aa (EF (Aa (CJ (w6 n s hI) (λr U q1=>?_) λ_ _ h'=>h'.elim)));cases r with
 | none=>exact Af q1|some v=>
  refine Aa (CJ q1 (λ_ W q6=>?_) λ_ _ h'=>h'.elim);refine Aa (CJ q6 (λ_ q3 q8=>Aa (CJ q8 (λok q0 q2=>?_) λ_ _ h'=>h'.elim)) λ_ _ h'=>h'.elim);cases ok with
  | false=>exact Af ⟨rfl,q2⟩|true=>exact Aa (Aa (CJ q2 (λx q4 q9=>Aa (CJ q9 (λ_ q5 w3=>Af (Af ⟨rfl,w3⟩)) λ_ _ h'=>h'.elim)) λ_ _ h'=>h'.elim))
end
noncomputable def eW(X:Cx)(scope:De)(N':List Str)(C:Ah)(s₀:Ae)(H₀:Hp)(ex:List Ah):Cx:=
 { X with env:=Jr scope (lD X.env.cells scope.names []) C X.env,N:=N',s₀:=s₀,H₀:=H₀,outer:=X.stack,ex:=ex,fn:=λ_=>false,pn:=[],xe:=λ_ _=>False }
noncomputable def PTs(X:Cx)(ifs:List As)(t:TT):Prop:=
 ∀(G:List (Ah×Obj)) (s:Ae) (Z:St) (H:Hp) (Q:Bool->Hp->Prop),Inv X G Z H s->t Z H Q ->
  Av (AC X.prog X.w) X.A (forIn ifs true λc r=>if r=true then do let ok<-isTrue c X.env (DD c X.env);pure (CU ok) else pure (CU r)) (TP X G Z Q) X.xe s
theorem aHZ{X:Cx}:PTs X [] (λ_ H Q=>Q true H):=λG s Z H Q I h=>Af ⟨H,I,h⟩
theorem aIa{X:Cx}{c:As}{t:TT}(h:PT X c t):PTs X [c] t:=λG s Z H Q I q=>wpAny_tests_one (h G s Z H Q I q)
structure eD (X:Cx) (scope:De) (k:Nat) (caps:List Nat) (N':List Str):Prop where
 kind:scope.kind=.function
 nocell:∀y∈scope.names,y.2≠.cell
 loc:∀y∈scope.names,y.2=.local->scope.names.lookup y.1=some .local
 free:∀n,(n,Bt)∈scope.names->X.env.kindOf n=some .cell\/X.env.kindOf n=some .free
 len:N'.length=k+caps.length
 cap:∀j i,caps[j]? = some i->∃x,N'[k+j]? = some x/\X.N[i]? = some x/\scope.names.lookup x=some .free/\X.env.kindOf x=some .cell
 ndp:X.N.Nodup
noncomputable def lV(k:Nat)(caps:List Nat)(Z:St):St:=Al k none++caps.map λi=>(Z[i]?).getD none
noncomputable def aFn(k:Nat)(caps:List Nat)(wi:TI)(g:TG)(tt:TT)(te:TE):TE:=λZ H Q=>wi Z H λJ'' H1=>
 ∃W0:Nat->Nat->List V->St->Hp->Prop,(∃m,W0 0 m [] (lV k caps Z) H1)/\∀i m ys Z1 H,W0 i m ys Z1 H ->
  (J''.stop i H/\ys.length<=sizeLine/\∀p,H p=none->Q (.ref p) (upd H p (.lst ys))) \/
  (J''.go i H/\ys.length<sizeLine/\∀x H',J''.yld i H x H'->g x Z1 H' λZ2 H2=>tt Z2 H2 λb H3=>
   if b=true then te Z2 H3 λy H4=>∃m',m'<m/\W0 (i+1) m' (ys++[y]) Z2 H4 else ∃m',m'<m/\W0 (i+1) m' ys Z2 H3)
theorem HOk.track{P:Ay}{w:AJ}{H:Hp}{h:Heap}{a:Ah}{o:HO}(ok:HOk P w H h)(n:H a=none)(new:gF P w (upd H a o) h a o):HOk P w (upd H a o) h:=λb u e=>by by_cases I:b=a;subst I;rw[bD] at e;grind;rw[aO I] at e;exact(ok b u e).stay (λ_ _ _ q=>q) (λc q=>by rw[aO (bS q n)];exact q) λc xs q=>by rw[aO (bS q n)];exact q
abbrev fM(its:List Ac)(n:Nat):Obj:={ cls:=.type "list",data:=.seq its.toArray n }
section
variable {X:Cx} {scope:De} {k:Nat} {caps:List Nat} {N':List Str} {G:List (Ah×Obj)} {Z:St} {H:Hp} {s:Ae} {fp:List Ah}
theorem Inv.cellLt(I:Inv X G Z H s){x:Str}{c:Ah}(e:X.env.cells.lookup x=some c):c<s.heap.objs.size:=by obtain⟨v,q⟩:=I.cell x c e;exact q.lt
theorem gW:∀{l:List (Str×Cc)} {x:Str} {k:Cc},l.lookup x=some k->(x,k)∈l:=λh=>BA h
theorem relabel_lookup{env:Iw}:∀{names:List (Str×Cc)} {x:Str} {k:Cc},
 (names.map λ(n,k)=>if (k==Bt&&env.scope.kind==.function&&env.kindOf n==some .cell) then (n,NameKind.cell) else (n,k)).lookup x=some k ->
 (k=.cell/\names.lookup x=some .free/\env.kindOf x=some .cell)\/names.lookup x=some k
 | [],_,_,h=>by simp at h|(n,k')::r,x,k,h=>by have q:=@relabel_lookup env r x k;rw[mC] at h;grind
theorem aQa(W:eD X scope k caps N')(I:Inv X G Z H s)(f:∀b∈fp,mJ X G H b)(hf:∀b∈fp,b<s.heap.objs.size) :
 (eW X scope N' (s.heap.objs.size+1) { s with heap:=s.heap.push (fM [] 0) } H (s.heap.objs.size::fp)).Ok:=by
 have q0:∀b∈frs X.stack,∃o,s.heap.get? b=some o:=λb U=>by obtain⟨_,o,ho,_⟩:=I.stack.mem U;grind
 refine⟨I.ok.mod,?_,I.ok.glob,I.ok.blt,?_,λx y c h1 h2=>?_,λx hx=>?_,λx c h _=>?_,I.ok.hd,I.ok.frames,.inl rfl,λb U=>?_,λb o e=>?_,?_,λb o e U=>?_,λb U=>?_,?_,I.stkFree⟩;exact W.kind;show(s.heap.push (fM [] 0)).objs.size<=s.heap.objs.size+1;rw[Bo];grind;exact I.ok.inj x y c (dF (λn hn=>I.ok.has n (W.free n hn)) h1) (dF (λn hn=>I.ok.has n (W.free n hn)) h2);have fr:(x,Bt)∈scope.names:=by rcases hx with q|q;rcases relabel_lookup q with⟨_,z,_⟩|z;exact gW z;exact absurd rfl (W.nocell _ (gW z));rcases relabel_lookup q with⟨z,_⟩|z;cases z;exact gW z
 obtain⟨c,e⟩:=fT (mQ fr);exact⟨c,e⟩;cases(h);refine⟨?_,λx c e=>?_⟩;show b≠s.heap.objs.size+1;rcases AA.mp U with z|z;rw[z];grind;grind;have e':=dF (λn hn=>I.ok.has n (W.free n hn)) e;rcases AA.mp U with z|z;rw[z];exact A8 (I.cellLt e');exact(f b z).2.2.2.2.1 x c e';exact⟨(λb o e=>Ab _ e) b o (I.bs b o e).1,(I.bs b o e).2⟩;show X.base.objs.size<=(s.heap.push (fM [] 0)).objs.size;rw[Bo];exact GB (AL I.ok.bsz I.sz);have lt:=An e;rcases AA.mp U with z|z;subst z;exact absurd (A6 lt (AL I.ok.bsz I.sz)) (B1 _);rcases(f b z).2.2.2.1 with q|q;exact I.ok.noex b o e q;exact absurd (A6 lt (AL I.ok.bsz q)) (B1 _);show b∉frs X.stack;intro hs;rcases AA.mp U with z|z;subst z;obtain⟨o,e⟩:=q0 _ hs;exact absurd (An e) (B1 _);rcases AA.mp (I.stkSub b hs) with q|q;exact(f b z).2.1 q;exact(f b z).2.2.1 q;exact I.stack.of_keeps λb o e _=>⟨o,(λb o e=>Ab _ e) b o e,rfl⟩
theorem aFo(I:eD X scope k caps N'){j:Nat}{v:V}(h:(lV k caps Z)[j]? = some (some v)):∃q i,j=k+q/\caps[q]? = some i/\Z[i]? = some (some v):=by unfold lV at h;grind
theorem aNr(CS:eD X scope k caps N')(I:Inv X G Z H s)(f:∀b∈fp,mJ X G H b)(hf:∀b∈fp,b<s.heap.objs.size){U:Heap}{tk:Nat}
 (q3:U.Ns (s.heap.objs.size+1) λ_=>none) (hk:∀b o,(s.heap.push (fM [] 0)).get? b=some o->U.get? b=some o) :
 Inv (eW X scope N' (s.heap.objs.size+1) { s with heap:=s.heap.push (fM [] 0) } H (s.heap.objs.size::fp)) [] (lV k caps Z) H { s with heap:=U,toks:=tk }:=by
 have W:∀{c:Ah} {v:Option Ac},s.heap.IsCell c v->U.IsCell c v:=λ{c v} ⟨o,e,d⟩=>⟨o,(λb o e=>hk b o (Ab _ e)) _ _ e,d⟩
 refine⟨aQa CS I f hf,rfl,I.bare,Un.kept hk,⟨_,q3,λj x v e1 e2 e3=>?_⟩,λx c e=>?_,?_,λx c e=>?_,λp hp=>absurd (show p∈([]:List (Ah×Obj)) from hp) (by simp),I.hok.kept (λb o e=>hk b o (Ab _ e)),?_⟩;obtain⟨j',i,ej,ec,es⟩:=aFo CS e2;obtain⟨y,h1,h2,h3,h4⟩:=CS.cap j' i ec;have q0:N'[j]? = some x:=e1;rw[ej,h1] at q0;have ey:=AF q0;subst ey;obtain⟨m,hn,hl⟩:=I.loc;obtain⟨u,ru,lk⟩:=hl i y v h2 es (.inr (.inl h4));rcases lk with⟨k1,_⟩|⟨_,c,q2,hc⟩
 rw[h4] at k1;cases k1;refine⟨u,ru,.inr ⟨?_,c,?_,W hc⟩⟩;have q1:=e3;rcases q1 with z|z|z;rcases relabel_lookup z with⟨z,_⟩|z;cases z;grind;exact .inl z;exact .inr z;obtain⟨c',e⟩:=fT (mQ (gW h3));have e':=dF (λn hn=>I.ok.has n (CS.free n hn)) e;rw[q2] at e';cases e';exact e;obtain⟨v,q⟩:=I.cell x c (dF (λn hn=>I.ok.has n (CS.free n hn)) e);exact⟨v,W q⟩;exact I.hok.fresh (DB _);exact I.freeC x c (dF (λn hn=>I.ok.has n (CS.free n hn)) e);show(lV k caps Z).length=N'.length;unfold lV;rw[lA,AQ,lM,CS.len]
theorem yW{tg q3 elt:As}{w5:List As}{pos:CB}{g:TG}{tt:TT}{te:TE}{it:Ah}{tn:Nat->Heap->Prop}{J'':It}{RR:Ac->Ah->F9->Ae->Prop}{E:Ac->Ae->Prop}{Q:VK}
 (CS:eD X scope k caps N') (hc:X.calm=true) (I:Inv X G Z H s) (T:vL X.prog X.w X.K tg J'' fp it tn) (st:tn 0 s.heap) (f:∀b∈fp,mJ X G H b)
 (x6:∀C s₀ H₀ ex,PG (eW X scope N' C s₀ H₀ ex) tg g/\PTs (eW X scope N' C s₀ H₀ ex) w5 tt/\PE (eW X scope N' C s₀ H₀ ex) elt te)
 (hw:∃W0:Nat->Nat->List V->St->Hp->Prop,(∃m,W0 0 m [] (lV k caps Z) H)/\∀i m ys Z1 H,W0 i m ys Z1 H ->
  (J''.stop i H/\ys.length<=sizeLine/\∀p,H p=none->Q (.ref p) (upd H p (.lst ys))) \/
  (J''.go i H/\ys.length<sizeLine/\∀x H',J''.yld i H x H'->g x Z1 H' λZ2 H2=>tt Z2 H2 λb H3=>
   if b=true then te Z2 H3 λy H4=>∃m',m'<m/\W0 (i+1) m' (ys++[y]) Z2 H4 else ∃m',m'<m/\W0 (i+1) m' ys Z2 H3))
 (hR:∀D C s' H' m,Inv X G Z H' s'->s'.heap.Ns C m->s.heap.objs.size<C->(∀(Z':St) (q5:Ae) (h':Heap),Inv X G Z' H' q5->C6 C q5.heap h'->Inv X G Z' H' { q5 with heap:=h' })->Q (.ref D) H'->RR (.ref D) C (.ok .next) s') :
 Av (AC X.prog X.w) X.A (newList []) (λz4 z9=>Av (AC X.prog X.w) X.A (newFunctionEnv scope X.env.globals (lD X.env.cells scope.names []) [] X.env.qual none .none (some X.env)) (λw9 x0=>
  D4 (AC X.prog X.w) X.A (.compStart (.ListComp elt [⟨tg,q3,w5,0⟩] scope pos) 0 (.ref it) z4 { w9 with scope:=Ja scope X.env }) (RR z4 w9.locals) x0) E z9) E s:=by
 obtain⟨W0,⟨m0,w0⟩,x1⟩:=hw;have hf:∀b∈fp,b<s.heap.objs.size:=λb W=>by obtain⟨o,e,_⟩:=T.obj 0 _ st b W;exact An e
 refine Bn (wpAny_newFunctionEnv CS.nocell (by grind) (λq1 q9 w4=>?_) CS.kind);have hsz:(s.heap.push (fM [] 0)).objs.size=s.heap.objs.size+1:=Bo _ _;have x8:q1.Ns (s.heap.objs.size+1) λ_=>none:=by have:=q9;rw[show({ s with heap:=s.heap.push (fM [] 0) }:Ae).heap.objs.size=s.heap.objs.size+1 from hsz] at this;exact this
 have hk:∀b o,(s.heap.push (fM [] 0)).get? b=some o->q1.get? b=some o:=λb o e=>w4.extBut b o (A8 (by have:=An e;rw[hsz] at this;grind)) (Ab _ e);have z8:∀b∈frs X.stack,b<s.heap.objs.size:=λb W=>by obtain⟨_,o,ho,_⟩:=I.stack.mem W;exact An ho
 have z0:∀(pl:List (Ah×Obj)),(∀p∈pl,p.1=s.heap.objs.size)->∀{H':Hp},(∀b∈fp,H' b=none)->∀b∈fp,mJ (eW X scope N' (s.heap.objs.size+1) { s with heap:=s.heap.push (fM [] 0) } H (s.heap.objs.size::fp)) pl H' b:=by
  intro pl v0 H' hn b W;refine⟨hn b W,(λ{b} W=>A8 (Cf W)) (hf b W),λz=>?_,.inl (Au _ W),λx c e=>(f b W).2.2.2.2.1 x c (dF (λn hn=>I.ok.has n (CS.free n hn)) e),λp hp z=>?_⟩;rcases AA.mp (I.stkSub b z) with q|q;exact(f b W).2.1 q;exact(f b W).2.2.1 q;have x9:p∈pl:=by simpa[eW] using hp
  rw[v0 p x9] at z;grind
 have q4:∀{Z':St} {H':Hp} {s':Ae} {U:List Ac} {n:Nat} {pl:List (Ah×Obj)},Inv (eW X scope N' (s.heap.objs.size+1) { s with heap:=s.heap.push (fM [] 0) } H (s.heap.objs.size::fp)) pl Z' H' s' ->
  s'.heap.get? s.heap.objs.size=some (fM U n)->H' s.heap.objs.size=none->Inv (eW X scope N' (s.heap.objs.size+1) { s with heap:=s.heap.push (fM [] 0) } H (s.heap.objs.size::fp)) [(s.heap.objs.size,fM U n)] Z' H' s':=by
  intro Z' H' s' U n pl J'' e nn;refine J''.pins_of λp hp=>?_;have:p=(s.heap.objs.size,fM U n):=by simpa using hp
  subst this;refine⟨e,nn,A8 (CH _),λz=>absurd (z8 _ z) (B1 _),λv z=>by cases z⟩
 have start:D4 (AC X.prog X.w) X.A (.compLoop (.ListComp elt [⟨tg,q3,w5,0⟩] scope pos) 0 (.ref it) (.ref s.heap.objs.size) (Jr scope (lD X.env.cells scope.names []) (s.heap.objs.size+1) X.env))
  (RR (.ref s.heap.objs.size) (s.heap.objs.size+1)) { s with heap:=q1,toks:=s.toks+([]:List (Str×Ac)).length }:=by
  refine jN (λn s'=>∃i ys U q0 Z1 H',Inv (eW X scope N' (s.heap.objs.size+1) { s with heap:=s.heap.push (fM [] 0) } H (s.heap.objs.size::fp)) [(s.heap.objs.size,fM U q0)] Z1 H' s' /\
   tn i s'.heap/\(∀b∈fp,H' b=none)/\bC ys U/\W0 i n ys Z1 H') ?_ m0 ⟨0,[],[],0,_,H,q4 (aNr CS I f hf x8 hk) (hk _ _ (Aj _ rfl)) I.fresh,T.keep _ _ _ st λb _ o e=>hk b o (Ab _ e),λb W=>(f b W).1,.nil,w0⟩
  rintro n s3 ⟨i,ys,U,q0,Z1,H3,I3,z7,z5,w6,w3⟩;obtain⟨v4,v5,_⟩:=I3.pin (s.heap.objs.size,fM U q0) (by simp[eW]);have z1:∀p∈[(s.heap.objs.size,fM U q0)],p.1=s.heap.objs.size:=λp hp=>by grind
  rcases x1 i n ys Z1 H3 w3 with⟨stop,hz,qn⟩|⟨go,hz,step⟩
  refine thn (T.done (eW X scope N' (s.heap.objs.size+1) { s with heap:=s.heap.push (fM [] 0) } H (s.heap.objs.size::fp)) rfl rfl rfl hc i _ s3 _ H3 _ I3 (z0 _ z1 z5) z7 stop) λr s4 ⟨hr,I4⟩=>?_;subst hr;obtain⟨x4,z6,_⟩:=I4.pin (s.heap.objs.size,fM U q0) (by simp[eW]);have u4:=I4.base;have nb:∀{b:Ah} {o:Obj},s.heap.get? b=some o->b∉fp->b∉s.heap.objs.size::fp:=λ{b o} e W z=>by rcases AA.mp z with z|z;exact absurd (An e) (by rw[z];grind);exact W z
  have v3:∀{b:Ah} {o:Obj},s.heap.get? b=some o->b≠s.heap.objs.size:=λ{b o} e=>A8 (An e);have z3:∀{b:Ah} {o:HO},H b=some o->b≠s.heap.objs.size:=λ{b o} e=>bS e I.fresh;have u:Un (frs X.stack) fp H (upd H3 s.heap.objs.size (.lst ys)) s.heap s4.heap:={
   keep:=λb o e nn W hx=>u4.keep b o (Ab _ e) nn W (nb e hx)
   slot:=λb o e nn W hx=>u4.slot b o (Ab _ e) nn W (nb e hx)
   free:=λb o e nn hx=>by rw[aO (v3 e)];exact u4.free b o (Ab _ e) nn (nb e hx)
   there:=λb o e hx=>u4.there b o (Ab _ e) (nb e hx)
   tups:=λb xs e=>by rw[aO (z3 e)];exact u4.tups b xs e
   frzs:=λb o u e=>by rw[aO (z3 e)];exact u4.frzs b o u e
   tbls:=λb ps e=>by rw[aO (z3 e)];exact u4.tbls b ps e }
  obtain⟨m4,x7,_⟩:=I4.loc;refine hR s.heap.objs.size (s.heap.objs.size+1) s4 _ m4 (I.call' I4.os u (HOk.track I4.hok z6 ⟨hz,U,q0,w6,x4⟩) I4.bare λb W=>⟨(f b W).2.2.2.1,(f b W).2.1,(f b W).2.2.2.2.1,(f b W).2.2.2.2.2⟩) x7 (CH _) (λZ' q5 h' I6 v1=>?_) (qn _ z6);have:=I6.turned (t':=q5.toks) (λb o W e=>v1.extBut b o W e) (by rw[aO (BY (CH _))];exact I4.free)
   (BY (Cf I.lt)) (.inr (GB I.sz)) (λx c e=>A8 (Cf (I.cellLt e))) λp hp z=>?_
  exact this;have:=An (I.pin p hp).1;rw[z] at this;grind;refine thn (T.item (eW X scope N' (s.heap.objs.size+1) { s with heap:=s.heap.push (fM [] 0) } H (s.heap.objs.size::fp)) rfl rfl rfl hc i _ s3 _ H3 _ I3 (z0 _ z1 z5) z7 go) λr s4 ⟨u,hr,h4⟩=>?_;subst hr;refine thn h4 λ_ s5 ⟨x,H5,I5,r5,y5,z2,x3⟩=>?_;obtain⟨hg,ht,he⟩:=x6 (s.heap.objs.size+1) { s with heap:=s.heap.push (fM [] 0) } H (s.heap.objs.size::fp);have keep:∀{Z7:St} {H7:Hp} {s7:Ae},Inv (eW X scope N' (s.heap.objs.size+1) { s with heap:=s.heap.push (fM [] 0) } H (s.heap.objs.size::fp)) ([(s.heap.objs.size,fM U q0)]++qN fp s5.heap) Z7 H7 s7 ->
   tn (i+1) s7.heap/\(∀b∈fp,H7 b=none)/\s7.heap.get? s.heap.objs.size=some (fM U q0)/\H7 s.heap.objs.size=none:=by intro Z7 H7 s7 I7;obtain⟨x5,v2,_⟩:=I7.pin (s.heap.objs.size,fM U q0) (by simp[eW]);refine⟨T.keep _ _ _ z2 λb W o e=>(I7.pin (b,o) (A4 _ (A4 _ (iV W e)))).1,λb W=>?_,x5,v2⟩;obtain⟨o,e,d⟩:=T.obj _ _ z2 b W;exact(I7.pin (b,o) (A4 _ (A4 _ (iV W e)))).2.1
  refine thn (hg _ s5 _ H5 x u _ (I5.pinned (z0 _ z1 x3) (T.obj _ _ z2)) r5 (step x H5 y5)) λ_ s6 ⟨Z6,H6,I6,q6⟩=>?_;refine thn (ht _ s6 Z6 H6 _ I6 q6) λb s7 ⟨H7,I7,q7⟩=>?_;cases b with
  | false=>rw[if_neg bN] at q7 ⊢;obtain⟨m',hm,w7⟩:=q7;obtain⟨t7,f7,d7,n7⟩:=keep I7;exact⟨m',hm,i+1,ys,U,q0,Z6,H7,q4 I7 d7 n7,t7,f7,w6,w7⟩|true=>
   rw[if_pos rfl] at q7 ⊢;refine thn (he _ s7 Z6 H7 _ I7 q7) λyv s8 ⟨y,H8,I8,r8,q8⟩=>?_;obtain⟨m',hm,w8⟩:=q8;obtain⟨t8,f8,d8,n8⟩:=keep I8;have hl:=w6.length;refine Ex Gm ⟨_,d8,rfl⟩ FV (FC _ _) (G7 s.heap.objs.size U.toArray q0 yv (by rw[Ak];omega)) ⟨d8,?_⟩;have q:=GR d8 (λa=>a.push yv);have e':U.toArray.push yv=(U++[yv]).toArray:=by simp
   rw[e'] at q;have x2:=((I8.unpinned).pins_of (pins':=[]) (λp hp=>absurd hp (by simp))).turned (t':=s8.toks) (h':=s8.heap.update s.heap.objs.size (D8 λa=>a.push yv)) (λb o W e=>(CN s8.heap _ (Dc W)).trans e) n8
    (A8 (CH _)) (.inl A3) (λx c e=>A8 (I.cellLt (dF (λn hn=>I.ok.has n (CS.free n hn)) e))) (λp hp=>absurd (show p∈([]:List (Ah×Obj)) from by simpa[eW] using hp) (by simp))
   refine⟨m',hm,i+1,ys++[y],U++[yv],_,Z6,H8,q4 x2 q n8,?_,f8,w6.append (.cons r8 .nil),w8⟩;refine T.keep _ _ _ t8 λb W o e=>(CN s8.heap _ ?_).trans e;grind
 have q2:∀C,C=s.heap.objs.size+1->D4 (AC X.prog X.w) X.A (.compLoop (.ListComp elt [⟨tg,q3,w5,0⟩] scope pos) 0 (.ref it) (.ref s.heap.objs.size) (Jr scope (lD X.env.cells scope.names []) C X.env))
  (RR (.ref s.heap.objs.size) C) { s with heap:=q1,toks:=s.toks+([]:List (Str×Ac)).length }:=by rintro C rfl;exact start
 exact codeAny_compStart_list (q2 _ hsz) (T.self X.A 0 _ _ _ (T.keep _ _ _ st λb _ o e=>hk b o (Ab _ e)) (q2 _ hsz))
end
section
variable {X:Cx} {scope:De} {k:Nat} {caps:List Nat} {N':List Str} {tg iter elt:As} {ifs:List As} {pos:CB} {wi:TI} {g:TG} {tt:TT} {te:TE}
theorem aBW(W:eD X scope k caps N')(hc:X.calm=true)(hi:PI X tg iter wi)
 (q0:∀C s₀ H₀ ex,PG (eW X scope N' C s₀ H₀ ex) tg g/\PTs (eW X scope N' C s₀ H₀ ex) ifs tt/\PE (eW X scope N' C s₀ H₀ ex) elt te) (hs:∀x,Cd iter X.env x=pure x) :
 PE X (.ListComp elt [⟨tg,iter,ifs,0⟩] scope pos) (aFn k caps wi g tt te):=by intro G s Z H Q I h;rw[eval_ListComp];refine EH rfl hs (jG λn hn=>I.ok.has n (W.free n hn)) W.kind W.loc (thn (hi G s Z H _ I h) λxv s1 h1=>thn h1 λq3 s2 h2=>?_);obtain⟨it,fp,tn,J'',H2,e,I2,T,q2,f2,hw⟩:=h2;subst e;exact yW W hc I2 T q2 f2 q0 hw λD C s' H' m J'' hn _ U q=>⟨m,hn,λh' q1=>⟨.ref D,H',U Z s' h' J'' q1,rfl,q⟩⟩
theorem aAM{i:Nat}{x:Str}{U W:CB}(CS:eD X scope k caps N')(hc:X.calm=true)(hi:PI X tg iter wi)
 (q1:∀C s₀ H₀ ex,PG (eW X scope N' C s₀ H₀ ex) tg g/\PTs (eW X scope N' C s₀ H₀ ex) ifs tt/\PE (eW X scope N' C s₀ H₀ ex) elt te) (hs:∀x,Cd iter X.env x=pure x)
 (hN:X.N.Nodup) (q2:X.N[i]? = some x) (hx:Loc X.env.scope x) (hf:X.fn x=true\/X.env.scope.names.lookup x=some .local) :
 PS X (.Assign [.Name x U] (.ListComp elt [⟨tg,iter,ifs,0⟩] scope pos) W) (aJZ (aFn k caps wi g tt te) (yE i)):=by
 have hb:∃b,IM (.ListComp elt [⟨tg,iter,ifs,0⟩] scope pos) (some (.Name x U)) W.line X.env=pure b:=⟨_,rfl⟩
 obtain⟨b,hb⟩:=hb;cases b with
 | false=>exact qM hN q2 hx (aBW CS hc hi q1 hs) hb hf|true=>intro G s Z H D I h;rw[exec_Assign_Name_used x U _ W hb];refine Aa (EF (Aa ?_));refine Aa (EH rfl hs (jG λn hn=>I.ok.has n (CS.free n hn)) CS.kind CS.loc (thn (hi G s Z H _ I h) λxv s1 h1=>thn h1 λq7 s2 h2=>?_));obtain⟨it,fp,tn,J'',H2,e,I2,T,q6,f2,hw⟩:=h2;subst e;refine yW (Q:=λv H'=>D.nx (Z.set i (some v)) H') CS hc I2 T q6 f2 q1 hw λD' C s' H' m J'' hn lt q0 q=>?_;refine G3 (tV (v:=V.ref D') J'' hN q2 hx rfl (λq5 J' q4=>?_) hf);obtain⟨a,sb,ha⟩:=q4;refine⟨m,hn.sameBut sb ?_,λh' q3=>?_⟩;rcases ha with z|z;rw[z];exact BY (GA I2.lt lt);exact BY (GA (I2.cellLt z) lt);exact Af (Af ⟨_,H',q0 _ q5 h' J' q3,q⟩)
end
end L2
namespace Hp
open PySem PySem.Spec PyProof.Rows L2
noncomputable def Two(K:Fg)(J:Ah->Prop)(H':Hp)(d:D)(u:V):Prop:=∃a b c xs ys as bs,u=.ref a/\d=.tup [.lst as,.lst bs]/\¬ J b/\¬ J c/\b≠c/\SqT K H' a [.ref b,.ref c]/\H' b=some (.lst xs)/\H' c=some (.lst ys)/\(noLs as=true/\noLs bs=true)/\Reps K H' (λ_=>False) as xs/\Reps K H' (λ_=>False) bs ys
noncomputable def Rr(K:Fg)(H H':Hp)(Y:Ah->Prop)(r:Rt)(u:V):Prop:=
 if r.2.1=true then (∃a xs ds,u=.ref a/\r.1=.lst ds/\H a=none/\H' a=some (.lst xs)/\Reps K H' (λb=>b=a\/Y b\/(r.2.2=false/\H b≠none)) ds xs)\/Two K (λb=>H b≠none) H' r.1 u
 else Rep K H' (λb=>Y b\/(r.2.2=false/\H b≠none)) r.1 u
noncomputable def spF(K:Fg)(P:Pg)(n:Nat)(f:Nat):Sp:=λvs H Q _=>∃(ds:List D) (Y:Ah->Prop),(∀a,Y a->H a≠none)/\Reps K H Y ds vs/\RE (call P n f ds) λr=>∀u H',Tk K H'->aQ H H'->Rr K H H' Y r u->Q u H'
noncomputable def bltNames:List Str:=["len", "list", "tuple", "min", "max", "abs", "int", "str", "sum", "all", "any", "sorted", "bool", "range", "zip", "enumerate", "reversed", "set", "isinstance", "dict", "repr"]
structure Md (X:Cx) (P:Pg) (Γ:Ct) (n:Nat):Prop where
 fn:∀(f:Nat) (x:Str),Γ.fns[f]? = some x->∃fa fd ps,X.mg x=some (.ref fa)/\Dg X.K (.ref fa)=true/\lG X.K fd ps []/\pL X.prog X.w X.K X.mg X.base CX0 n fa fd ps (spF X.K P n f)
 blt:∀x∈bltNames,X.mg x=none
 cns:∀(x:Str) (d:D),Γ.cns.lookup x=some d->∃u v,X.mg x=some u/\bZ v u/\∀H ex,Rep X.K H ex d v
 tab:∀(i:Nat) (x:Str),Γ.tbs[i]? = some x->∃a t,X.mg x=some (.ref a)/\P.tabs[i]? = some t/\uD X.prog X.w X.K a t
structure Mc (X:Cx) (P:Pg) (Γ:Ct) (n:Nat):Prop where
 md:Md X P Γ n
 N:X.N=Γ.N
 nd:X.N.Nodup
 sc:X.env.scope.names=Γ.sc
 calm:X.calm=true
 room:lP n X.A
 xe:X.xe=λ_ _=>False
 st:∀x:Str,yS Γ x=true->X.fn x=true\/X.env.scope.names.lookup x=some .local
 fk:X.env.scope.kind=.function
section
variable {X:Cx} {P:Pg} {Γ:Ct} {n:Nat}
theorem Mc.units(M:Mc X P Γ n):X.A.units+200<Cv:=by have:=M.room.un;omega
theorem Mc.vis(M:Mc X P Γ n){x:Str}(h:aFf Γ x=true):Vis X.env.scope x:=by
 unfold aFf at h;unfold Vis;rw[M.sc];cases q:Γ.sc.lookup x with
 | none=>rw[q] at h;cases h|some k=>rw[q] at h;cases k <;> first|exact .inl rfl|exact .inr (.inl rfl)|exact .inr (.inr rfl)|cases h
theorem Mc.loc(M:Mc X P Γ n){x:Str}(h:yS Γ x=true):L2.Loc X.env.scope x:=by
 unfold yS at h;unfold L2.Loc;rw[M.sc];cases q:Γ.sc.lookup x with
 | none=>rw[q] at h;cases h|some k=>rw[q] at h;cases k <;> first|exact .inl rfl|exact .inr rfl|cases h
theorem Mc.gl(M:Mc X P Γ n){x:Str}(h:dN Γ x=true):Gl X x:=by
 unfold dN at h;unfold Gl;show X.env.scope.names.lookup x=_;rw[M.sc];cases q:Γ.sc.lookup x with
 | none=>rw[q] at h;cases h|some k=>rw[q] at h;cases k <;> first|rfl|cases h
theorem bH{x:Str}(h:dO x=true):(x==("__debug__" : Str))=false:=by unfold dO at h;grind
theorem gC{x:Str}(h:dO x=true):(x==("__classdict__" : Str))=false:=by unfold dO at h;grind
theorem aKE:∀{d q:D},eqK d q=true->d=q:=by intro d q h;cases d <;> cases q <;> simp[eqK] at h <;> first|rfl|(subst h;rfl)
noncomputable def aX:As->Bool
 | .Starred _ _=>false|.Slice _ _ _ _=>false|.Set _ _ _=>false|_=>true
theorem aBX{α:Type}{o:Option α}{f:α->Bool}(h:oB o f=true):∃a,o=some a/\f a=true:=by
 cases o with
 | none=>cases h|some a=>exact⟨a,rfl,h⟩
theorem aG{α:Type}{q:α->Prop}{o:Option { a:α // q a }}{f:α->Bool}(h:oS o f=true):∃a,q a/\f a=true:=by
 cases o with
 | none=>cases h|some a=>exact⟨a.1,a.2,h⟩
theorem aP{c:E}{e:As}(h:aW Γ c e=true):aX e=true:=by
 cases c with
 | c d=>rcases(BG _ _).mp (h) with h|h;obtain⟨_,⟨_,_,rfl⟩,_⟩:=aG h;rfl;obtain⟨_,⟨_,rfl⟩,_⟩:=aG h;rfl
 | v i=>obtain⟨_,⟨_,rfl⟩,_⟩:=aG h;rfl|op o a b=>obtain⟨_,⟨_,rfl⟩,_⟩:=aG h;rfl|neg a=>obtain⟨_,⟨_,rfl⟩,_⟩:=aG h;rfl|nt a=>obtain⟨_,⟨_,rfl⟩,_⟩:=aG h;rfl|an a b=>obtain⟨_,rfl,_⟩:=aG h;rfl|orr a b=>obtain⟨_,rfl,_⟩:=aG h;rfl|ife t a b=>obtain⟨_,⟨_,rfl⟩,_⟩:=aG h;rfl|cmp o a b=>obtain⟨_,⟨_,rfl⟩,_⟩:=aG h;rfl|dnin a j=>obtain⟨_,⟨_,rfl⟩,_⟩:=aG h;rfl|row i a=>obtain⟨_,⟨_,rfl⟩,_⟩:=aG h;rfl|hid i a=>have h:=(bA _ _).mp h;cases e <;> first|rfl|exact absurd h.1 bN
 | sset a=>obtain⟨_,⟨_,_,rfl⟩,_⟩:=aG h;rfl|cmp2 q I a b c=>obtain⟨_,⟨_,rfl⟩,_⟩:=aG h;rfl|idx a b=>obtain⟨_,⟨_,rfl⟩,_⟩:=aG h;rfl|sli a lo hi=>obtain⟨_,⟨_,rfl⟩,_⟩:=aG h;rfl|tup es=>obtain⟨_,⟨_,_,rfl⟩,_⟩:=aG h;rfl|lst es=>obtain⟨_,⟨_,rfl⟩,_⟩:=aG h;rfl|call f es=>obtain⟨_,⟨_,_,rfl⟩,_⟩:=aG h;rfl|bi b es=>obtain⟨_,⟨_,_,rfl⟩,_⟩:=aG h;rfl|isi a cs=>obtain⟨_,⟨_,_,rfl⟩,_⟩:=aG h;rfl|comp k caps t it cond elt=>obtain⟨_,⟨_,rfl⟩,_⟩:=aG h;rfl|numset a=>obtain⟨_,⟨_,_,rfl⟩,_⟩:=aG h;rfl|tget i a=>obtain⟨_,⟨_,_,rfl,_⟩,_⟩:=aG h;rfl
theorem aB{e:As}{es:List As}{env:Iw}(h:aX e=true):Bq (e::es) env=(false,DD e env)::Bq es env:=by cases e <;> first|rfl|cases h
theorem gX:∀{cs:Es} {es:List As},chkEs Γ cs es=true->es.all aX=true
 | .nil,[],_=>rfl|.nil,_::_,h=>by cases h|.cons _ _,[],h=>by cases h|.cons c cs,e::es,h=>by simp only[chkEs,bA] at h;rw[EG,aP h.1,gX h.2];rfl
theorem gJ{pos:CB}{env:Iw}:∀{es:List As},es.all aX=true->(F8 pos (Bq es env)).any (·.1)=false
 | [],_=>rfl|e::es,h=>by rw[EG,bA] at h;rw[aB h.1];show(false||(F8 pos (Bq es env)).any (·.1))=false;rw[gJ h.2];rfl
theorem iY{e:As}(h:aX e=true):aBK e:=by intro o i;cases e <;> first|rfl|cases h
theorem oD{e:As}{env:Iw}(h:aX e=true):∀x,Cd e env x=pure x:=by intro x;cases e <;> first|rfl|cases h
theorem jO{op:CmpOp}{e:As}(h:aX e=true):FZ op e=false:=by cases e <;> first|rfl|cases h
variable {RT Y J:Ah->Prop} {Z:Sg} {pos:CB}
abbrev WE(X:Cx)(P:Pg)(n:Nat)(RT Y J:Ah->Prop)(Z:Sg)(c:E):TE:=wE X P (call P n) RT Y J Z c
abbrev WT(X:Cx)(P:Pg)(n:Nat)(RT Y J:Ah->Prop)(Z:Sg)(c:E):TT:=wT X P (call P n) RT Y J Z c
abbrev WA(X:Cx)(P:Pg)(n:Nat)(RT Y J:Ah->Prop)(Z:Sg)(c:Es):TA:=wA X P (call P n) RT Y J Z c
theorem RE.bind'{α q:Type}{x:R α}{f:α->R q}{p:q->Prop}(h:RE (x >>= f) p):RE x λa=>RE (f a) p:=by rwa [RE.bind] at h
theorem wE.one{a:E}{ZV:L2.St}{H:Hp}{p:Vl->Prop}{Q:V->Hp->Prop}(S:Sx X.K RT Y J Z ZV H)(h:RE (ev P (call P n) Z a) p)
 (f:∀x u H',p x->Tk X.K H'->Sx X.K RT Y J Z ZV H'->Ro X.K RT Y J Z ZV H H' x u->Q u H'):WE X P n RT Y J Z a ZV H Q:=
 ⟨S,h.mono λx q u H' t r=>f x u H' q t (S.grow r.1 t) r⟩
theorem aQb{o:Operator}{a b:E}{ea eb:As}(ha:PE X ea (WE X P n RT Y J Z a))(hb:PE X eb (WE X P n RT Y J Z b)):PE X (.BinOp ea o eb pos) (WE X P n RT Y J Z (.op o a b)):=by
 intro G s ZV H Q I hw;obtain⟨S,h⟩:=hw;have h:=RE.bind' (h);refine wpAny_BinOp (thn (ha G s ZV H (λux H1=>WE X P n RT Y J Z b ZV H1 λuy q=>∃x y,Sx X.K RT Y J Z ZV q/\aQ H q/\Rv X.K RT Y J Z ZV q x ux/\Rv X.K RT Y J Z ZV q y uy/\(x.fr=true->∃a xs,ux=.ref a/\q a=some (.lst xs))/\RE (opD o x y) (Wn X RT Y J Z ZV H Q)) I
  (wE.one S h λx u H1 hx t1 S1 r1=>wE.one S1 (RE.bind' hx) λy u' q hy t2 W U=>⟨x,y,W,r1.1.trans U.1,(r1.rv S).grow U.1,U.rv S1,λhf=>?_,hy⟩)) λv s1 ⟨x',H1,I1,rx,q1⟩=>thn (hb G s1 ZV H1 _ I1 q1) λu s2 ⟨y',q,I2,ry,q2⟩=>?_)
 have:=r1.2;rw[if_pos hf] at this;obtain⟨a',xs,ds,e1,_,_,e4,_⟩:=this;exact⟨a',xs,e1,U.1 _ _ e4⟩;obtain⟨x,y,W,sm,hx,hy,hf,h⟩:=q2;exact aFi I2 W rx ry hx hy hf (h.mono λv hv u H' t r=>hv u H' t (r.from sm))
theorem aFp{a:E}{I:As}(ha:PE X I (WE X P n RT Y J Z a)):PE X (.UnaryOp .USub I pos) (WE X P n RT Y J Z (.neg a)):=by refine(aMT aKh ha).imp λZV H Q t ⟨S,h⟩=>?_;refine wE.one S (RE.bind' (h)) λx u H1 q t1 S1 U=>?_;split at q;rename_i i W;exact⟨i,(U.rv S).int W,λt'=>q _ _ t' (Ro.cl U.1 rfl)⟩;exact q.elim
theorem aFq{H:Hp}{ZV:L2.St}{x:Vl}{u:V}{k:Bool}(I:Rv X.K RT Y J Z ZV H x u)(h:aFd x.d=some k):aHG X.K u H k:=by unfold aFd at h;split at h;rename_i d;rw[I.non d];exact(AF h).symm;rename_i b d;rw[I.bl d];exact(AF h).symm;rename_i i d;rw[I.int d];exact(AF h).symm;cases h;rename_i ds d;obtain⟨a,xs,e,q,r⟩:=I.tup d;rw[e];refine .inr (.inl ⟨xs,q,?_⟩);rw[<-AF h];have:=r.length;grind;rename_i ds d;obtain⟨a,xs,e,q,_,r⟩:=I.lst d;rw[e];refine .inl ⟨xs,q,?_⟩;rw[<-AF h];have:=r.length;grind
theorem RE.tru{x:Vl}{p:Bool->Prop}(h:RE (jL x) p):∃k,aFd x.d=some k/\p k:=by
 unfold jL at h;cases q:aFd x.d with
 | none=>rw[q] at h;exact h.elim|some k=>rw[q] at h;exact⟨k,rfl,h⟩
theorem aNs{a:E}{W:As}(ha:PE X W (WE X P n RT Y J Z a)):PE X (.UnaryOp .Not W pos) (WE X P n RT Y J Z (.nt a)):=by intro G s ZV H Q I hw;obtain⟨S,h⟩:=hw;refine UnaryOp_ (thn (ha G s ZV H (λu H1=>∃k,aHG X.K u H1 k/\Q (.bl (!k)) H1) I (wE.one S (RE.bind' (h)) λx u H1 hx t1 S1 r1=>?_)) λv s1 ⟨u,H1,I1,ru,k,U,q⟩=>?_);obtain⟨k,U,hp⟩:=RE.tru (RE.bind' hx);exact⟨k,aFq (r1.rv S) U,(hp) _ _ t1 (Ro.cl r1.1 rfl)⟩;refine not_of (thn (aEK G s1 ZV H1 u v (λk' H'=>k'=k/\H'=H1) I1 ru ⟨k,U,rfl,rfl⟩) λb s2 ⟨H2,I2,e1,e2⟩=>?_);subst e1 e2;exact⟨.bl (!b),H2,I2,rfl,q⟩
theorem uG{c:E}{e:As}(U:PE X e (WE X P n RT Y J Z c))(he:∀q,isTrue e X.env q=(do let v<-q;JJ e.pos;Fa [v] (truthy v)))
 (W:∀p,RE (tst P (call P n) Z c) p->RE (ev P (call P n) Z c) λx=>RE (jL x) p):PT X e (WT X P n RT Y J Z c):=by refine(aEL U he).imp λZV H Q t ⟨S,h⟩=>?_;refine wE.one S (W _ h) λx u H1 hx t1 S1 I=>?_;obtain⟨k,hk,hp⟩:=RE.tru hx;exact⟨k,aFq (I.rv S) hk,λt'=>hp _ t' I.1⟩
theorem aNt{a b:E}{W eb:As}{r:List As}(ha:PE X W (WE X P n RT Y J Z a))(hb:PE X (.BoolOp .And (eb::r) pos) (WE X P n RT Y J Z b)):PE X (.BoolOp .And (W::eb::r) pos) (WE X P n RT Y J Z (.an a b)):=by refine(aJU ha hb).imp λZV H Q t ⟨S,h⟩=>?_;refine wE.one S (RE.bind' (h)) λx u H1 q t1 S1 I=>?_;split at q;rename_i U;refine⟨true,(I.rv S).bl U,?_⟩;rw[if_pos rfl];exact⟨S1,q.mono λv hv u H' t r=>λ_=>hv u H' t (r.from I.1)⟩;rename_i U;refine⟨false,(I.rv S).bl U,?_⟩;rw[if_neg bN];exact λt'=>q _ _ t' (Ro.cl I.1 rfl);exact q.elim
theorem aJr{a b:E}{W eb:As}{r:List As}(ha:PE X W (WE X P n RT Y J Z a))(hb:PE X (.BoolOp .Or (eb::r) pos) (WE X P n RT Y J Z b)):PE X (.BoolOp .Or (W::eb::r) pos) (WE X P n RT Y J Z (.orr a b)):=by refine(aMK ha hb).imp λZV H Q t ⟨S,h⟩=>?_;refine wE.one S (RE.bind' (h)) λx u H1 q t1 S1 I=>?_;split at q;rename_i U;refine⟨true,(I.rv S).bl U,?_⟩;rw[if_pos rfl];exact λt'=>q _ _ t' (Ro.cl I.1 rfl);rename_i U;refine⟨false,(I.rv S).bl U,?_⟩;rw[if_neg bN];exact⟨S1,q.mono λv hv u H' t r=>λ_=>hv u H' t (r.from I.1)⟩;exact q.elim
theorem aNu{t a b:E}{et U W:As}(ht:PT X et (WT X P n RT Y J Z t))(ha:PE X U (WE X P n RT Y J Z a))(hb:PE X W (WE X P n RT Y J Z b)):PE X (.IfExp et U W pos) (WE X P n RT Y J Z (.ife t a b)):=by
 refine(aEB ht ha hb).imp λZV H Q t0 ⟨S,h⟩=>?_;refine⟨S,(RE.bind' (h)).mono λk q H1 t1 s1=>?_⟩;cases k with
 | true=>rw[if_pos rfl] at q ⊢;exact⟨S.grow s1 t1,q.mono λv I u H' t r=>λ_=>I u H' t (r.from s1)⟩|false=>rw[if_neg bN] at q ⊢;exact⟨S.grow s1 t1,q.mono λv I u H' t r=>λ_=>I u H' t (r.from s1)⟩
noncomputable def w2(X:Cx)(P:Pg)(n:Nat)(RT Y J:Ah->Prop)(Z:Sg)(ZV:L2.St)(H:Hp)(p:Vl->Vl->Prop)(ux uy:V)(H2:Hp):Prop:=
 ∃x y,Sx X.K RT Y J Z ZV H2/\aQ H H2/\Rv X.K RT Y J Z ZV H2 x ux/\Rv X.K RT Y J Z ZV H2 y uy/\p x y
theorem kK(M:Mc X P Γ n)(o:CmpOp):OpR X (BE o) (λU W H Q=>∃(Z:Sg) (ZV:L2.St) (x y:Vl) (k:Bool),Rv X.K RT Y J Z ZV H x U/\Rv X.K RT Y J Z ZV H y W/\dJ o x.d y.d=some k/\Q (.bl k) H):=by intro G s ZV H U W v u Q I rx ry h;obtain⟨Z',q0,x,y,k,hx,hy,hk,q⟩:=h;exact aDv I M.units rx ry hx hy hk q
theorem aNv(M:Mc X P Γ n){o:CmpOp}{a b:E}{W I:As}(ha:PE X W (WE X P n RT Y J Z a))(hb:PE X I (WE X P n RT Y J Z b))(q:aX I=true):PE X (.Compare W [o] [I] pos) (WE X P n RT Y J Z (.cmp o a b)):=by refine(aBG (kK (RT:=RT) (Y:=Y) (J:=J) M o) ha hb (jO q)).imp λZV H Q t ⟨S,h⟩=>?_;refine wE.two S ((RE.bind' (h)).mono λx U=>RE.bind' U) λx y ux uy H2 q t2 s2 S2 U hy=>?_;split at q;rename_i k hk;exact⟨Z,ZV,x,y,k,U,hy,hk,λt'=>q _ _ t' (Ro.cl s2 rfl)⟩;exact q.elim
theorem bO(M:Mc X P Γ n){o:CmpOp}{a b:E}{W I:As}(ha:PE X W (WE X P n RT Y J Z a))(hb:PE X I (WE X P n RT Y J Z b))(q:aX I=true):PT X (.Compare W [o] [I] pos) (WT X P n RT Y J Z (.cmp o a b)):=by refine(aBH (kK (RT:=RT) (Y:=Y) (J:=J) M o) ha hb (jO q)).imp λZV H Q t ⟨S,h⟩=>?_;refine wE.two S ((RE.bind' (h)).mono λx U=>RE.bind' U) λx y ux uy H2 q t2 s2 S2 U hy=>?_;split at q;rename_i k hk;exact⟨Z,ZV,x,y,k,U,hy,hk,k,rfl,λt'=>q _ t' s2⟩;exact q.elim
theorem aAN{H:Hp}{ex:Ah->Prop}{d:D}{k:NK}{u:V}(h:vY d=some k)(r:Rep X.K H ex d u):∃b,u=.ref b/\dE X.K H k b:=by
 cases d with
 | tup ds=>obtain⟨b,xs,rfl,q,r⟩:=r;obtain⟨bs,rfl,p⟩:=lU (show gR ds=some k from h) r;exact⟨b,rfl,bs,q,p⟩|_=>cases h
theorem aIb{xs:List NE}{ks:List (NK×D)}(h:xs.map pj=ks.map kV):xs.map (·.1)=ks.map (·.1):=by have:=congrArg (Dk (·.1)) h;rw[Aw,Aw] at this;exact this
theorem aBY{a:E}{j:Nat}{ZV:L2.St}{H:Hp}{α:Type}{mk:Bool->α}{p:α->Prop}{Q:V->Hp->Prop}(S:Sx X.K RT Y J Z ZV H)(h:RE (ev P (call P n) Z a >>= λx=>(match Z[j]?,vY x.d with|some (.dct ks),some k=>R.ok (mk (!decide (k∈ks.map (·.1))))|_,_=>.bad)) p)
 (f:∀b H',Tk X.K H'->aQ H H'->p (mk b)->Q (.bl b) H'):tOp (λux uy H Q=>∃a b xs k,ux=.ref b/\uy=.ref a/\H a=some (dR a xs)/\(∀x∈xs,dE X.K H x.1 x.2.1)/\dE X.K H k b/\Q (.bl (!decide (k∈xs.map (·.1)))) H) (WE X P n RT Y J Z a) (aHz j) ZV H Q:=by refine wE.one S (RE.bind' h) λx u H1 q t1 W U=>?_;split at q;rename_i ks k e1 e2;obtain⟨b,rfl,hk⟩:=aAN e2 (U.rv S);obtain⟨I,xs,g1,g2,g3,g4,g5,g6⟩:=W.dx.at' j ks e1;refine⟨.ref I,g1,I,b,xs,k,rfl,rfl,g2,g6,hk,?_⟩;rw[aIb g5];exact f _ H1 t1 U.1 q;exact q.elim
theorem aKF(M:Mc X P Γ n){a:E}{j:Nat}{I:As}{x:Str}{p:CB}(q:bY Γ j x=true)(W:PE X I (WE X P n RT Y J Z a)):PE X (.Compare I [.NotIn] [.Name x p] pos) (WE X P n RT Y J Z (.dnin a j)):=by unfold bY at q;simp only[bA] at q;obtain⟨⟨h1,h2⟩,U⟩:=q;exact(aBG (aJm (by have:=M.units;omega)) W (nT (by rw[M.N];exact eq_of_beq h1) (M.vis h2) (bH U) (gC U)) (jO rfl)).imp λZV H Q t ⟨S,h⟩=>aBY (mk:=λb=>Vl.cl (.bl b)) S h λb H' t s w=>λt'=>w _ _ t' (Ro.cl s rfl)
theorem aKG(M:Mc X P Γ n){a:E}{j:Nat}{I:As}{x:Str}{p:CB}(q:bY Γ j x=true)(W:PE X I (WE X P n RT Y J Z a)):PT X (.Compare I [.NotIn] [.Name x p] pos) (WT X P n RT Y J Z (.dnin a j)):=by unfold bY at q;simp only[bA] at q;obtain⟨⟨h1,h2⟩,U⟩:=q;exact(aBH (aJm (by have:=M.units;omega)) W (nT (by rw[M.N];exact eq_of_beq h1) (M.vis h2) (bH U) (gC U)) (jO rfl)).imp λZV H Q t ⟨S,h⟩=>aBY (mk:=λb=>b) S h λb H' t s w=>⟨b,rfl,λt'=>w _ t' s⟩
theorem aNw(M:Mc X P Γ n){a:E}{j:Nat}{I:As}{x:Str}{p:CB}(U:bY Γ j x=true)(ha:PE X I (WE X P n RT Y J Z a))(hp:aX I=true):PE X (.Subscript (.Name x p) I pos) (WE X P n RT Y J Z (.row j a)):=by
 unfold bY at U;simp only[bA] at U;obtain⟨⟨h1,h2⟩,h3⟩:=U;refine(aBL aAC (nT (by rw[M.N];exact eq_of_beq h1) (M.vis h2) (bH h3) (gC h3)) ha (iY hp)).imp λZV H Q t ⟨S,h⟩=>?_;have h:=RE.bind' (h);obtain⟨kv,ek,h⟩:∃v,ev P (call P n) Z a=.ok v/\RE (match Z[j]?,v.d with|some (.own pa ds),.int k=>(match ixN ds.length k with|some j=>(match ds[j]? with|some d=>R.ok (⟨d,false,pa&&!noL d,[]⟩:Vl)|none=>.bad)|none=>.bad)|_,_=>.bad) (Wn X RT Y J Z ZV H Q):=by
  cases z:ev P (call P n) Z a with
  | ok v=>rw[z] at h;exact⟨v,rfl,h⟩|bad=>rw[z] at h;exact h.elim
 split at h;rename_i pa ds k e1 e2;obtain⟨W,xs,g1,g2,g3,g4,g5⟩:=S.own j pa ds e1;refine⟨.ref W,g1,S,?_⟩;rw[ek];intro uk H2 t2 q;split at h;rename_i m hm;split at h;rename_i d hd;obtain⟨v,hv,rv⟩:=(g5.grow q.1).get hd;refine .inl ⟨W,xs,k,v,rfl,(q.rv S).int e2,SqL.of (q.1 _ _ g2),?_,λt'=>h v H2 t' (Ro.plain q.1 rfl ?_)⟩;unfold atI;rw[<-g5.length,<-oC,hm];exact hv;show Rep _ _ _ d v;cases hn:noL d with
 | true=>exact Rep.free d v hn rv|false=>refine rv.weak λb z=>?_;rcases z with⟨z,_⟩|z;exact .inl z;exact .inr (by simpa using z)
 exact h.elim;exact h.elim;exact h.elim
theorem aNx{a b:E}{W q:As}(ha:PE X W (WE X P n RT Y J Z a))(hb:PE X q (WE X P n RT Y J Z b))(I:aX q=true):PE X (.Subscript W q pos) (WE X P n RT Y J Z (.idx a b)):=by refine(aBL aAC ha hb (iY I)).imp λZV H Q t ⟨S,h⟩=>?_;exact wE.two S ((RE.bind' (h)).mono λx U=>RE.bind' U) λx y ux uy H2 I t2 s2 S2 U hy=>(aDy t2 U hy (I.mono λv hv u H' t r=>hv u H' t (r.from s2)))
theorem uH:PA X [] (WA X P n RT Y J Z .nil):=hZ.imp λZV H Q t ⟨S,h⟩ t'=>h [] H t' (aQ.refl H) rfl
theorem iE{c:E}{cs:Es}{e:As}{es:List As}(W:PE X e (WE X P n RT Y J Z c))(hr:PA X es (WA X P n RT Y J Z cs))(hp:aX e=true):PA X (e::es) (WA X P n RT Y J Z (.cons c cs)):=by refine(eX W hr (aB hp)).imp λZV H Q t ⟨S,h⟩=>?_;exact wE.one S (RE.bind' (h)) λx u H1 hx t1 U q=>⟨U,(RE.bind' hx).mono λvs hv us I t2 s2 r2 t'=>(hv (u::us) I t' (q.1.trans s2) ⟨u,us,rfl,(q.rv S).grow s2,r2⟩)⟩
theorem wG:∀{cs:Es} {es:List As} {vs:List Vl},chkEs Γ cs es=true->evs P (call P n) Z cs=.ok vs->vs.length=es.length
 | .nil,[],vs,_,h=>by cases(h);rfl|.nil,_::_,_,h,_=>by cases h|.cons _ _,[],_,h,_=>by cases h|.cons c cs,e::es,vs,U,h=>by
  simp only[chkEs,bA] at U;have h:(ev P (call P n) Z c >>= λx=>evs P (call P n) Z cs >>= λxs=>R.ok (x::xs))=R.ok vs:=h;cases q:ev P (call P n) Z c with
  | ok x=>
   cases I:evs P (call P n) Z cs with
   | ok xs=>rw[q] at h;rw[I] at h;cases(h);rw[lC,lC,wG U.2 I]|bad=>rw[q] at h;have h:(evs P (call P n) Z cs >>= λxs=>R.ok (x::xs))=R.ok vs:=h;rw[I] at h;cases h
  | bad=>rw[q] at h;cases h
theorem RE.eq{α:Type}{x:R α}{p:α->Prop}(h:RE x p):∃a,x=.ok a/\p a:=by
 cases x with
 | ok a=>exact⟨a,rfl,h⟩|bad=>exact h.elim
theorem aNy{cs:Es}{es:List As}{k:Nat}(I:PA X es (WA X P n RT Y J Z cs))(U:chkEs Γ cs es=true)(hl:es.length<=1000):PE X (.Tuple es k pos) (WE X P n RT Y J Z (.tup cs)):=by refine(aEM I).imp λZV H Q t ⟨S,h⟩=>?_;obtain⟨vs,e,hv⟩:=(RE.bind' (h)).eq;refine⟨S,?_⟩;rw[e];intro us H1 t1 s1 q;exact⟨(by rw[<-q.length,wG U e,Cb];omega),λp W t'=>(hv) _ _ t' ((Ro.tup W rfl rfl q.all).from s1)⟩
theorem aNz{cs:Es}{es:List As}(I:PA X es (WA X P n RT Y J Z cs))(U:chkEs Γ cs es=true)(hl:es.length<=1000):PE X (.List es pos) (WE X P n RT Y J Z (.lst cs)):=by refine(aKj I).imp λZV H Q t ⟨S,h⟩=>?_;obtain⟨vs,e,hv⟩:=(RE.bind' (h)).eq;refine⟨S,?_⟩;rw[e];intro us H1 t1 s1 q;exact⟨(by rw[<-q.length,wG U e,Cb];omega),λp W t'=>(hv) _ _ t' ((Ro.fresh W t' rfl rfl (S.grow s1 t1) q.all).from s1)⟩
theorem aIc(b:Bi):BM (lR b)=some (aJq b):=by cases b <;> kernel_rfl
theorem rD(b:Bi):lR b∈bltNames:=by cases b <;> decide +kernel
theorem uI(b:Bi):lR b ≠ "__name__" := by cases b <;> decide +kernel
theorem aQc(M:Mc X P Γ n){b:Bi}{cs:Es}{x:Str}{p:CB}{e:As}{es:List As}(hx:lR b=x)(hg:dN Γ x=true)(ho:dO x=true)(W:PA X (e::es) (WA X P n RT Y J Z cs))(hp:(e::es).all aX=true) :
 PE X (.Call (.Name x p) (e::es) [] pos) (WE X P n RT Y J Z (.bi b cs)):=by
 subst hx;have q:aX e=true/\es.all aX=true:=by grind
 have body:∀(f:PE X (.Call (.Name (lR b) p) (e::es) [] pos) (tCB (rBi X b) (WA X P n RT Y J Z cs))),PE X (.Call (.Name (lR b) p) (e::es) [] pos) (WE X P n RT Y J Z (.bi b cs)):=λf=>f.imp λZV H Q t ⟨S,h⟩=>by exact⟨S,(RE.bind' (h)).mono λvs I us H1 t1 s1 r1=>(aFm (S.grow s1 t1) r1 (I.mono λv I u H' t r=>I u H' t (r.from s1)))⟩
 refine body ?_;have r:=aHY M.calm M.room.gd M.units b;have U:=aIc b;cases b <;> first
  | exact aEP r (M.gl hg) (M.md.blt _ (rD _)) U W (uI _) (bH ho) (aB q.1) (gJ q.2)
  | exact aDl r (M.gl hg) (M.md.blt _ (rD _)) U W (uI _) (bH ho) (aB q.1) (gJ q.2)
theorem aId{ZV:L2.St}{H H1 H':Hp}{vs:List Vl}{r:Rt}{u:V}(I:Sx X.K RT Y J Z ZV H1)(s1:aQ H H1)(s':aQ H1 H')(h:Rr X.K H1 H' (λb=>H1 b≠none/\exV RT Y J Z ZV (dS vs) (bT vs) b) r u) :
 Ro X.K RT Y J Z ZV H H' (iW vs r) u:=by
 obtain⟨d,fr,pa⟩:=r;have key:∀b,exV RT Y J Z ZV (iW vs (d,fr,pa)).pa (iW vs (d,fr,pa)).al b->(H1 b≠none/\exV RT Y J Z ZV (dS vs) (bT vs) b)\/(pa=false/\H1 b≠none):=by
  intro b z;cases pa with
  | true=>exact .inl ⟨(exV.trk I z),z⟩|false=>exact .inr ⟨rfl,(exV.trk I z)⟩
 have W:(iW vs (d,fr,pa)).fr=(fr&&isL d):=by unfold iW;split <;> rfl
 have U:(iW vs (d,fr,pa)).d=d:=by unfold iW;split <;> rfl
 refine⟨s1.trans s',?_⟩;rw[W];unfold Rr at h;cases fr with
 | true=>
  rw[if_pos rfl] at h;rcases h with⟨a,xs,ds,e1,q,e3,e4,rr⟩|⟨a,b,c,xs,ys,as,bs,rfl,q,nb,nc,hn,ht,hb,hc,⟨n1,n2⟩,r1,r2⟩
  have q:d=.lst ds:=q;subst q;rw[if_pos (show(true&&isL (.lst ds))=true from rfl)];exact⟨a,xs,ds,e1,by rw[U],s1.free e3,e4,rr.weak λb z=>z.elim (λz=>.inl z) λz=>.inr (key b z)⟩;have q:d=_:=q;subst q;rw[if_neg (show ¬ (true&&isL (.tup [.lst as,.lst bs]))=true from bN)];unfold Rv;rw[U];have out:∀b,¬ H1 b≠none->¬ exV RT Y J Z ZV (iW vs (.tup [.lst as,.lst bs],true,pa)).pa (iW vs (.tup [.lst as,.lst bs],true,pa)).al b:=λb n z=>n (exV.trk I z);exact⟨a,_,rfl,ht,_,_,rfl,⟨b,xs,rfl,SqL.of hb,out b nb,Reps.free _ _ n1 r1⟩,_,_,rfl,⟨c,ys,rfl,SqL.of hc,out c nc,Reps.free _ _ n2 r2⟩,rfl⟩
 | false=>rw[if_neg bN] at h;rw[show(false&&isL d)=false from rfl,if_neg bN];unfold Rv;rw[U];exact Rep.weak h key
theorem aFr{f:Nat}{cs:Es}{ZV:L2.St}{H:Hp}{Q:VK}(S:Sx X.K RT Y J Z ZV H)(h:RE (ev P (call P n) Z (.call f cs)) (Wn X RT Y J Z ZV H Q)) :
 WA X P n RT Y J Z cs ZV H λus H1=>spF X.K P n f (us++[]) H1 (λv H'=>Tk X.K H'->Q v H') E0:=by refine⟨S,(RE.bind' (h)).mono λvs I us H1 t1 s1 U=>?_⟩;exact⟨vs.map (·.d),λb=>H1 b≠none/\exV RT Y J Z ZV (dS vs) (bT vs) b,λa z=>z.1,by rw[AO];exact U.all.weak λa z=>z.2,(RE.bind' I).mono λr q u H' t' W rr _=>((q) u H' t' (aId (S.grow s1 t1) s1 W rr))⟩
theorem aKH(M:Mc X P Γ n){f:Nat}{cs:Es}{x:Str}{p:CB}{es:List As}(hf:Γ.fns[f]? = some x)(W:dN Γ x=true)(ho:dO x=true)(ha:PA X es (WA X P n RT Y J Z cs))(hp:es.all aX=true)(hc:chkEs Γ cs es=true) :
 PE X (.Call (.Name x p) es [] pos) (WE X P n RT Y J Z (.call f cs)):=by
 obtain⟨fa,fd,ps,h1,h2,I,U⟩:=M.md.fn f x hf;cases es with
 | cons e es=>
  have q:aX e=true/\es.all aX=true:=by grind
  exact(aBI U M.room (M.gl W) h1 h2 I .nil aEY ha (bH ho) (aB q.1) (gJ q.2)).imp λZV H Q t ⟨S,h⟩=>aFr S h
 | nil=>
  cases cs with
  | cons _ _=>cases hc|nil=>exact(aEO U M.room (M.gl W) h1 h2 I .nil aEY (bH ho)).imp λZV H Q t ⟨S,h⟩=>((aFr S h).2 [] H t (aQ.refl H) rfl)
theorem aKI(M:Mc X P Γ n){i:Nat}{a:E}{m x:Str}{p ap:CB}{I:As}(hm:m=("get" : Str))(hx:Γ.tbs[i]? = some x)(hg:dN Γ x=true)(ho:dO x=true)(hl:(ap.endLine==pos.line)=true)
 (ha:PE X I (WE X P n RT Y J Z a)) (hp:aX I=true):PE X (.Call (.Attribute (.Name x p) m ap) [I] [] pos) (WE X P n RT Y J Z (.tget i a)):=by
 subst hm;obtain⟨b,t,h1,h2,W⟩:=M.md.tab i x hx;refine(aHT W (M.gl hg) h1 (bH ho) ha hl (aB hp)).imp λZV H Q tk ⟨S,h⟩=>?_;refine wE.one S (RE.bind' (h)) λy u H1 q t1 S1 U=>?_;rw[h2] at q;cases hd:y.d with
 | str k=>
  rw[hd] at q;have hu:u=.str k:=by have z:=U.rv S;unfold Rv at z;rw[hd] at z;exact z
  exact⟨k,hu,λv hv t'=>(q) v H1 t' (Ro.val U.1 (hv H1))⟩
 | _=>rw[hd] at q;exact q.elim
theorem aDE(c:Cl):BM (clName c)=some (.type (clName c))/\(clName c:Str)∈bltNames/\(clName c:Str) ≠ "__name__" := by cases c <;> exact⟨by kernel_rfl,by decide +kernel,by decide +kernel⟩
theorem aNA(M:Mc X P Γ n){a:E}{c:Cl}{f x:Str}{pf py:CB}{W:As}(hf:f=("isinstance" : Str))(hg:dN Γ f=true)(hx:(clName c:Str)=x)(q0:dN Γ x=true)(q1:dO x=true)
 (ha:PE X W (WE X P n RT Y J Z a)) (hp:aX W=true):PE X (.Call (.Name f pf) [W,.Name x py] [] pos) (WE X P n RT Y J Z (.isi a [c])):=by subst hf;intro G s ZV H Q I hw;obtain⟨S,h⟩:=hw;subst hx;obtain⟨b1,b2,b3⟩:=aDE c;refine B6 (fE I (M.gl hg) (M.md.blt _ (by decide +kernel)) (show BM "isinstance" = some (.builtin "isinstance") by kernel_rfl) ?_ (by decide +kernel) (by decide +kernel));refine BW ?_ (aB hp) rfl;rw[aB hp];refine CM (thn (ha G s ZV H (λu H1=>∃y k,Rv X.K RT Y J Z ZV H1 y u/\isI [c] P y.d=some k/\Q (.bl k) H1) I (wE.one S (RE.bind' (h)) λy u H1 U t1 S1 r1=>?_)) λv s1 ⟨u,H1,I1,ru,y,k,U,hk,q⟩=>?_);split at U;rename_i k hk;exact⟨y,k,r1.rv S,hk,(U) _ _ t1 (Ro.cl r1.1 rfl)⟩;exact U.elim;show Av _ _ (spliced ((false,DD (.Name (clName c) py) X.env)::F8 pos (Bq [] X.env))) _ _ s1;exact CM (fE I1 (M.gl q0) (M.md.blt _ b2) b1 (DE (aDD P I1 ru U hk q)) b3 (bH q1))
end
section
variable {X:Cx} {P:Pg} {Γ:Ct} {n:Nat} {RT Y J:Ah->Prop} {Z:Sg} {pos:CB}
theorem rE{o o':CmpOp}{I q:As}(U:aX q=true):IN [o,o'] [I,q]=false:=jO U
theorem aKJ(M:Mc X P Γ n){o o':CmpOp}{a b c:E}{ea eb U:As}(ha:PE X ea (WE X P n RT Y J Z a))(hb:PE X eb (WE X P n RT Y J Z b))(hc:PE X U (WE X P n RT Y J Z c))(hq:aX U=true) :
 PE X (.Compare ea [o,o'] [eb,U] pos) (WE X P n RT Y J Z (.cmp2 o o' a b c)):=by refine(aEI (kK (RT:=RT) (Y:=Y) (J:=J) M o) (kK (RT:=RT) (Y:=Y) (J:=J) M o') ha hb hc (rE hq)).imp λZV H Q t ⟨S,h⟩=>?_;refine wE.two S ((RE.bind' (h)).mono λx I=>RE.bind' I) λx y ux uy H2 q t2 s2 S2 I hy=>?_;split at q;rename_i W;refine⟨Z,ZV,x,y,true,I,hy,W,true,rfl,?_⟩;rw[if_pos rfl];refine wE.one S2 (RE.bind' q) λz u H3 hz t3 S3 r3=>?_;split at hz;rename_i k' q0;exact⟨Z,ZV,y,z,k',hy.grow r3.1,r3.rv S2,q0,λt'=>hz _ _ t' (Ro.cl (s2.trans r3.1) rfl)⟩;exact hz.elim;rename_i W;refine⟨Z,ZV,x,y,false,I,hy,W,false,rfl,?_⟩;rw[if_neg bN];exact λt'=>q _ _ t' (Ro.cl s2 rfl);exact q.elim
theorem aKK(M:Mc X P Γ n){o o':CmpOp}{a b c:E}{ea eb U:As}(ha:PE X ea (WE X P n RT Y J Z a))(hb:PE X eb (WE X P n RT Y J Z b))(hc:PE X U (WE X P n RT Y J Z c))(hq:aX U=true) :
 PT X (.Compare ea [o,o'] [eb,U] pos) (WT X P n RT Y J Z (.cmp2 o o' a b c)):=by refine(aEJ (kK (RT:=RT) (Y:=Y) (J:=J) M o) (kK (RT:=RT) (Y:=Y) (J:=J) M o') ha hb hc (rE hq)).imp λZV H Q t ⟨S,h⟩=>?_;refine wE.two S ((RE.bind' (h)).mono λx I=>RE.bind' I) λx y ux uy H2 q t2 s2 S2 I hy=>?_;split at q;rename_i W;refine⟨Z,ZV,x,y,true,I,hy,W,true,rfl,?_⟩;rw[if_pos rfl];refine wE.one S2 (RE.bind' q) λz u H3 hz t3 S3 r3=>?_;split at hz;rename_i k' q0;exact⟨Z,ZV,y,z,k',hy.grow r3.1,r3.rv S2,q0,k',rfl,λt'=>hz _ t' (s2.trans r3.1)⟩;exact hz.elim;rename_i W;refine⟨Z,ZV,x,y,false,I,hy,W,false,rfl,?_⟩;rw[if_neg bN];exact⟨false,rfl,λt'=>q _ t' s2⟩;exact q.elim
theorem dH{a:E}{q:As}(I:PT X q (WT X P n RT Y J Z a)):PT X (.UnaryOp .Not q pos) (WT X P n RT Y J Z (.nt a)):=by exact(aJT I).imp λZV H Q t ⟨S,h⟩=>(⟨S,(RE.bind' (h)).mono λk U H1 W s1 t'=>(U) _ t' s1⟩)
theorem aFs{e:As}{t t':TT}(h:PW X e t)(f:∀ZV H Q,Tk X.K H->t' ZV H Q->t ZV H λv H'=>Tk X.K H'->Q v H'):PW X e t':=λwh G s ZV H Q I W=>thn (h wh G s ZV H _ I (f ZV H Q I.tk W)) λk s' ⟨H',U,q⟩=>⟨H',U,q U.tk⟩
theorem aNB{a b:E}{I U:As}{r:List As}(W:PT X I (WT X P n RT Y J Z a))(hb:PW X (.BoolOp .And (U::r) pos) (WT X P n RT Y J Z b)):PW X (.BoolOp .And (I::U::r) pos) (WT X P n RT Y J Z (.an a b)):=by
 refine aFs (aJS W hb) λZV H Q t ⟨S,h⟩=>?_;refine⟨S,(RE.bind' (h)).mono λk q H1 t1 s1=>?_⟩;cases k with
 | true=>rw[if_pos rfl] at q ⊢;exact⟨S.grow s1 t1,q.mono λv hv H' t s' _=>hv H' t (s1.trans s')⟩|false=>rw[if_neg bN] at q ⊢;exact λt'=>(q) _ t' s1
theorem aJs{a b:E}{I U:As}{r:List As}(W:PT X I (WT X P n RT Y J Z a))(hb:PW X (.BoolOp .Or (U::r) pos) (WT X P n RT Y J Z b)):PW X (.BoolOp .Or (I::U::r) pos) (WT X P n RT Y J Z (.orr a b)):=by
 refine aFs (aMI W hb) λZV H Q t ⟨S,h⟩=>?_;refine⟨S,(RE.bind' (h)).mono λk q H1 t1 s1=>?_⟩;cases k with
 | true=>rw[if_pos rfl] at q ⊢;exact λt'=>(q) _ t' s1|false=>rw[if_neg bN] at q ⊢;exact⟨S.grow s1 t1,q.mono λv hv H' t s' _=>hv H' t (s1.trans s')⟩
noncomputable def wO(X:Cx)(P:Pg)(n:Nat)(RT Y J:Ah->Prop)(Z:Sg)(cs:Es):TO:=λZV H Q=>Sx X.K RT Y J Z ZV H/\RE (evs P (call P n) Z cs) λvs=>(vs=[]/\∀H',Tk X.K H'->aQ H H'->Q none H')\/∃v i,vs=[v]/\v.d=.int i/\∀H',Tk X.K H'->aQ H H'->Q (some i) H'
theorem aFt{e:Option As}{t t':TO}(h:PO X e t)(f:∀ZV H Q,Tk X.K H->t' ZV H Q->t ZV H λv H'=>Tk X.K H'->Q v H'):PO X e t':=λG s ZV H Q I W=>thn (h G s ZV H _ I (f ZV H Q I.tk W)) λu s' ⟨o,H',U,r,q⟩=>⟨o,H',U,r,q U.tk⟩
theorem aNC:PO X none (wO X P n RT Y J Z .nil):=aFt aHI λZV H Q t ⟨S,h⟩ t'=>by
 rcases(h) with⟨_,q⟩|⟨v,i,e,_⟩
 exact q H t' (aQ.refl H);cases e
theorem aND{c:E}{e:As}(U:PE X e (WE X P n RT Y J Z c)):PO X (some e) (wO X P n RT Y J Z (.cons c .nil)):=by
 refine aFt (aHJ U) λZV H Q t ⟨S,h⟩=>?_;refine wE.one S (RE.bind' (h)) λx u H1 W t1 S1 I=>?_;rcases(W) with⟨e,_⟩|⟨v,i,e,hd,q⟩
 cases e;cases e;exact⟨i,(I.rv S).int hd,λt'=>q _ t' I.1⟩
theorem aNE{a:E}{lo hi:Es}{ea:As}{el eh:Option As}{p2:CB}(ha:PE X ea (WE X P n RT Y J Z a))(I:PO X el (wO X P n RT Y J Z lo))(q:PO X eh (wO X P n RT Y J Z hi)) :
 PE X (.Subscript ea (.Slice el eh none p2) pos) (WE X P n RT Y J Z (.sli a lo hi)):=by
 refine(aET (aKD) ha I q).imp λZV H Q t ⟨S,h⟩=>?_;have h:=RE.bind' (h);refine wE.one S h λx u H1 hx t1 S1 r1=>?_;refine⟨S1,(RE.bind' hx).mono λl I=>?_⟩;have I:=RE.bind' I;have up:∀(L:Option Int) (W:Hp),Tk X.K W->aQ H1 W->(RE (evs P (call P n) Z hi) λh=>(h=[]/\RE (eU x L none) (Wn X RT Y J Z ZV H Q))\/∃v i,h=[v]/\v.d=.int i/\RE (eU x L (some i)) (Wn X RT Y J Z ZV H Q)) ->
  wO X P n RT Y J Z hi ZV W λhv H3=>aHX X.K u L hv H3 λv H'=>Tk X.K H'->Q v H':=by
  intro L W t2 s2 q;refine⟨S1.grow s2 t2,q.mono λhv hq=>?_⟩;have q0:∀(U:Option Int) (H3:Hp),Tk X.K H3->aQ W H3->RE (eU x L U) (Wn X RT Y J Z ZV H Q) ->
   aHX X.K u L U H3 λv H'=>Tk X.K H'->Q v H':=λU H3 t3 s3 hs=>
   aDA (S1.grow (s2.trans s3) t3) t3 ((r1.rv S).grow (s2.trans s3)) (hs.mono λv hv u H' t r=>hv u H' t (r.from (r1.1.trans (s2.trans s3))))
  grind
 match l,I with
 | [],I=>
  refine .inl ⟨rfl,λW t2 s2=>up none W t2 s2 (I.mono λh q=>?_)⟩
  match h,q with
  | [],q=>exact .inl ⟨rfl,q⟩|[h],q=>have q:RE (match h.d with|.int h=>R.iff (aM h) (eU x none (some h))|_=>.bad) _:=q;split at q;rename_i i hd;exact .inr ⟨h,i,rfl,hd,q.iff.2⟩;exact q.elim|_::_::_,q=>exact q.elim
 | [l],I=>
  have hd:∃i,l.d=.int i:=by
   obtain⟨h,_,q⟩:=I.eq
   match h,q with
   | [],q=>have q:RE (match l.d with|.int l=>R.iff (aM l) (eU x (some l) none)|_=>.bad) _:=q;split at q;grind;exact q.elim|[h],q=>have q:RE (match l.d,h.d with|.int l,.int h=>R.iff (aM l&&aM h) (eU x (some l) (some h))|_,_=>.bad) _:=q;split at q;grind;exact q.elim|_::_::_,q=>exact q.elim
  obtain⟨i,hd⟩:=hd;refine .inr ⟨l,i,rfl,hd,λW t2 s2=>up (some i) W t2 s2 (I.mono λh q=>?_)⟩
  match h,q with
  | [],q=>have q:RE (match l.d with|.int l=>R.iff (aM l) (eU x (some l) none)|_=>.bad) _:=q;rw[hd] at q;exact .inl ⟨rfl,q.iff.2⟩|[h],q=>have q:RE (match l.d,h.d with|.int l,.int h=>R.iff (aM l&&aM h) (eU x (some l) (some h))|_,_=>.bad) _:=q;rw[hd] at q;split at q;rename_i i' j e1 e2;cases e1;exact .inr ⟨h,j,rfl,e2,q.iff.2⟩;exact q.elim|_::_::_,q=>exact q.elim
 | _::_::_,I=>exact(by
     obtain⟨h,_,q⟩:=I.eq
     match h,q with
     | [],q=>exact q.elim|[_],q=>exact q.elim|_::_::_,q=>exact q.elim)
end
end Hp
namespace L2
open PySem PySem.Spec PyProof.Rows
set_option maxRecDepth 100000
instance:LawfulBEq Key where
 eq_of_beq:=λ{a b} h=>by
  cases a with
  | inl x=>cases b with|inl y=>exact congrArg G2 (eq_of_beq (show(x==y)=true from h))|inr y=>cases h
  | inr x=>cases b with|inl y=>cases h|inr y=>exact congrArg Co (eq_of_beq (show(x==y)=true from h))
 rfl:=λ{a}=>by
  cases a with
  | inl x=>exact(beq_self_eq_true x:(x==x)=true)|inr x=>exact(beq_self_eq_true x:(x==x)=true)
noncomputable def mR(Z:List Key)(v:Key):List Key:=if Z.any (·==v) then Z else Z++[v]
noncomputable def eG(ks:List Key):List Key:=ks.foldl mR []
theorem pF(ks:List Key)(k:Key):eG (ks++[k])=mR (eG ks) k:=by unfold eG;rw[Dd];rfl
theorem aDF(Z:List Key)(v k:Key):(mR Z v).any (·==k)=(Z.any (·==k)||decide (k=v)):=by unfold mR;grind
theorem uJ(Z:List Key)(v:Key):(mR Z v).length=if Z.any (·==v)=true then Z.length else Z.length+1:=by unfold mR;split <;> simp
theorem uK:∀(ks:List Key) (Z:List Key),(ks.foldl mR Z).length<=Z.length+ks.length
 | [],Z=>by simp|k::ks,Z=>by
  have h1:=uK ks (mR Z k);have h2:(mR Z k).length<=Z.length+1:=by rw[uJ];split <;> omega
  rw[Ci,lC];omega
noncomputable def aFu(prog:Ay)(w:AJ)(vs:List Ac)(ks:List Key):Prop:=Cp (λv k=>(cF prog w).is k v=true) vs ks
theorem aFu.get{prog:Ay}{w:AJ}:∀{vs:List Ac} {ks:List Key},aFu prog w vs ks->∀{i:Nat} {v:Ac},vs[i]? = some v->∃k,ks[i]? = some k/\(cF prog w).is k v=true
 | _,_,.nil,_,_,h=>by simp at h|_,_,.cons r _,0,_,h=>by grind|_,_,.cons _ t,i+1,v,h=>by obtain⟨k,h1,h2⟩:=aFu.get t (i:=i) (v:=v) (by simpa using h);exact⟨k,by simpa using h1,h2⟩
theorem aIe{prog:Ay}{w:AJ}{k:Key}{v:Ac}(h:(cF prog w).is k v=true):v.scannable=true:=by rcases keyIs_shape h with⟨i,t,rfl,rfl⟩|⟨x,t,rfl,rfl⟩ <;> rfl
section
variable {prog:Ay} {w:AJ} {A:Bf} {R:F9->Ae->Prop} {I:Ah} {fp wr:List Ah} {G':Array F7->Array F7->Prop} {n:Nat} {P:Nat->Ac->Prop} {St:Nat->Ae->Prop}
theorem aDG(W0:WalksS prog w A.in1 I fp wr G' n P St)(S:Ah)(q3:S∉fp)(ks:List Key)(q8:∀i v,P i v->∃k,ks[i]? = some k/\(cF prog w).is k v=true)(hn:ks.length=n)(U:n+1<DC) :
 ∀(m i:Nat) (s:Ae),n-i=m->i<=n->St i s ->
  s.heap.SetOf (cF prog w) S (λk'=>(eG (ks.take i)).any (·==k')) (eG (ks.take i)).length ->
  (∀q,Moved (S::wr) G' s q->q.heap.SetOf (cF prog w) S (λk'=>(eG ks).any (·==k')) (eG ks).length->R (.ok (.ret .none)) q) ->
  D4 (AC prog w) A (.builtin "set.update.loop" ⟨[.ref S,.ref I],[]⟩) R s:=by
 have stay:∀{s q:Ae} {T:Key->Bool} {c:Nat},Moved wr G' s q->s.heap.SetOf (cF prog w) S T c->q.heap.SetOf (cF prog w) S T c:=λhm hS=>by obtain⟨o,es,ep,t,ho,rest⟩:=hS;exact⟨o,es,ep,t,hm.heap S _ (λh=>q3 (W0.sub _ h)) ho,rest⟩
 intro m
 induction m with
 | zero=>
  intro i s hk hi q1 hS hR;obtain rfl:i=n:=by omega
  refine Bm BC ?_;rw[AZ Bg _];show Av _ A.in1 (CY (.ref I) >>= _) _ _ s;refine Aa (W0.done s _ _ q1 λq hm=>?_);show Av _ A.in1 (ret C8) _ _ q;rw[Bz (by omega)] at hS;exact Af (hR q (hm.mono (λb U=>Au _ U)) (stay hm hS))
 | succ m ih=>
  intro i s hk hi q1 hS hR;refine Bm BC ?_;rw[AZ Bg _];show Av _ A.in1 (CY (.ref I) >>= _) _ _ s;refine Aa (W0.item i s _ _ (by omega) q1 λv q hP q6 hm=>?_);obtain⟨k,w5,W⟩:=q8 i v hP;have q9:=stay hm hS;have q7:ks.take (i+1)=ks.take i++[k]:=by rw[E5,w5];rfl
  show Av _ A.in1 (Fa [v] (JC S v) >>= _) _ _ q;refine Aa (AY ?_);unfold JC;refine AY ?_;have q0:(eG (ks.take i)).length+1<DC:=by
   have h1:=uK (ks.take i) [];have h2:(ks.take i).length<=i:=by rw[A9];omega
   unfold eG;simp only[lN] at h1;omega
  refine Aa ((cF prog w).pyHash W ?_);refine wpAny_setAddHashed_of (knd:=cF prog w) (s:={ q with toks:=q.toks+1 }) W (aIe W) q9 q0 λh' q5 w3=>?_;have w4:h'.SetOf (cF prog w) S (λk'=>(eG (ks.take (i+1))).any (·==k')) (eG (ks.take (i+1))).length:=
   Js w3 (λk'=>by rw[q7,pF,aDF]) (by rw[q7,pF,uJ])
  refine Af ⟨BL Bg _,ih (i+1) _ (by omega) (by omega) (W0.frame _ q _ _ q6 (DB _) λb U o e=>?_) w4 λw6 q4 q2=>?_⟩;rw[q5.2 b λh:b=S=>q3 (by rw[<-h];exact U)];exact e;refine hR w6 (Jt W0.gtrans ((hm.mono (λb U=>Au _ U)).then_heap (DB _) λb o U e=>?_) q4) q2;rw[q5.2 b λh:b=S=>U (by rw[h];grind)];exact e
end
section
variable {prog:Ay} {w:AJ} {A:Bf} {E:Ac->Ae->Prop} {s:Ae}
set_option maxHeartbeats 3200000 in
theorem aDH{l:Ah}{items:Array Ac}{ks:List Key}{Q:Ac->Ae->Prop}(hh:A.handled=none)(hl:s.heap.IsList l items)(hi:aFu prog w items.toList ks)(hn:ks.length=items.size)(hb:items.size+1<DC)
 (h:∀(h':Heap) (tk:Nat),h'.SetOf (cF prog w) s.heap.objs.size (λk'=>(eG ks).any (·==k')) (eG ks).length ->
  (∀b o,b<s.heap.objs.size->s.heap.get? b=some o->h'.get? b=some o)->Q (.ref s.heap.objs.size) { s with heap:=h',toks:=tk }) :
 Av (AC prog w) A (call (.type "set") [.ref l]) Q E s:=by
 obtain⟨c,tl,w9⟩:=AM.mro;have w4:=AM.made;have z2:=AM.sub;refine HK (Fz ?_);show Av _ _ (callAny (.type "set") _) _ _ _;refine Af ⟨Gq _ (by decide +kernel),Bm GC ?_⟩;rw[Gr (F2 "set" [.ref l] []) rfl];have h1:=AM.notType;have h2:=AM.canCreate;have z5:=Fp (.ref l)
 repeat (any_goals (first|assumption|wp_step))
 refine Dn (code_set_new_1 (.ref l) (E:=E) (Q₁:=λobj I=>∃led:Bool,obj=.ref s.heap.objs.size/\I={ s with heap:=s.heap.push { cls:=.type "set",dict:=none,data:=.set #[] 0 (.fresh 0 0 led) } }) λled=>⟨led,rfl,rfl⟩) λr I hr=>?_;cases r with
 | error e=>exact hr|ok fl=>
  cases fl with
  | ret obj=>
   obtain⟨led,rfl,rfl⟩:=hr;have z7:=AM.init.lookup;have z4:=AM.init.bind (.ref s.heap.objs.size)
   repeat (any_goals (first|assumption|wp_step))
   refine Dn (FH (R:=wants (λr U=>r=.none/\∃h' tk,U={ s with heap:=h',toks:=tk } /\
    h'.SetOf (cF prog w) s.heap.objs.size (λk'=>(eG ks).any (·==k')) (eG ks).length /\
    (∀b o,b<s.heap.objs.size->s.heap.get? b=some o->h'.get? b=some o)) E) AM.init.plain GU (GV (⟨_,(Aj _ rfl),rfl⟩) ?_)) λq6 U q=>?_
   . obtain⟨ol,q5,q1,nl,q2⟩:=hl;obtain⟨z3,w6,w5,q7⟩:=ol;simp only at q1 q2;subst q1;subst q2;have z1:=FI;have z0:=E6;have z8:(Eu "list" == Eu "dict")=false:=by decide
     have q4:(s.heap.push { cls:=.type "set",dict:=none,data:=.set #[] 0 (.fresh 0 0 led) }).IsList l items:=⟨_,(Ab _ q5),rfl,nl,rfl⟩
     unfold Cz.«set.__init__» noKeywords Eh;generalize q8:Gh=PI
     wp_walk
     subst q8;refine BO q4 ?_;refine Aa (FJ ?_);have z6:l<s.heap.objs.size:=An q5;have q9:A.in1.in1.in1.handled=none:=by simp[hh]
     refine aDG ((Gp q9 _ l (by rw[(Bo _ _)];grind) items).toS) s.heap.objs.size
      (by
       rw[(Bo _ _)];grind) ks
      (λi v hv=>hi.get (by rw[BV];exact hv)) hn hb (items.size-0) 0 _ (by omega) (Bw _)
      ⟨⟨_,Aj _ rfl,rfl,rfl⟩,(q4.push _)⟩ ?hS0 ?hR
     case hS0=>
      have q3:((s.heap.push { cls:=.type "set",dict:=none,data:=.set #[] 0 (.fresh 0 0 led) }).push { cls:=.type "list_iterator",data:=.fields #[.ref l,.int 0 0] }).get? s.heap.objs.size
       = some { cls:=.type "set",dict:=none,data:=.set #[] 0 (.fresh 0 0 led) }:=Ab _ (Aj _ rfl)
      exact Js ((setObjOf_fresh (knd:=cF prog w) led).setOf q3 (by unfold DC;omega)) (λ_=>rfl) rfl
     case hR=>intro s' hm q0;obtain⟨h',g',d',w8,w7⟩:=s';have eg:g'=s.gens:=hm.gens;have ed:d'=s.drawn:=hm.drawn;have eo:w7=s.os:=hm.os;subst eg;subst ed;subst eo;show Av _ _ _ _ _ _;refine Af ?_;show Av _ _ (ret C8) _ _ _;refine Af ⟨rfl,h',w8,rfl,q0,λb o hb e=>?_⟩;refine hm.heap b o ?_ (Ab _ (Ab _ e));rw[(Bo _ _)];grind
   . cases q6 with
     | error e=>exact q|ok W=>
      cases W with
      | ret r=>
       obtain⟨rfl,h',tk,rfl,q0,w3⟩:=q
       repeat (any_goals (first|assumption|wp_step))
       exact h _ _ q0 w3
      | next=>exact q|brk=>exact q|cont=>exact q
  | next=>exact hr|brk=>exact hr|cont=>exact hr
end
end L2
namespace Hp
open PySem PySem.Spec PyProof.Rows L2
section
variable {X:Cx} {P:Pg} {Γ:Ct} {n:Nat} {RT Y J:Ah->Prop} {Z:Sg} {pos:CB} {K:Fg} {H:Hp}
theorem oE{prog:Ay}{w:AJ}:∀{ds:List D} {ks:List Key} {ex:Ah->Prop} {vs:List V} {us:List Ac},iB ds=some ks->Reps K H ex ds vs->bC vs us->aFu prog w us ks/\ks.length=ds.length
 | [],ks,ex,vs,us,h,r,rv=>by cases h;rw[show vs=[] from r] at rv;cases rv;exact⟨.nil,rfl⟩|d::ds,ks,ex,vs,us,h,r,rv=>by
  obtain⟨v,vr,e,h1,h2⟩:=r;subst e;cases rv with
  | cons I r2=>
   cases d with
   | str x=>
    unfold iB at h;cases q:iB ds with
    | none=>rw[q] at h;cases h|some ys=>rw[q] at h;cases h;rw[show v=.str x from h1] at I;obtain⟨t,rfl⟩:=I;obtain⟨U,W⟩:=oE q h2 r2;exact⟨.cons (yA prog w x t) U,by rw[lC,lC,W]⟩
   | int x=>
    unfold iB at h;cases q:iB ds with
    | none=>rw[q] at h;cases h|some ys=>rw[q] at h;cases h;rw[show v=.int x from h1] at I;obtain⟨t,rfl⟩:=I;obtain⟨U,W⟩:=oE q h2 r2;exact⟨.cons (xZ prog w x t) U,by rw[lC,lC,W]⟩
   | _=>cases h
theorem aFv(ks:List Key):aAG ks=eG ks:=rfl
theorem aFw(M:Mc X P Γ n){a:E}{ea:As}{f g:Str}{pf pg p2:CB}(hf:f=("len" : Str))(hg:dN Γ f=true)(q2:g=("set" : Str))(q3:dN Γ g=true)(ha:PE X ea (WE X P n RT Y J Z a))(hp:aX ea=true) :
 PE X (.Call (.Name f pf) [.Call (.Name g pg) [ea] [] p2] [] pos) (WE X P n RT Y J Z (.numset a)):=by
 subst hf q2;intro G s ZV H Q I hw;obtain⟨S,h⟩:=hw;have h:=RE.bind' (h);obtain⟨x,ex,h⟩:=h.eq;cases hd:x.d with
 | lst ds=>
  rw[hd] at h;cases hk:iB ds with
  | none=>simp only[hk] at h;exact h.elim|some ks=>simp only[hk] at h;obtain⟨hl,h⟩:=h.iff;have hl:=of_decide_eq_true hl;refine B6 (fE I (M.gl hg) (M.md.blt _ (by decide +kernel)) PySem.boot_len ?_ (by decide +kernel) (by decide +kernel));refine BW ?_ (aB rfl) rfl;rw[aB rfl];refine CM (B6 (fE I (M.gl q3) (M.md.blt _ (by decide +kernel)) (show BM "set" = some (.type "set") by kernel_rfl) ?_ (by decide +kernel) (by decide +kernel)));refine Bh (thn (eX ha hZ (aB hp) p2 G s ZV H (λus H1=>∃u,us=[u]/\Tk X.K H1/\Ro X.K RT Y J Z ZV H H1 x u) I ⟨S,?_⟩) λus s1 ⟨vs,H1,I1,r1,u,e1,t1,ro⟩=>?_) (aB hp) rfl;rw[ex];intro u H1 t1 ro;exact⟨u,rfl,t1,ro⟩;subst e1;obtain⟨u',rfl,ru⟩:=r1.one;obtain⟨b,xs,rfl,hS,_,rr⟩:=(ro.rv S).lst hd;cases ru;obtain⟨q5,r2,p,_⟩:=I1.list hS;obtain⟨hK,q4⟩:=oE hk rr r2;have l1:=rr.length;have l2:=r2.length;refine aDH (I1.ok.hd M.calm) p.isList (by omega) (by rw[Ak];omega) (by rw[Ak];unfold DC;omega) λh' tk W q=>?_;refine DE ?_;obtain⟨o,es,ep,tb,ho,q1,q0,_,_,hb,U,hn⟩:=W;refine PySem.call_len_set ho q1 q0 U (by unfold DC at hb;omega) ?_;refine⟨.int es.size,H1,(I1.kept λb o e=>q b o (An e) e).tok _,⟨_,rfl⟩,?_⟩;rw[hn,<-aFv];exact(h) _ _ t1 (Ro.cl ro.1 rfl)
 | _=>rw[hd] at h;exact h.elim
end
end Hp
namespace L2
open PySem PySem.Spec PyProof.Rows
section
variable {X:Cx} {G:List (Ah×Obj)} {Z:St} {H:Hp} {s:Ae} {h':Heap}
theorem Inv.turnsNew{U:List Ah}{T:Ah}{o:HO}{t':Nat}(I:Inv X G Z H s)(f:∀b∈U,mJ X G H b)(k:∀b o,b∉U->s.heap.get? b=some o->h'.get? b=some o)(there:∀b∈U,∃o,h'.get? b=some o)
 (hT:s.heap.objs.size<=T) (new:gF X.prog X.w (upd H T o) h' T o):Inv X G Z (upd H T o) { s with heap:=h',toks:=t' }:=by
 have q0:∀b u,H b=some u->b∉U:=λb u e z=>by rw[(f b z).1] at e;cases e
 have hn:=I.hok.fresh hT;refine I.step (λb hb=>?_) (λb o _ _ W e _=>k b o W e) (λb o _ _ W e _=>⟨o.slots,k b o W e⟩) (λb o _ e n=>by rw[aO ((λb o e=>A8 (A6 (An e) hT)) b o e)];exact n)
  (λb o W e=>⟨o,k b o W e⟩) (λb xs e=>by rw[aO (bS e hn)];exact e) (λb o u e=>by rw[aO (bS e hn)];exact e) (λb ps e=>⟨#[],by rw[aO (bS e hn),e];simp⟩) (λm hm=>?_) (λb u e=>?_) I.bare
 obtain⟨_,f1,f2,f3,f4,f5⟩:=f b hb;exact⟨f3,f1,f4,f5⟩;obtain⟨o,es,ep,ho,r⟩:=hm;exact⟨o,es,ep,k _ o (λz=>(f _ z).2.1 rfl) ho,r⟩;by_cases hb:b=T;subst hb;rw[bD] at e;grind;rw[aO hb] at e;refine(I.hok b u e).stay (λc v W q=>k c v ?_ q) (λc q=>by rw[aO (bS q hn)];exact q) λc xs q=>by rw[aO (bS q hn)];exact q
 grind
theorem Inv.turns{U:List Ah}{t':Nat}(I:Inv X G Z H s)(f:∀b∈U,mJ X G H b)(k:∀b o,b∉U->s.heap.get? b=some o->h'.get? b=some o):Inv X G Z H { s with heap:=h',toks:=t' }:=by
 have q0:∀b u,H b=some u->b∉U:=λb u e z=>by rw[(f b z).1] at e;cases e
 refine I.step (λb hb=>?_) (λb o _ _ W e _=>k b o W e) (λb o _ _ W e _=>⟨o.slots,k b o W e⟩) (λb o _ e n=>n)
  (λb o W e=>⟨o,k b o W e⟩) (λb xs e=>e) (λb o u e=>e) (λb ps e=>⟨#[],by rw[e];simp⟩) (λm hm=>?_) (λb u e=>?_) I.bare
 obtain⟨_,f1,f2,f3,f4,f5⟩:=f b hb;exact⟨f3,f1,f4,f5⟩;obtain⟨o,es,ep,ho,r⟩:=hm;exact⟨o,es,ep,k _ o (λz=>(f _ z).2.1 rfl) ho,r⟩;refine(I.hok b u e).stay (λc v W q=>k c v ?_ q) (λc q=>q) λc xs q=>q;grind
theorem Inv.newK(I:Inv X G Z H s):X.K.lookup s.heap.objs.size=none:=by
 cases q:X.K.lookup s.heap.objs.size with
 | none=>rfl|some o=>exact absurd (An (I.bk _ o (I.ok.mod.kin _ o q))) (B1 _)
noncomputable def Sq(k:Bool)(K:Aq)(H:Hp)(a:Ah)(xs:List V):Prop:=match k with|true=>SqL K H a xs|false=>SqT K H a xs
noncomputable def fU(k:Bool)(h:Heap)(a:Ah)(its:Array Ac):Prop:=match k with|true=>h.IsList a its|false=>h.IsTuple a its
noncomputable def eH(k:Bool)(h:Heap)(it a:Ah)(i:Nat):Prop:=match k with|true=>h.IsListIter it a i|false=>h.IsTupleIter it a i
theorem fU.at{k:Bool}{h:Heap}{a:Ah}{I:Array Ac}(q:fU k h a I)(e:∀o,h.get? a=some o->h'.get? a=some o):fU k h' a I:=by
 cases k with
 | true=>exact Heap.IsList.at q e|false=>exact Heap.IsTuple.at q e
theorem eH.at{k:Bool}{h:Heap}{a it:Ah}{i:Nat}(q:eH k h it a i)(e:∀o,h.get? it=some o->h'.get? it=some o):eH k h' it a i:=by
 cases k with
 | true=>exact Heap.IsListIter.at q e|false=>exact Heap.IsTupleIter.at q e
theorem eH.obj{k:Bool}{h:Heap}{a it:Ah}{i:Nat}(q:eH k h it a i):∃o,h.get? it=some o/\∀v,o.data≠.cell v:=by
 cases k with
 | true=>obtain⟨o,e,c,d⟩:=q;grind|false=>obtain⟨o,e,c,d⟩:=q;grind
theorem Inv.sq{k:Bool}{a:Ah}{xs:List V}(I:Inv X G Z H s)(h:Sq k X.K H a xs):∃q:List Ac,bC xs q/\fU k s.heap a q.toArray/\xs.length<=sizeLine:=by
 cases k with
 | true=>obtain⟨q,r,p,z⟩:=I.list h;exact⟨q,r,p.isList,z⟩|false=>obtain⟨q,r,p,z⟩:=I.tuple h;exact⟨q,r,p,z⟩
theorem Inv.sq_inj{k:Bool}{a:Ah}{xs ys:List V}(I:Inv X G Z H s)(h:Sq k X.K H a xs)(h':Sq k X.K H a ys):xs=ys:=by
 cases k with
 | true=>exact I.list_inj h h'|false=>exact I.tuple_inj h h'
theorem Sq.there{k:Bool}{K:Aq}{a:Ah}{xs:List V}(h:Sq k K H a xs):H a≠none\/∃o,K.lookup a=some o:=by
 cases k with
 | true=>
  rcases h with(h|⟨o,h⟩)|⟨o,I,n,q,_⟩
  grind;grind;grind
 | false=>
  rcases h with(h|⟨o,h⟩)|⟨o,I,n,q,_⟩
  grind;grind;grind
theorem Inv.sqNe{k:Bool}{a b:Ah}{xs:List V}(I:Inv X G Z H s)(h:Sq k X.K H a xs)(f:mJ X G H b):a≠b:=by
 intro e;subst e;rcases h.there with z|⟨o,z⟩
 exact z f.1;have U:=I.ok.mod.kin a o z;rcases f.2.2.2.1 with q|q;exact I.ok.noex a o U q;exact absurd (A6 (An U) (AL I.ok.bsz q)) (B1 _)
end
section
variable {prog:Ay} {w:AJ} {A:Bf} {E:Ac->Ae->Prop} {s:Ae}
theorem mS{it l:Ah}{i:Nat}{items}{x:Ac}{Q:Ac->Ae->Prop}(q:s.heap.IsTupleIter it l i)
 (hl:s.heap.IsTuple l items) (hx:items[i]? = some x)
 (hQ:∀h',h'.IsTupleIter it l (i+1)->C6 it s.heap h'->Q x { s with heap:=h' }) :
 Av (AC prog w) A (AT (.ref it)) Q E s:=by
 obtain⟨o,I,hc,hd⟩:=id q;obtain⟨ol,W,_,nl,U⟩:=hl;unfold AT;refine Aa (Ba q.typeIs Cw
  (Bb Cw q.typeIs Er ?_ (Ei _)))
 show Av _ _ (GD (.ref it) 0 >>= _) _ _ s;refine Aa (Bk I hd rfl ?_);show Av _ _ (if (CV l==C8)=true then _ else _) _ _ s;rw[if_neg (show ¬ ((CV l==C8)=true) from bN)];show Av _ _ (GD (.ref it) 1 >>= _) _ _ s;refine Aa (Bk I hd rfl ?_);show Av _ _ (IR (.ref l) >>= _) _ _ s;refine Aa (B0 W U ?_);simp only[BD,hx];refine Aa (HZ I hd (by simp) (Af ⟨x,rfl,Af (hQ _ ?_ (Ek ..))⟩));exact⟨_,C0 _ I (Obj.isFreed_of_fields (Gs hd _)),(Obj.cls_mapFields ..).trans hc,by
  rw[Gs hd];simp[Ca]⟩
theorem oF{it l:Ah}{i:Nat}{items}{Q:Ac->Ae->Prop}(hh:A.handled=none)
 (q:s.heap.IsTupleIter it l i) (hl:s.heap.IsTuple l items) (hx:items[i]? = none)
 (hE:∀h' e,DZ it s.heap h'->(∃o,h'.get? e=some o/\o.cls=.type "StopIteration")->E (.ref e) { s with heap:=h' }) :
 Av (AC prog w) A (AT (.ref it)) Q E s:=by
 obtain⟨o,U,hc,hd⟩:=id q;obtain⟨ol,W,_,nl,I⟩:=hl;unfold AT;refine Aa (Ba q.typeIs Cw
  (Bb Cw q.typeIs Er ?_ (Ei _)))
 show Av _ _ (GD (.ref it) 0 >>= _) _ _ s;refine Aa (Bk U hd rfl ?_);show Av _ _ (if (CV l==C8)=true then _ else _) _ _ s;rw[if_neg (show ¬ ((CV l==C8)=true) from bN)];show Av _ _ (GD (.ref it) 1 >>= _) _ _ s;refine Aa (Bk U hd rfl ?_);show Av _ _ (IR (.ref l) >>= _) _ _ s;refine Aa (B0 W I ?_);simp only[BD,hx];refine Aa (Di (Aa (HZ U hd (by simp) ?_)));show Av _ _ (JD (.type "StopIteration") [] >>= _) _ _ _;refine Aa ?_;simp only[JD,newTuple];refine Aa (Bn ?_ (by size_fits));refine Aa (FF (by first|rfl|(simp only[Ia];rfl)) ?_);refine Bn ?_ (by size_fits);simp only[raiseNew];refine Aa (ID ?_)
 first|rw[show A.in1.handled=none from hh]|rw[hh]
 refine Aa (Af (Ju ?_));exact hE _ _ (((Ek ..).extBut.push _).push _) ⟨_,Aj _ rfl,rfl⟩
theorem gY{k:Bool}{it l:Ah}{i:Nat}{items:Array Ac}{x:Ac}{Q:Ac->Ae->Prop}(q:eH k s.heap it l i)(U:fU k s.heap l items)(W:items[i]? = some x)
 (I:∀h',eH k h' it l (i+1)->C6 it s.heap h'->Q x { s with heap:=h' }):Av (AC prog w) A (AT (.ref it)) Q E s:=by
 cases k with
 | true=>exact wpAny_nextOf_list_item q U W I|false=>exact mS q U W I
theorem lW{k:Bool}{it l:Ah}{i:Nat}{items:Array Ac}{Q:Ac->Ae->Prop}(U:A.handled=none)(q:eH k s.heap it l i)(W:fU k s.heap l items)(hx:items[i]? = none)
 (I:∀h' e,DZ it s.heap h'->(∃o,h'.get? e=some o/\o.cls=.type "StopIteration")->E (.ref e) { s with heap:=h' }):Av (AC prog w) A (AT (.ref it)) Q E s:=by
 cases k with
 | true=>exact wpAny_nextOf_list_end U q W hx I|false=>exact oF U q W hx I
theorem aDI{ka kb:Bool}{z TI TO i1 i2 l1 l2:Ah}{k1 k2:Nat}{xs ys:Array Ac}{x y a b:Ac}{Q:Ac->Ae->Prop}(D:GF z TI TO i1 i2 l1 l2)
 (hz:FK s.heap z TI TO .none) (z4:Dl s.heap TI (.ref i1) (.ref i2)) (z5:Dl s.heap TO a b)
 (h1:eH ka s.heap i1 l1 k1) (h2:eH kb s.heap i2 l2 k2) (z7:fU ka s.heap l1 xs) (z8:fU kb s.heap l2 ys) (hx:xs[k1]? = some x) (hy:ys[k2]? = some y)
 (hQ:∀h',FK h' z TI TO (Ca s.heap.objs.size)->Dl h' TO x y->eH ka h' i1 l1 (k1+1)->eH kb h' i2 l2 (k2+1)->Dl h' s.heap.objs.size x y->h'.objs.size=s.heap.objs.size+1 ->
  (∀c o,c≠z->c≠TO->c≠i1->c≠i2->s.heap.get? c=some o->h'.get? c=some o)->Q (.ref s.heap.objs.size) { s with heap:=h' }) :
 Av (AC prog w) A (Cz.«zip.__next__» ⟨[.ref z],[]⟩) (λz3 s'=>∃v,z3=.done (.ret v)/\Q v s') E s:=by
 show Av _ _ (GD (.ref z) 2 >>= _) _ _ _;refine Aa (Bk hz rfl rfl ?_);show Av _ _ (GD (.ref z) 3 >>= _) _ _ _;refine Aa (Bk hz rfl rfl ?_);refine Aa (B0 z4 rfl ?_);show Av _ _ (Bu (.ref z) >>= _) _ _ _;refine Aa ?_;unfold Bu;refine Aa (Bk hz rfl rfl (Af ?_));simp only[if_true];refine Aa (Di ?_);refine Aa (Bk hz rfl rfl ?_);refine Aa (AW hz (by simp) λz0 q7 q=>?_);replace q7:FK z0 z TI TO .ellipsis:=q7;refine Aa ?_;simp only[GW,Hq,Eg,E7];refine Aa (Aa (EI ?_));show Av _ _ (AT (.ref i1) >>= _) _ _ _;refine Aa (gY (h1.at λo e=>q.extBut _ _ D.i1z e) (z7.at λo e=>q.extBut _ _ D.l1z e) hx λz9 w6 W=>Af ?_);have w3:=W.extBut _ _ D.TOi1 (q.extBut _ _ D.TOz z5);refine Aa (B0 w3 rfl ?_);refine Aa (Ea w3 λz1 q2 q0=>?_);replace q2:Dl z1 TO x b:=q2;refine Aa (Dj (Af ?_));refine Aa (Aa (EI ?_));show Av _ _ (AT (.ref i2) >>= _) _ _ _;refine Aa (gY (h2.at λo e=>q0.extBut _ _ D.TOi2.symm (W.extBut _ _ D.i12.symm (q.extBut _ _ D.i2z e)))
  (z8.at λo e=>q0.extBut _ _ D.l2TO (W.extBut _ _ D.l2i1 (q.extBut _ _ D.l2z e))) hy λx0 w7 q1=>Af ?_)
 refine Aa (B0 (q1.extBut _ _ D.TOi2 q2) rfl ?_);refine Aa (Ea (q1.extBut _ _ D.TOi2 q2) λU I q3=>?_);replace I:Dl U TO x y:=I;refine Aa (Dj (Af (Af ?_)));refine Aa (B0 I rfl ?_);refine Aa (Ib ?_);have hsz:U.objs.size=s.heap.objs.size:=by rw[q3.1,q1.1,q0.1,W.1,q.1]
 have q8:=q3.extBut _ _ D.TOz.symm (q1.extBut _ _ D.i2z.symm (q0.extBut _ _ D.TOz.symm (W.extBut _ _ D.i1z.symm q7)));have w8:∀c o,c≠z->c≠TO->c≠i1->c≠i2->s.heap.get? c=some o->U.get? c=some o:=λc o c1 c2 c3 c4 e=>q3.extBut _ _ c2 (q1.extBut _ _ c4 (q0.extBut _ _ c2 (W.extBut _ _ c3 (q.extBut _ _ c1 e))));have z6:=An I;show Av _ _ (Cm (.ref z) (.ref U.objs.size) >>= _) _ _ _;refine Aa ?_;unfold Cm;refine Aa (AW (Ab _ q8) (by simp) λz2 q9 q5=>?_);replace q9:FK z2 z TI TO (Ca U.objs.size):=q9;refine AW q9 (by simp) λw4 q4 q6=>?_;replace q4:FK w4 z TI TO (Ca U.objs.size):=q4;have up:∀c o,c≠z->U.get? c=some o->w4.get? c=some o:=λc o c1 e=>q6.extBut _ _ c1 (q5.extBut _ _ c1 (Ab _ e));have w5:=q6.extBut _ _ (BY (An q8)) (q5.extBut _ _ (BY (An q8)) (Aj _ rfl));have w9:w4.objs.size=U.objs.size+1:=by rw[q6.1,q5.1,Bo]
 rw[hsz] at q4 w5 w9;refine Af ⟨_,rfl,?_⟩;show Q (.ref U.objs.size) _;rw[hsz];exact hQ w4 q4 (up _ _ D.TOz I) ((w6.at λo e=>q3.extBut _ _ D.TOi1.symm (q1.extBut _ _ D.i12 (q0.extBut _ _ D.TOi1.symm e))).at λo e=>up _ o D.i1z e) ((w7.at λo e=>q3.extBut _ _ D.TOi2.symm e).at λo e=>up _ o D.i2z e) w5 w9 λc o c1 c2 c3 c4 e=>up c o c1 (w8 c o c1 c2 c3 c4 e)
theorem aFx{ka kb:Bool}{z TI TO i1 i2 l1 l2:Ah}{k1 k2:Nat}{xs ys:Array Ac}{a b:Ac}{Q:Fin->Ae->Prop}(hh:A.handled=none)(D:GF z TI TO i1 i2 l1 l2)
 (hz:FK s.heap z TI TO .none) (w7:Dl s.heap TI (.ref i1) (.ref i2)) (w8:Dl s.heap TO a b)
 (h1:eH ka s.heap i1 l1 k1) (h2:eH kb s.heap i2 l2 k2) (q8:fU ka s.heap l1 xs) (w9:fU kb s.heap l2 ys) (z0:xs[k1]? = none\/ys[k2]? = none)
 (hE:∀h' e,(∀c o,c≠z->c≠TO->c≠i1->c≠i2->s.heap.get? c=some o->h'.get? c=some o)->(∃o,h'.get? e=some o/\o.cls=.type "StopIteration")->E (.ref e) { s with heap:=h' }) :
 Av (AC prog w) A (Cz.«zip.__next__» ⟨[.ref z],[]⟩) Q E s:=by
 show Av _ _ (GD (.ref z) 2 >>= _) _ _ _;refine Aa (Bk hz rfl rfl ?_);show Av _ _ (GD (.ref z) 3 >>= _) _ _ _;refine Aa (Bk hz rfl rfl ?_);refine Aa (B0 w7 rfl ?_);show Av _ _ (Bu (.ref z) >>= _) _ _ _;refine Aa ?_;unfold Bu;refine Aa (Bk hz rfl rfl (Af ?_));simp only[if_true];refine Aa (Di ?_);refine Aa (Bk hz rfl rfl ?_);refine Aa (AW hz (by simp) λq9 W q=>?_);replace W:FK q9 z TI TO .ellipsis:=W;refine Aa ?_;simp only[GW,Hq,Eg,E7];refine Aa (Aa (EI ?_));show Av _ _ (AT (.ref i1) >>= _) _ _ _;cases hx:xs[k1]? with
 | none=>refine Aa (lW hh (h1.at λo e=>q.extBut _ _ D.i1z e) (q8.at λo e=>q.extBut _ _ D.l1z e) hx λw3 e I he=>?_);obtain⟨oe,q5,q4⟩:=he;have q6:=I _ _ D.i1z.symm W;refine AW q6 (by simp) λq3 _ U=>hE q3 e (λc o c1 _ c3 _ x=>U.extBut _ _ c1 (I _ _ c3 (q.extBut _ _ c1 x))) ⟨oe,U.extBut _ _ (λx=>by grind) q5,q4⟩|some x=>
  refine Aa (gY (h1.at λo e=>q.extBut _ _ D.i1z e) (q8.at λo e=>q.extBut _ _ D.l1z e) hx λw3 w6 I=>Af ?_);have q0:=I.extBut _ _ D.TOi1 (q.extBut _ _ D.TOz w8);refine Aa (B0 q0 rfl ?_);refine Aa (Ea q0 λq3 w5 U=>?_);refine Aa (Dj (Af ?_));refine Aa (Aa (EI ?_));show Av _ _ (AT (.ref i2) >>= _) _ _ _;refine Aa (lW hh (h2.at λo e=>U.extBut _ _ D.TOi2.symm (I.extBut _ _ D.i12.symm (q.extBut _ _ D.i2z e)))
   (w9.at λo e=>U.extBut _ _ D.l2TO (I.extBut _ _ D.l2i1 (q.extBut _ _ D.l2z e))) (by grind) λz1 e q1 he=>?_)
  obtain⟨oe,q5,q4⟩:=he;have q7:=q1 _ _ D.i2z.symm (U.extBut _ _ D.TOz.symm (I.extBut _ _ D.i1z.symm W));refine AW q7 (by simp) λw4 _ q2=>hE w4 e (λc o c1 c2 c3 c4 x=>q2.extBut _ _ c1 (q1 _ _ c4 (U.extBut _ _ c2 (I.extBut _ _ c3 (q.extBut _ _ c1 x))))) ⟨oe,q2.extBut _ _ (λx=>by grind) q5,q4⟩
theorem pO{ka kb:Bool}{z TI TO i1 i2 q I:Ah}{k1 k2:Nat}{xs ys:Array Ac}{x y a b:Ac}{Q:Option Ac->Ae->Prop}(D:GF z TI TO i1 i2 q I)
 (hz:FK s.heap z TI TO .none) (U:Dl s.heap TI (.ref i1) (.ref i2)) (W:Dl s.heap TO a b)
 (h1:eH ka s.heap i1 q k1) (h2:eH kb s.heap i2 I k2) (q0:fU ka s.heap q xs) (q1:fU kb s.heap I ys) (hx:xs[k1]? = some x) (hy:ys[k2]? = some y)
 (hQ:∀h',FK h' z TI TO (Ca s.heap.objs.size)->Dl h' TO x y->eH ka h' i1 q (k1+1)->eH kb h' i2 I (k2+1)->Dl h' s.heap.objs.size x y->h'.objs.size=s.heap.objs.size+1 ->
  (∀c o,c≠z->c≠TO->c≠i1->c≠i2->s.heap.get? c=some o->h'.get? c=some o)->Q (some (.ref s.heap.objs.size)) { s with heap:=h' }) :
 Av (AC prog w) A (CY (.ref z)) Q E s:=by
 unfold CY;exact Aa (Dz (Ba (⟨_,hz,rfl⟩) Ej
  (Bb Ej (⟨_,hz,rfl⟩) GX
   (aDI D hz U W h1 h2 q0 q1 hx hy λh' a1 a2 a3 a4 a5 a6 a7=>Af (hQ h' a1 a2 a3 a4 a5 a6 a7)) (GG _))))
theorem rF{ka kb:Bool}{z TI TO i1 i2 l1 l2:Ah}{k1 k2:Nat}{xs ys:Array Ac}{a b:Ac}{Q:Option Ac->Ae->Prop}(hh:A.handled=none)(D:GF z TI TO i1 i2 l1 l2)
 (hz:FK s.heap z TI TO .none) (I:Dl s.heap TI (.ref i1) (.ref i2)) (U:Dl s.heap TO a b)
 (h1:eH ka s.heap i1 l1 k1) (h2:eH kb s.heap i2 l2 k2) (W:fU ka s.heap l1 xs) (q0:fU kb s.heap l2 ys) (q:xs[k1]? = none\/ys[k2]? = none)
 (hQ:∀h',(∀c o,c≠z->c≠TO->c≠i1->c≠i2->s.heap.get? c=some o->h'.get? c=some o)->Q none { s with heap:=h' }):Av (AC prog w) A (CY (.ref z)) Q E s:=by
 unfold CY;refine Aa (Dz (Ba (⟨_,hz,rfl⟩) Ej
  (Bb Ej (⟨_,hz,rfl⟩) GX (aFx hh D hz I U h1 h2 W q0 q λh' e hk he=>?_) (GG _))))
 obtain⟨o,ho,hc⟩:=he;refine Aa (Cs ⟨o,ho,hc⟩ FL ?_);exact Af (hQ _ hk)
end
noncomputable def lI(k:Bool)(l:Ah):Obj:=match k with
 | true=>{ cls:=.type "list_iterator",data:=.fields #[.ref l,.int 0 0] }
 | false=>{ cls:=.type "tuple_iterator",data:=.fields #[.ref l,.int 0 0] }
abbrev zH1(k:Bool)(h:Heap)(l1:Ah):Heap:=h.push (lI k l1)
abbrev zH2(ka kb:Bool)(h:Heap)(l1 l2:Ah):Heap:=(zH1 ka h l1).push (lI kb l2)
abbrev zH3(ka kb:Bool)(h:Heap)(l1 l2:Ah):Heap:=(zH2 ka kb h l1 l2).push { cls:=.type "tuple",data:=.seq #[.ref h.objs.size,.ref (zH1 ka h l1).objs.size] }
abbrev zH4(ka kb:Bool)(h:Heap)(l1 l2:Ah):Heap:=(zH3 ka kb h l1 l2).push { cls:=.type "tuple",data:=.seq #[.none,.none] }
abbrev zH5(ka kb:Bool)(h:Heap)(l1 l2:Ah):Heap:=(zH4 ka kb h l1 l2).push { cls:=.type "zip",data:=.fields #[.none,.bool false,.bool false,.ref (zH2 ka kb h l1 l2).objs.size,.ref (zH3 ka kb h l1 l2).objs.size] }
theorem kL{prog:Ay}{w:AJ}{A:Bf}{E:Ac->Ae->Prop}{s:Ae}{k:Bool}{l:Ah}{items:Array Ac}{Q:Ac->Ae->Prop}(I:fU k s.heap l items)
 (q:Q (.ref s.heap.objs.size) { s with heap:=s.heap.push (lI k l) }):Av (AC prog w) A (Gh (.ref l)) Q E s:=by
 cases k with
 | true=>exact BO I q|false=>exact Gu I q
theorem aAO(U W:Bool)(q I:Ah)(xs ys:Array Ac) :
 Meets (Cz.«zip.__new__» ⟨[.type "zip",.ref q,.ref I],[]⟩) (λ_ R s=>fU U s.heap q xs/\fU W s.heap I ys /\
  R (.ok (.ret (.ref (zH4 U W s.heap q I).objs.size))) { s with heap:=zH5 U W s.heap q I }):=
 .of_wp λprog w A R s h=>by
  obtain⟨hp,g,d,tk,os⟩:=s;obtain⟨q1,q2,h⟩:=h;have q3:=sub_zip;have q0:fU W (Shared.heap ⟨hp.push (lI U q),g,d,tk,os⟩) I ys:=q2.at λo e=>Ab _ e
  wp_walk using kL q1,kL q0
  exact⟨_,rfl,h⟩
theorem rG{k:Bool}{h:Heap}{it a:Ah}(e:h.get? it=some (lI k a)):eH k h it a 0:=by
 cases k with
 | true=>exact⟨_,e,rfl,rfl⟩|false=>exact⟨_,e,rfl,rfl⟩
theorem aDJ{prog:Ay}{w:AJ}{A:Bf}{E:Ac->Ae->Prop}{s:Ae}{I W:Bool}{q U:Ah}{xs ys:Array Ac}{Q:Ac->Ae->Prop}(q0:fU I s.heap q xs)(q1:fU W s.heap U ys)
 (h:∀h',FK h' (s.heap.objs.size+4) (s.heap.objs.size+2) (s.heap.objs.size+3) .none->Dl h' (s.heap.objs.size+2) (.ref s.heap.objs.size) (.ref (s.heap.objs.size+1)) ->
  Dl h' (s.heap.objs.size+3) .none .none->eH I h' s.heap.objs.size q 0->eH W h' (s.heap.objs.size+1) U 0->h'.objs.size=s.heap.objs.size+5 ->
  (∀c o,s.heap.get? c=some o->h'.get? c=some o)->Q (.ref (s.heap.objs.size+4)) { s with heap:=h' }) :
 Av (AC prog w) A (call (.type "zip") [.ref q,.ref U]) Q E s:=by
 refine Jb F.called_zip (by decide) (F.typeCall_zip_2 _ _) (F.newCall_zip_2 _ _) (λobj=>F.args_object_init_3 obj _ _) F.entry_zip_new
  (aAO I W q U xs ys) ⟨q0,q1,?_⟩
 have z1:(zH1 I s.heap q).objs.size=s.heap.objs.size+1:=Bo ..;have z2:(zH2 I W s.heap q U).objs.size=s.heap.objs.size+2:=by rw[Bo,z1]
 have z3:(zH3 I W s.heap q U).objs.size=s.heap.objs.size+3:=by rw[Bo,z2]
 have z4:(zH4 I W s.heap q U).objs.size=s.heap.objs.size+4:=by rw[Bo,z3]
 have z5:(zH5 I W s.heap q U).objs.size=s.heap.objs.size+5:=by rw[Bo,z4]
 have nf:∀k l,(lI k l).isFreed=false:=by intro k l;cases k <;> rfl
 have g5:(zH5 I W s.heap q U).get? (zH4 I W s.heap q U).objs.size=some _:=Aj _ rfl;have g4:(zH5 I W s.heap q U).get? (zH3 I W s.heap q U).objs.size=some _:=Ab _ (Aj _ rfl);have g3:(zH5 I W s.heap q U).get? (zH2 I W s.heap q U).objs.size=some _:=Ab _ (Ab _ (Aj _ rfl));have g2:(zH5 I W s.heap q U).get? (zH1 I s.heap q).objs.size=some _:=Ab _ (Ab _ (Ab _ (Aj _ (nf _ _))));show _/\_;rw[z2,z3,z4] at g5;rw[z1,z2] at g3;rw[z3] at g4;rw[z1] at g2;rw[z4];exact⟨⟨_,g5,rfl⟩,h _ g5 g3 g4 (rG (Ab _ (Ab _ (Ab _ (Ab _ (Aj _ (nf _ _))))))) (rG g2) z5 λc o x=>
  Ab _ (Ab _ (Ab _ (Ab _ (Ab _ x))))⟩
noncomputable def Itz(K:Aq)(ka kb:Bool)(a b:Ah):It:=
 ⟨λi H=>∃xs ys x y,Sq ka K H a xs/\Sq kb K H b ys/\xs[i]? = some x/\ys[i]? = some y,
  λi H v H'=>∃p x y,v=.ref p/\H p=none/\K.lookup p=none/\H'=upd H p (.tup [x,y])/\∀xs ys,Sq ka K H a xs->Sq kb K H b ys->xs[i]? = some x/\ys[i]? = some y,
  λi H=>∃xs ys,Sq ka K H a xs/\Sq kb K H b ys/\(xs.length<=i\/ys.length<=i)⟩
structure aIf (z TI TO i1 i2:Ah):Prop where
 TIz:TI≠z
 TOz:TO≠z
 i1z:i1≠z
 i2z:i2≠z
 TITO:TI≠TO
 TIi1:TI≠i1
 TIi2:TI≠i2
 TOi1:TO≠i1
 TOi2:TO≠i2
 i12:i1≠i2
theorem aIf.apart{X:Cx}{G:List (Ah×Obj)}{Z:St}{H:Hp}{s:Ae}{W kb:Bool}{a b z TI TO i1 i2:Ah}{xs ys:List V}(F:aIf z TI TO i1 i2)(I:Inv X G Z H s)(f:∀c∈[z,TI,TO,i1,i2],mJ X G H c)
 (q:Sq W X.K H a xs) (U:Sq kb X.K H b ys):GF z TI TO i1 i2 a b:=
 ⟨F.TIz,F.TOz,F.i1z,F.i2z,F.TITO,F.TIi1,F.TIi2,F.TOi1,F.TOi2,F.i12,I.sqNe q (f z (by simp)),I.sqNe q (f TO (by simp)),I.sqNe q (f i1 (by simp)),I.sqNe q (f i2 (by simp)),
  I.sqNe U (f z (by simp)),I.sqNe U (f TO (by simp)),I.sqNe U (f i1 (by simp)),I.sqNe U (f i2 (by simp))⟩
theorem aFy{P:Ay}{w:AJ}{K:Aq}{ka kb:Bool}{q2:List As}{tk:Nat}{tp:CB}{z TI TO i1 i2 a b:Ah}(F:aIf z TI TO i1 i2) :
 vL P w K (.Tuple q2 tk tp) (Itz K ka kb a b) [z,TI,TO,i1,i2] z (λi h=>FK h z TI TO .none/\Dl h TI (.ref i1) (.ref i2)/\(∃u v,Dl h TO u v)/\eH ka h i1 a i/\eH kb h i2 b i) where
 mem:=by simp
 obj:=λi h st c hc=>by obtain⟨hz,W,⟨u,v,q0⟩,h1,h2⟩:=st;rcases(by simpa using hc) with rfl|rfl|rfl|rfl|rfl;grind;grind;grind;exact h1.obj;exact h2.obj
 keep:=λi h h' st k=>by obtain⟨hz,W,⟨u,v,q0⟩,h1,h2⟩:=st;exact⟨k z (by simp) _ hz,k TI (by simp) _ W,⟨u,v,k TO (by simp) _ q0⟩,h1.at λo e=>k i1 (by simp) o e,h2.at λo e=>k i2 (by simp) o e⟩
 item:=by
  intro X hP hw hK hc i G s Z H E I hf st hg;subst hP hw hK;obtain⟨hz,W,⟨u,v,q0⟩,h1,h2⟩:=st;obtain⟨xs,ys,x,y,ha,hb,hx,hy⟩:=hg;obtain⟨as,ra,pa,_⟩:=I.sq ha;obtain⟨bs,rb,pb,_⟩:=I.sq hb;obtain⟨ux,q8,rx⟩:=ra.get hx;obtain⟨uy,q9,ry⟩:=rb.get hy;refine pO (F.apart I hf ha hb) hz W q0 h1 h2 pa pb (by simpa using q8) (by simpa using q9) λh' a1 a2 a3 a4 a5 a6 hk=>?_;refine⟨_,rfl,wpAny_letOwnedTupleGo_zip a1 λq3 w3 U=>?_⟩;have q7:∀c o,c∉[z,TI,TO,i1,i2]->s.heap.get? c=some o->q3.get? c=some o:=λc o hc e=>by
   have q1:c≠z/\c≠TI/\c≠TO/\c≠i1/\c≠i2:=by simpa using hc
   exact U.extBut _ _ q1.1 (hk c o q1.1 q1.2.2.1 q1.2.2.2.1 q1.2.2.2.2 e)
  have tI:=U.extBut _ _ F.TIz (hk _ _ F.TIz F.TITO F.TIi1 F.TIi2 W);have tO:=U.extBut _ _ F.TOz a2;have I1:Inv X G Z (upd H s.heap.objs.size (.tup [x,y])) { s with heap:=q3 }:=by refine I.turnsNew hf q7 (λc hc=>?_) (Ap _) ⟨by show 2<=sizeLine;rw[Cb];decide,[ux,uy],.cons rx (.cons ry .nil),_,(U.extBut _ _ (BY (An hz)) a5),rfl,_,rfl⟩;rcases(by simpa using hc) with rfl|rfl|rfl|rfl|rfl;grind;grind;grind;obtain⟨o,e,_⟩:=(a3.at λo e=>U.extBut _ _ F.i1z e).obj;grind;obtain⟨o,e,_⟩:=(a4.at λo e=>U.extBut _ _ F.i2z e).obj;grind
  refine⟨.ref s.heap.objs.size,_,I1,rfl,⟨_,x,y,rfl,I.fresh,I.newK,rfl,λxs' w4 q5 q6=>?_⟩,⟨w3,tI,⟨_,_,tO⟩,(a3.at λo e=>U.extBut _ _ F.i1z e),(a4.at λo e=>U.extBut _ _ F.i2z e)⟩,λc hc=>?_⟩;rw[I.sq_inj q5 ha,I.sq_inj q6 hb];exact⟨hx,hy⟩;rw[aO (A8 ?_)];exact(hf c hc).1;obtain⟨o,e,_⟩:∃o,s.heap.get? c=some o/\True:=by rcases(by simpa using hc) with rfl|rfl|rfl|rfl|rfl;grind;grind;grind;obtain⟨o,e,_⟩:=h1.obj;grind;obtain⟨o,e,_⟩:=h2.obj;grind
  exact An e
 done:=by
  intro X hP hw hK hc i G s Z H E I hf st hg;subst hP hw hK;obtain⟨hz,W,⟨u,v,q0⟩,h1,h2⟩:=st;obtain⟨xs,ys,ha,hb,q4⟩:=hg;obtain⟨as,ra,pa,_⟩:=I.sq ha;obtain⟨bs,rb,pb,_⟩:=I.sq hb;have la:=ra.length;have lb:=rb.length;refine rF (I.ok.hd hc) (F.apart I hf ha hb) hz W q0 h1 h2 pa pb ?_ λh' hk=>⟨rfl,I.turns hf λc o hc e=>?_⟩
  rcases q4 with q|q;exact .inl (by simp;omega);exact .inr (by simp;omega);grind
 self:=λ_ _ _ _ _ st h=>GY st.1 h
noncomputable def aQd(K:Aq)(ta:TA):TI:=λZ H R=>ta Z H λvs H1=>∃(ka kb:Bool) (a b:Ah) (xs ys:List V),vs=[.ref a,.ref b]/\Sq ka K H1 a xs/\Sq kb K H1 b ys/\R (Itz K ka kb a b) H1
theorem aFz:BM "zip" = some (.type "zip"):=by kernel_rfl
theorem aFA(n:Nat):aIf (n+4) (n+2) (n+3) n (n+1) where
 TIz:=by simp
 TOz:=by simp
 i1z:=by simp
 i2z:=by simp
 TITO:=by simp
 TIi1:=by simp
 TIi2:=by simp
 TOi1:=by simp
 TOi2:=by simp
 i12:=by simp
theorem aKL{X:Cx}{a b:As}{ta:TA}{p pos:CB}{W:List As}{tk:Nat}{tp:CB}(hg:Gl X "zip")(hm:X.mg "zip" = none)(ha:PA X [a,b] ta)(hs:Bq [a,b] X.env=[(false,DD a X.env),(false,DD b X.env)])(q0:Bq [b] X.env=[(false,DD b X.env)]) :
 PI X (.Tuple W tk tp) (.Call (.Name "zip" p) [a,b] [] pos) (aQd X.K ta):=by
 intro G s Z H R I h;refine JK (fE I hg hm aFz (Bh (thn (ha pos G s Z H _ I h) λus s1 ⟨vs,H1,U,r1,q1⟩=>?_) (by rw[hs,q0]) (by rw[q0];rfl)));obtain⟨ka,kb,a1,b1,xs,ys,e,q1,q2,q⟩:=q1;subst e;cases r1 with
 | cons r rr=>
  cases rr with
  | cons r' rr=>
   cases rr;cases r;cases r';obtain⟨as,ra,pa,_⟩:=U.sq q1;obtain⟨bs,rb,pb,_⟩:=U.sq q2;refine aDJ pa pb λh' hz q3 q4 h1 h2 hsz hk=>GY hz ?_;refine⟨s1.heap.objs.size+4,_,_,_,H1,rfl,U.kept hk,aFy (aFA _),⟨hz,q3,⟨_,_,q4⟩,h1,h2⟩,λc hc=>?_,q⟩;have q5:c=s1.heap.objs.size+4\/c=s1.heap.objs.size+2\/c=s1.heap.objs.size+3\/c=s1.heap.objs.size\/c=s1.heap.objs.size+1:=by simpa using hc
   exact U.fpOk (by grind) (U.hok.fresh (by grind))
noncomputable def Its(x:Str):It:=⟨λi _=>i<x.cps.size,λi H v H'=>H'=H/\∃c,x.cps[i]? = some c/\v=.str ⟨#[c]⟩,λi _=>x.cps.size<=i⟩
theorem yX{P:Ay}{w:AJ}{K:Aq}{tg:As}{it:Ah}{x:Str}{t:HA}{ty:String}(hn:["enumerate", "zip", "dict_itemiterator", "dict_reverseitemiterator", "odict_iterator", "itertools.zip_longest", "itertools.pairwise"].contains ty=false)
 (W0:∀A':Bf,A'.handled=none->Walks P w A' it [it] [it] x.cps.size (SignAt x) (λi h=>h.IsStrIter it ty x t i))
 (S:∀(A:Bf) (i:Nat) (s:Ae) (Q:Ac->Ae->Prop) (E:Ac->Ae->Prop),s.heap.IsStrIter it ty x t i->Q (.ref it) s->Av (AC P w) A (Gh (.ref it)) Q E s):vL P w K tg (Its x) [it] it (λi h=>i<=x.cps.size/\h.IsStrIter it ty x t i) where
 mem:=by simp
 obj:=λi h st b U=>by
  have e:b=it:=by grind
  subst e;obtain⟨_,o,e,c,d⟩:=st;grind
 keep:=λi h h' st k=>by obtain⟨hi,o,e,c,d⟩:=st;exact⟨hi,o,k it (by simp) o e,c,d⟩
 item:=by intro X hP hw hK hc i G s Z H E I W st hg;subst hP hw hK;obtain⟨f0,f1,f2,f3,f4,f5⟩:=W it (by simp);refine(W0 X.A (I.ok.hd hc)).item i s _ _ hg st.2 λv h' tk hv q kk=>?_;obtain⟨c,u,q0,rfl⟩:=hv;obtain⟨o,e,oc,od⟩:=id q;exact⟨_,rfl,oY e oc od hn ⟨.str ⟨#[c]⟩,H,(I.turned (λb o U e=>kk b o (by grind) e) f0 f1 f3 f4 f5),⟨u,rfl⟩,⟨rfl,c,q0,rfl⟩,⟨hg,q⟩,λb U=>(W b U).1⟩⟩
 done:=by intro X hP hw hK hc i G s Z H E I W st hg;subst hP hw hK;obtain⟨f0,f1,f2,f3,f4,f5⟩:=W it (by simp);have e:=Nat.le_antisymm st.1 hg;subst e;exact(W0 X.A (I.ok.hd hc)).done s _ _ st.2 λh' tk eb=>⟨rfl,I.turned (λb o U e=>eb b o (by grind) e) f0 f1 f3 f4 f5⟩
 self:=λA i s Q E st h=>S A i s Q E st.2 h
theorem aKM{X:Cx}{tg l:As}{tl:TE}(hl:PE X l tl):PI X tg l (λZ H R=>tl Z H λx H1=>(∃a,x=.ref a/\(((∃xs,SqL X.K H1 a xs)/\R (Itl X.K a) H1)\/((∃xs,SqT X.K H1 a xs)/\R (Itt X.K a) H1)))\/∃z,x=.str z/\R (Its z) H1):=by
 intro G s Z H R I h;refine thn (hl G s Z H _ I h) λv s1 ⟨x,H1,U,r1,q1⟩=>?_;rcases q1 with⟨a,e,q⟩|⟨z,e,q⟩
 subst e;cases r1;rcases q with⟨⟨xs,hq⟩,q⟩|⟨⟨xs,hq⟩,q⟩
 obtain⟨q0,rv,p,hz⟩:=U.list hq;refine BO p.isList ?_;refine⟨s1.heap.objs.size,[s1.heap.objs.size],_,_,H1,rfl,U.kept λb o e=>Ab _ e,aDd a _,⟨_,Aj _ rfl,rfl,rfl⟩,λb W=>?_,q⟩;have e:b=s1.heap.objs.size:=by grind
 subst e;exact U.fpOk (Ap _) (U.hok.fresh (Ap _));obtain⟨q0,rv,p,hz⟩:=U.tuple hq;refine Gu (p) ?_;refine⟨s1.heap.objs.size,[s1.heap.objs.size],_,_,H1,rfl,U.kept λb o e=>Ab _ e,aAx a _,⟨_,Aj _ rfl,rfl,rfl⟩,λb W=>?_,q⟩;have e:b=s1.heap.objs.size:=by grind
 subst e;exact U.fpOk (Ap _) (U.hok.fresh (Ap _));subst e;obtain⟨t,rfl⟩:=r1;cases ha:z.cps.all (·<128) with
 | false=>
  refine wpAny_pyIter_wide ha ⟨s1.heap.objs.size,[s1.heap.objs.size],_,_,H1,rfl,U.kept λb o e=>Ab _ e,yX (by decide) (λA' hA=>Walks.strWide hA _ z t) (λA i s Q E st h=>wpAny_pyIter_striter_wide st h),⟨Bw _,_,Aj _ rfl,rfl,rfl⟩,λb W=>?_,q⟩;have e:b=s1.heap.objs.size:=by simpa using W
  subst e;exact U.fpOk (Ap _) (U.hok.fresh (Ap _))
 | true=>
  refine wpAny_pyIter_ascii ha ⟨s1.heap.objs.size,[s1.heap.objs.size],_,_,H1,rfl,U.kept λb o e=>Ab _ e,yX (by decide) (λA' hA=>Walks.strAscii hA _ z t) (λA i s Q E st h=>wpAny_pyIter_striter_ascii st h),⟨Bw _,_,Aj _ rfl,rfl,rfl⟩,λb W=>?_,q⟩;have e:b=s1.heap.objs.size:=by grind
  subst e;exact U.fpOk (Ap _) (U.hok.fresh (Ap _))
section
variable {prog:Ay} {w:AJ} {A:Bf} {E:Ac->Ae->Prop} {s:Ae}
theorem aFB{k:Bool}{e it l:Ah}{i:Nat}{xs:Array Ac}{x J:Ac}{Q:Ac->Ae->Prop}(he:GZ s.heap e it i J)(q1:eH k s.heap it l i)(hl:fU k s.heap l xs)(hx:xs[i]? = some x)(q:e≠it)
 (hQ:∀h',IsEnumOut h' e it ((i:Int)+1) x s.heap.objs.size->eH k h' it l (i+1)->h'.get? s.heap.objs.size=some { cls:=.type "tuple",data:=.seq #[.int i s.toks,x] }->h'.objs.size=s.heap.objs.size+1 ->
  (∀b o,b≠e->b≠it->s.heap.get? b=some o->h'.get? b=some o)->Q (.ref s.heap.objs.size) { s with heap:=h',toks:=s.toks+1 }) :
 Av (AC prog w) A (Cz.«enumerate.__next__» ⟨[.ref e],[]⟩) (λq0 s'=>∃v,q0=.done (.ret v)/\Q v s') E s:=by
 obtain⟨hp,g,d,tk,os⟩:=s;refine Aa (m:=GD (.ref e) 2) (Bk he rfl (x:=.ref it) rfl (Aa (gY q1 hl hx λh1 i1 s1=>?_)));have e1:GZ h1 e it i J:=(s1.2 e q).trans he;refine Aa (Bk e1 rfl (x:=Ca i) rfl (Aa (Bk e1 rfl (x:=.none) rfl (Aa (m:=mkInt i) (wpAny_mkInt ?_)))));refine Aa (AW e1 (by simp) λh2 e2 s2=>?_);refine Aa (AW e2 (by simp) λh3 e3 s3=>?_);refine Aa (Ib ?_);have W:GZ (h3.push { cls:=.type "tuple",data:=.seq #[.int i tk,x] }) e it ((i:Int)+1) J:=Ab _ e3;generalize q4:h3.push { cls:=.type "tuple",data:=.seq #[.int i tk,x] }=h4 at W;have z3:h3.objs.size=hp.objs.size:=by rw[s3.1,s2.1,s1.1]
 have z4:h4.objs.size=hp.objs.size+1:=by rw[<-q4,Bo,z3]
 have k4:∀b o,b≠e->b≠it->hp.get? b=some o->h4.get? b=some o:=λb o U n2 I=>by rw[<-q4];exact Ab _ (s3.extBut b o U (s2.extBut b o U (s1.extBut b o n2 I)))
 rw[z3];refine Aa ?_;unfold Bu;refine Aa (Bk W rfl (x:=.none) rfl (Af ?_));simp only[if_true];refine Aa (Di (Aa (Bk W rfl (x:=J) rfl (Aa (AW W (by simp) λh5 e5 s5=>?_)))));refine Aa ?_;unfold Cm;refine Aa (AW e5 (by simp) λh6 e6 s6=>?_);refine AW e6 (by simp) λh7 e7 s7=>?_;have up:∀b o,b≠e->h4.get? b=some o->h7.get? b=some o:=λb o n I=>s7.extBut _ _ n (s6.extBut _ _ n (s5.extBut _ _ n I));exact Aa (Dj (Af ⟨_,rfl,hQ h7 e7 ((i1.at λo ho=>by rw[<-q4];exact Ab _ (s3.extBut _ _ q.symm (s2.extBut _ _ q.symm ho))).at λo ho=>up _ _ q.symm ho) (up _ _ (BY (An he)) (by rw[<-q4,<-z3];exact Aj _ rfl)) (by rw[s7.1,s6.1,s5.1,z4]) λb o U n2 I=>up b o U (k4 b o U n2 I)⟩))
theorem yY{k:Bool}{e it l:Ah}{i:Nat}{xs:Array Ac}{x J:Ac}{Q:Option Ac->Ae->Prop}(q:GZ s.heap e it i J)(I:eH k s.heap it l i)(hl:fU k s.heap l xs)(hx:xs[i]? = some x)(U:e≠it)
 (W:∀h',IsEnumOut h' e it ((i:Int)+1) x s.heap.objs.size->eH k h' it l (i+1)->h'.get? s.heap.objs.size=some { cls:=.type "tuple",data:=.seq #[.int i s.toks,x] }->h'.objs.size=s.heap.objs.size+1 ->
  (∀b o,b≠e->b≠it->s.heap.get? b=some o->h'.get? b=some o)->Q (some (.ref s.heap.objs.size)) { s with heap:=h',toks:=s.toks+1 }):Av (AC prog w) A (CY (.ref e)) Q E s:=by unfold CY;exact Aa (Dz (Ba (⟨_,q,rfl⟩) Da (Bb Da (⟨_,q,rfl⟩) Fq (aFB q I hl hx U λh' a b c d k=>Af (W h' a b c d k)) (EV _))))
theorem aAP{k:Bool}{e it l:Ah}{i:Nat}{xs:Array Ac}{J:Ac}{Q:Option Ac->Ae->Prop}(hh:A.handled=none)(I:GZ s.heap e it i J)(q:eH k s.heap it l i)(hl:fU k s.heap l xs)(hx:xs[i]? = none)
 (U:∀h',DZ it s.heap h'->Q none { s with heap:=h' }):Av (AC prog w) A (CY (.ref e)) Q E s:=by
 have T:s.TypeIs (.ref e) "enumerate" := ⟨_,I,rfl⟩
 unfold CY;refine Aa (Dz (Ba T Da (Bb Da T Fq ?_ (EV _))));refine Aa (m:=GD (.ref e) 2) (Bk I rfl rfl (Aa (lW hh q hl hx λh' x g ⟨o,ho,W⟩=>?_)));exact Aa (Cs ⟨o,ho,W⟩ FL (Af (U _ g)))
end
noncomputable def aFC(it:Ah):Obj:={ cls:=.type "enumerate",data:=.fields #[.none,.bool false,.ref it,Ca 0,.none,.none] }
theorem aDK(k:Bool)(l:Ah)(xs:Array Ac)(W:Obj):Meets (Cz.«enumerate.__new__» ⟨[.type "enumerate",.ref l],[]⟩) (λ_ R s=>s.heap.get? l=some W/\fU k s.heap l xs /\
 R (.ok (.ret (.ref (s.heap.push (lI k l)).objs.size))) { s with heap:=(s.heap.push (lI k l)).push (aFC s.heap.objs.size) }):=
 .of_wp λprog w A R s h=>by
  obtain⟨hp,g,d,tk,os⟩:=s;obtain⟨q,I,h⟩:=h;have U:=sub_enumerate
  wp_walk using CI q
  refine wpAny_stack_any λst=>Af ?_;split;rename_i c _ _ _ _ _;cases(c==Eu "enumerate") <;> (wp_walk using CI q,kL I;exact⟨_,rfl,h⟩)
  . wp_walk using CI q,kL I
    exact⟨_,rfl,h⟩
theorem aFD{prog:Ay}{w:AJ}{A:Bf}{E:Ac->Ae->Prop}{s:Ae}{k:Bool}{l:Ah}{xs:Array Ac}{Q:Ac->Ae->Prop}(I:fU k s.heap l xs)
 (h:∀h',GZ h' (s.heap.objs.size+1) s.heap.objs.size 0 .none->eH k h' s.heap.objs.size l 0->(∀b o,s.heap.get? b=some o->h'.get? b=some o)->Q (.ref (s.heap.objs.size+1)) { s with heap:=h' }) :
 Av (AC prog w) A (call (.type "enumerate") [.ref l]) Q E s:=by
 obtain⟨U,W⟩:∃U,s.heap.get? l=some U:=by
  cases k with
  | true=>obtain⟨o,e,_⟩:=I;grind|false=>obtain⟨o,e,_⟩:=I;grind
 refine Jb F.called_enumerate (by decide) (F.typeCall_enumerate_1 _) (F.newCall_enumerate_1 _) (λobj=>F.args_object_init_2 obj _) F.entry_enumerate_new (aDK k l xs U) ⟨W,I,?_⟩;have q:((s.heap.push (lI k l)).push (aFC s.heap.objs.size)).get? (s.heap.push (lI k l)).objs.size=some (aFC s.heap.objs.size):=Aj _ rfl;show _/\_;rw[(Bo ..)] at q ⊢;exact⟨⟨_,q,rfl⟩,h _ q (rG (Ab _ (Aj _ (by cases k <;> rfl)))) λb o x=>Ab _ (Ab _ x)⟩
noncomputable def Ite(K:Aq)(k:Bool)(a:Ah):It:=
 ⟨λi H=>∃xs x,Sq k K H a xs/\xs[i]? = some x,
  λi H v H'=>∃p x,v=.ref p/\H p=none/\K.lookup p=none/\H'=upd H p (.tup [.int i,x])/\∀xs,Sq k K H a xs->xs[i]? = some x,
  λi H=>∃xs,Sq k K H a xs/\xs.length<=i⟩
theorem aIg{P:Ay}{w:AJ}{K:Aq}{k:Bool}{q2:List As}{tk:Nat}{tp:CB}{e it a:Ah}(ne:e≠it) :
 vL P w K (.Tuple q2 tk tp) (Ite K k a) [e,it] e (λi h=>(∃J,GZ h e it i J)/\eH k h it a i) where
 mem:=by simp
 obj:=λi h st c W=>by
  obtain⟨⟨J,he⟩,h1⟩:=st;have U:c=e\/c=it:=by grind
  rcases U with rfl|rfl;grind;exact h1.obj
 keep:=λi h h' st kp=>by obtain⟨⟨J,he⟩,h1⟩:=st;exact⟨⟨J,kp e (by simp) _ he⟩,h1.at λo q=>kp it (by simp) o q⟩
 item:=by
  intro X hP hw hK W i G s Z H E I hf st hg;subst hP hw hK;obtain⟨⟨J,he⟩,h1⟩:=st;obtain⟨xs,x,ha,hx⟩:=hg;obtain⟨as,ra,pa,_⟩:=I.sq ha;obtain⟨ux,q5,rx⟩:=ra.get hx;refine yY he h1 pa (by simpa using q5) ne λh' a1 a2 a3 a4 hk=>?_;refine⟨_,rfl,wpAny_letOwnedTupleGo_enum a1 λq0 e' q1=>?_⟩;have q4:∀c o,c∉[e,it]->s.heap.get? c=some o->q0.get? c=some o:=λc o W q=>by
   have U:c≠e/\c≠it:=by grind
   exact q1.extBut _ _ U.1 (hk c o U.1 U.2 q)
  have t1:eH k q0 it a (i+1):=a2.at λo q=>q1.extBut _ _ ne.symm q;have I1:Inv X G Z (upd H s.heap.objs.size (.tup [.int i,x])) { s with heap:=q0,toks:=s.toks+1 }:=by
   refine I.turnsNew hf q4 (λc W=>?_) (Ap _) ⟨by show 2<=sizeLine;rw[Cb];decide,[.int i s.toks,ux],.cons ⟨_,rfl⟩ (.cons rx .nil),_,(q1.extBut _ _ (BY (An he)) a3),rfl,_,rfl⟩;have U:c=e\/c=it:=by grind
   rcases U with rfl|rfl;grind;obtain⟨o,q,_⟩:=t1.obj;grind
  refine⟨.ref s.heap.objs.size,_,I1,rfl,⟨_,x,rfl,I.fresh,I.newK,rfl,λxs' q3=>?_⟩,⟨⟨_,e'⟩,t1⟩,λc W=>?_⟩;rw[I.sq_inj q3 ha];exact hx;rw[aO (A8 ?_)];exact(hf c W).1;have U:c=e\/c=it:=by simpa using W
  rcases U with rfl|rfl;exact An he;obtain⟨o,q,_⟩:=h1.obj;exact An q
 done:=by
  intro X hP hw hK W i G s Z H E I hf st hg;subst hP hw hK;obtain⟨⟨J,he⟩,h1⟩:=st;obtain⟨xs,ha,q6⟩:=hg;obtain⟨as,ra,pa,_⟩:=I.sq ha;have la:=ra.length;refine aAP (I.ok.hd W) he h1 pa (by simp;omega) λh' hk=>⟨rfl,I.turns hf λc o W q=>hk c o ?_ q⟩
  grind
 self:=λ_ _ _ _ _ st h=>let ⟨_,q⟩:=st.1;GH q h
noncomputable def iEn(K:Aq)(ta:TA):TI:=λZ H R=>ta Z H λvs H1=>∃(k:Bool) (a:Ah) (xs:List V),vs=[.ref a]/\Sq k K H1 a xs/\R (Ite K k a) H1
theorem aDL:BM "enumerate" = some (.type "enumerate"):=by kernel_rfl
theorem aIh{X:Cx}{a:As}{ta:TA}{p pos:CB}{U:List As}{tk:Nat}{tp:CB}(hg:Gl X "enumerate")(hm:X.mg "enumerate" = none)(ha:PA X [a] ta)(hs:Bq [a] X.env=[(false,DD a X.env)]) :
 PI X (.Tuple U tk tp) (.Call (.Name "enumerate" p) [a] [] pos) (iEn X.K ta):=by
 intro G s Z H R I h;refine JK (fE I hg hm aDL (Bh (thn (ha pos G s Z H _ I h) λus s1 ⟨vs,H1,W,r1,q1⟩=>?_) (by rw[hs];rfl) rfl));obtain⟨k,a1,xs,e,q1,q⟩:=q1;subst e;cases r1 with
 | cons r rr=>
  cases rr;cases r;obtain⟨as,ra,pa,_⟩:=W.sq q1;refine aFD pa λh' he h1 hk=>GH he ?_;refine⟨s1.heap.objs.size+1,_,_,_,H1,rfl,W.kept hk,aIg (DT _),⟨⟨_,he⟩,h1⟩,λc hc=>?_,q⟩;have q0:c=s1.heap.objs.size+1\/c=s1.heap.objs.size:=by simpa using hc
  exact W.fpOk (by grind) (W.hok.fresh (by grind))
end L2
namespace Hp
open PySem PySem.Spec PyProof.Rows L2
theorem Kp.refl(R:Ah->Prop)(H:Hp):Kp R H H:=λ_ _ h _=>h
theorem Kp.same{R:Ah->Prop}{H H':Hp}(s:aQ H H'):Kp R H H':=λa o h _=>s a o h
section
variable {K:Fg} {RT Y J R:Ah->Prop} {Z:Sg} {ZV:L2.St} {H H':Hp}
theorem Kp.seqL(k:Kp R H H'){a:Ah}{xs:List V}(n:¬ R a)(h:SqL K H a xs):SqL K H' a xs:=by rcases h with(h|⟨o,h⟩)|h;exact .inl (.inl (k _ _ h n));exact .inl (.inr ⟨o,k _ _ h n⟩);exact .inr h
theorem Kp.seqT(k:Kp R H H')(U:∀a,R a->RtO H a){a:Ah}{xs:List V}(h:SqT K H a xs):SqT K H' a xs:=by
 have I:∀{o:HO},H a=some o->(∀ys,o≠.lst ys)->(∀φ,o≠.ext φ)->¬ R a:=λ{o} e W n2 z=>by
  rcases U a z with⟨ys,q⟩|⟨ys,q⟩
  rw[e] at q;grind;grind
 rcases h with(h|⟨o,h⟩)|h;exact .inl (.inl (k _ _ h (I h (λ_ z=>by cases z) λ_ z=>by cases z)));exact .inl (.inr ⟨o,k _ _ h (I h (λ_ z=>by cases z) λ_ z=>by cases z)⟩);exact .inr h
theorem Reps.kp{ex:Ah->Prop}{ds:List D}{xs:List V}(r:Reps K H ex ds xs)(k:Kp R H H')(I:∀a,R a->RtO H a)(hx:∀a,R a->ex a):Reps K H' ex ds xs:=
 r.keep λa o e U W=>k a o e λz=>by
  rcases I a z with⟨ys,q⟩|⟨ys,q⟩
  rw[e] at q;grind;grind
theorem Rep.kp{ex:Ah->Prop}{d:D}{x:V}(r:Rep K H ex d x)(k:Kp R H H')(I:∀a,R a->RtO H a)(hx:∀a,R a->ex a):Rep K H' ex d x:=
 r.keep λa o e U W=>k a o e λz=>by
  rcases I a z with⟨ys,q⟩|⟨ys,q⟩
  rw[e] at q;grind;grind
noncomputable def rtF(RT:Ah->Prop)(Z:Sg)(ZV:L2.St)(al:List Nat)(a:Ah):Prop:=RT a/\¬ alR Z ZV al a
theorem fG:∀(al:List Nat) (Z:Sg) (i:Nat),(freeze Z al)[i]? = (Z[i]?).map λs=>if i∈al then s.freeze else s
 | [],Z,i=>by cases q:Z[i]? <;> simp[freeze,q]|j::al,Z,i=>by
  rw[freeze,fG al];cases U:Z[j]? with
  | none=>grind|some W=>simp only;by_cases I:i=j;subst I;rw[AE ((Ao.mp U).1),U];simp only[ AA,true_or];split;cases W <;> rfl;rfl;grind
theorem rH:∀(al:List Nat) (Z:Sg),(freeze Z al).length=Z.length
 | [],Z=>rfl|j::al,Z=>by rw[freeze,rH al];split;rw[Az];rfl
theorem freeze_sh{al:List Nat}{i:Nat}{pa:Bool}{d:D}(h:(freeze Z al)[i]? = some (.sh pa d)):Z[i]? = some (.sh pa d)\/∃ds,i∈al/\Z[i]? = some (.own pa ds)/\d=.lst ds:=by
 rw[fG] at h;cases q:Z[i]? with
 | none=>rw[q] at h;cases h|some s=>
  rw[q] at h;have h:(if i∈al then s.freeze else s)=.sh pa d:=AF h;split at h;rename_i hi;cases s with
  | dead=>cases h|sh pa' I=>cases h;exact .inl rfl|own pa' ds'=>cases h;grind|dct _=>cases h|two _=>cases h
  exact .inl (by rw[h])
theorem fH{al:List Nat}{i:Nat}{pa:Bool}{ds:List D}(h:(freeze Z al)[i]? = some (.own pa ds)):Z[i]? = some (.own pa ds)/\i∉al:=by
 rw[fG] at h;cases q:Z[i]? with
 | none=>rw[q] at h;cases h|some s=>rw[q] at h;have h:=AF h;split at h;cases s <;> cases h;grind
theorem aDM{al:List Nat}{i:Nat}{I:List D×List D}(h:(freeze Z al)[i]? = some (.two I)):Z[i]? = some (.two I):=by
 rw[fG] at h;cases q:Z[i]? with
 | none=>rw[q] at h;cases h|some s=>
  rw[q] at h;have h:(if i∈al then s.freeze else s)=.two I:=AF h;split at h;cases s with
  | two d=>exact congrArg some h|_=>cases h
  rw[h]
theorem aAQ{al:List Nat}{i:Nat}{ds:List (NK×D)}(h:(freeze Z al)[i]? = some (.dct ds)):Z[i]? = some (.dct ds):=by
 rw[fG] at h;cases q:Z[i]? with
 | none=>rw[q] at h;cases h|some s=>
  rw[q] at h;have h:(if i∈al then s.freeze else s)=.dct ds:=AF h;split at h;cases s with
  | dct d=>exact congrArg some h|_=>cases h
  rw[h]
theorem Sx.frz(S:Sx K RT Y J Z ZV H)(al:List Nat):Sx K (rtF RT Z ZV al) Y J (freeze Z al) ZV H where
 sh:=λi pa d h=>by
  rcases freeze_sh h with h|⟨ds,hi,ho,e⟩
  obtain⟨v,h1,h2⟩:=S.sh i pa d h;exact⟨v,h1,h2.weak λa z=>z.elim (λz=>.inl z.1) .inr⟩;subst e;obtain⟨a,xs,h1,h2,U,I,h5⟩:=S.own i pa ds ho;refine⟨.ref a,h1,a,xs,rfl,SqL.of h2,?_,h5.weak λa z=>z.elim (λz=>.inl z.1) .inr⟩;rintro (z|z|⟨_,z⟩);exact z.2 ⟨i,hi,⟨pa,ds,ho⟩,h1⟩;exact I (S.yo a z);exact I z
 own:=λi pa ds h=>by obtain⟨h,hi⟩:=fH h;obtain⟨a,xs,h1,h2,U,I,h5⟩:=S.own i pa ds h;refine⟨a,xs,h1,h2,⟨U,?_⟩,I,h5.weak λa z=>z.elim (λz=>.inl z.1) .inr⟩;rintro ⟨j,hj,⟨pa',ds',q⟩,W⟩;have:=S.inj i j pa pa' ds ds' a h q h1 W;grind
 trk:=λa z=>S.trk a (z.elim (λz=>.inl z.1) .inr)
 yo:=S.yo
 tk:=S.tk
 rt:=λa z=>S.rt a z.1
 inj:=λi j pa pa' ds ds' a h1 h2 U I=>S.inj i j pa pa' ds ds' a (fH h1).1 (fH h2).1 U I
 len:=by rw[rH];exact S.len
 dx:=S.dx.imp id (λ_ _ e=>⟨aAQ e,rfl⟩) (λ_ _ _ _ _ _ e=>e) (λa xs e z o=>⟨e,z,λ⟨j,_,⟨pa,ds,q⟩,W⟩=>by
  obtain⟨b,ys,h1,h2,U,I,h5⟩:=S.own j pa ds q;rw[W] at h1;grind⟩) (λ_ _ r=>r) (λ_ _ e=>⟨aDM e,rfl⟩) (λ_ _ _ _ _ _ e=>e) λp xs e z=>⟨e,⟨z.1,λ⟨j,_,⟨pa,ds,q⟩,W⟩=>z.2.2 j pa ds q W⟩,z.2.1,λk pa ds q=>z.2.2 k pa ds (fH q).1⟩
theorem Tk.new{p:Ah}{o:HO}(t:Tk K H)(h:K.lookup p=none):Tk K (upd H p o):=λb q=>by by_cases e:b=p;rw[e];exact h;rw[aO e] at q;exact t b q
noncomputable def Nw(K:Fg)(H:Hp)(a:Ah):Prop:=H a=none/\K.lookup a=none
theorem aIi{a:Ah}{xs:List V}(q:SqL K H a xs):¬ Nw K H a:=by
 rintro ⟨n,k⟩;rcases q with(q|⟨o,q⟩)|⟨o,I,m,q,_⟩
 rw[n] at q;cases q;rw[n] at q;cases q;grind
theorem Reps.outN{ex:Ah->Prop}{d:List D}{v:List V}(h:Reps K H ex d v):Reps K H (λb=>ex b\/Nw K H b) d v:=
 Reps.imp (λ_ _ q=>q) (λb xs I q=>⟨λz=>z.elim I (aIi q),q⟩) d v h
theorem RvN.sub{ex:Ah->Prop}{v:Vl}{d:D}{x:V}(h:Rep K H' (λa=>exV RT Y J Z ZV v.pa v.al a\/ex a) d x):Rep K H' (λa=>exV RT Y J Z ZV (v.sub d).pa (v.sub d).al a\/ex a) (v.sub d).d x:=by unfold Vl.sub;by_cases q:noL d=true;rw[if_pos q];exact Rep.free d x q h;rw[if_neg q];exact h
structure yZ (K:Fg) (RT Y J:Ah->Prop) (Z:Sg) (ZV:L2.St) (H1:Hp) (J'':L2.It) (xs:List Vl) (al:List Nat):Prop where
 sub:∀v∈xs,∀j∈v.al,j∈al
 nofr:∀v∈xs,v.fr=false
 ok:∀(R:Ah->Prop),(∀b,R b->rtF RT Z ZV al b)->∀(i:Nat) (H:Hp),Kp R H1 H->(i<xs.length->J''.go i H)/\(xs.length<=i->J''.stop i H)/\∀x H',J''.yld i H x H'->∀v,xs[i]? = some v->aQ H H'/\(Tk K H->Tk K H')/\Rep K H' (λa=>exV RT Y J Z ZV v.pa v.al a\/Nw K H1 a) v.d x
theorem wH{v:Vl}{d:D}:∀j∈(v.sub d).al,j∈v.al:=by unfold Vl.sub Vl.cl;grind
theorem rJ{v:Vl}{d:D}:(v.sub d).fr=false:=by unfold Vl.sub Vl.cl;split <;> rfl
theorem kM{x:Vl}{ds:List D}{i:Nat}{v:Vl}(h:(items x ds)[i]? = some v):∃d,ds[i]? = some d/\v=x.sub d:=by
 unfold items at h;rw[A7] at h;cases q:ds[i]? with
 | none=>rw[q] at h;cases h|some d=>rw[q] at h;grind
theorem jP{al:List Nat}{pa:Bool}{b:Ah}(h:rtF RT Z ZV al b):exV RT Y J Z ZV pa al b:=.inl h
theorem pG:∀(as bs:List D),(fR as bs).length=min as.length bs.length
 | [],_=>by simp[fR]|_::_,[]=>by simp[fR]|_::as,_::bs=>by rw[fR,lC,pG as bs,lC,lC];omega
theorem zA:∀{as bs:List D} {i:Nat} {a b:D},as[i]? = some a->bs[i]? = some b->(fR as bs)[i]? = some (.tup [a,b])
 | [],_,_,_,_,h,_=>by simp at h|_::_,[],_,_,_,_,h=>by simp at h|_::_,_::_,0,_,_,h,h'=>by simp at h h';subst h h';rfl|_::as,_::bs,i+1,a,b,h,h'=>by have:=zA (by simpa using h) (by simpa using h');simpa[fR] using this
theorem aIj(S:Sx K RT Y J Z ZV H){x:Vl}{ds:List D}{a:Ah}{xs:List V}(q:SqL K H a xs)(n:¬ exV RT Y J Z ZV x.pa x.al a)(r:Reps K H (exV RT Y J Z ZV x.pa x.al) ds xs) :
 yZ K RT Y J Z ZV H (Itl K a) (items x ds) x.al where
 sub:=λv I j hj=>by obtain⟨d,_,e⟩:=AH.mp I;subst e;exact wH j hj
 nofr:=λv I=>by obtain⟨d,_,e⟩:=AH.mp I;subst e;exact rJ
 ok:=λR W i H1 k=>by
  have q1:=k.seqL (λz=>n (jP (W a z))) q;have hl:(items x ds).length=xs.length:=by unfold items;rw[lM,r.length]
  refine⟨λhi=>⟨xs,xs[i]'(by omega),q1,Ad (by omega)⟩,λhi=>⟨xs,q1,by omega⟩,λy H' hy v I=>?_⟩;obtain⟨e,hy⟩:=hy;subst e;obtain⟨d,hd,e⟩:=kM I;subst e;obtain⟨y',U,ry⟩:=(r.outN.kp k (λb z=>S.rt b (W b z).1) λb z=>.inl (jP (W b z))).get hd;rw[hy xs q1] at U;cases U;exact⟨aQ.refl _,id,RvN.sub ry⟩
theorem aKN(S:Sx K RT Y J Z ZV H){x:Vl}{ds:List D}{a:Ah}{xs:List V}(q:SqT K H a xs)(r:Reps K H (exV RT Y J Z ZV x.pa x.al) ds xs) :
 yZ K RT Y J Z ZV H (Itt K a) (items x ds) x.al where
 sub:=λv I j hj=>by obtain⟨d,_,e⟩:=AH.mp I;subst e;exact wH j hj
 nofr:=λv I=>by obtain⟨d,_,e⟩:=AH.mp I;subst e;exact rJ
 ok:=λR W i H1 k=>by
  have q1:=k.seqT (λb z=>S.rt b (W b z).1) q;have hl:(items x ds).length=xs.length:=by unfold items;rw[lM,r.length]
  refine⟨λhi=>⟨xs,xs[i]'(by omega),q1,Ad (by omega)⟩,λhi=>⟨xs,q1,by omega⟩,λy H' hy v I=>?_⟩;obtain⟨e,hy⟩:=hy;subst e;obtain⟨d,hd,e⟩:=kM I;subst e;obtain⟨y',U,ry⟩:=(r.outN.kp k (λb z=>S.rt b (W b z).1) λb z=>.inl (jP (W b z))).get hd;rw[hy xs q1] at U;cases U;exact⟨aQ.refl _,id,RvN.sub ry⟩
theorem aFE{lo:Int}{m:Nat}{xs:List Vl}(I:xs=((Ar m).map λ(k:Nat)=>Vl.cl (.int (lo+(k:Int))))):yZ K RT Y J Z ZV H (Itr lo m) xs [] where
 sub:=λv q j W=>by subst I;obtain⟨d,_,e⟩:=AH.mp q;subst e;exact W
 nofr:=λv q=>by subst I;obtain⟨d,_,e⟩:=AH.mp q;subst e;rfl
 ok:=λR hR i H1 k=>by
  have hl:xs.length=m:=by rw[I,lM,AS]
  refine⟨λhi=>(show i<m by omega),λhi=>(show m<=i by omega),λy H' U v q=>?_⟩;obtain⟨e,U⟩:=U;subst e U;subst I;rw[A7] at q;have hi:i<m:=by have:=(Ao.mp (show((Ar m).map λ(k:Nat)=>Vl.cl (.int (lo+(k:Int))))[i]? = some v by rw[A7];exact q)).1;simpa using this
  rw[El hi] at q;cases q;exact⟨aQ.refl _,id,rfl⟩
theorem aKO{z:Str}{xs:List Vl}(I:xs=(z.cps.toList.map λn=>Vl.cl (.str ⟨#[n]⟩))):yZ K RT Y J Z ZV H (Its z) xs [] where
 sub:=λv q j hj=>by subst I;obtain⟨d,_,e⟩:=AH.mp q;subst e;exact hj
 nofr:=λv q=>by subst I;obtain⟨d,_,e⟩:=AH.mp q;subst e;rfl
 ok:=λR hR i H1 k=>by
  have hl:xs.length=z.cps.size:=by rw[I,lM,B3]
  refine⟨λhi=>(show i<z.cps.size by omega),λhi=>(show z.cps.size<=i by omega),λy H' U v q=>?_⟩;obtain⟨e,c,W,U⟩:=U;subst e U;subst I;rw[A7,BV,W] at q;cases q;exact⟨aQ.refl _,id,rfl⟩
theorem aKP(S:Sx K RT Y J Z ZV H){ka kb:Bool}{as bs:List D}{a b:Ah}{xs ys:List V}{pa:Bool}{al:List Nat}(qa:Sq ka K H a xs)(qb:Sq kb K H b ys)(na:ka=true->¬ exV RT Y J Z ZV pa al a)(nb:kb=true->¬ exV RT Y J Z ZV pa al b)
 (ra:Reps K H (exV RT Y J Z ZV pa al) as xs) (rb:Reps K H (exV RT Y J Z ZV pa al) bs ys):yZ K RT Y J Z ZV H (Itz K ka kb a b) (items ⟨.non,false,pa,al⟩ (fR as bs)) al where
 sub:=λv hv j hj=>by obtain⟨d,_,e⟩:=AH.mp hv;subst e;exact wH j hj
 nofr:=λv hv=>by obtain⟨d,_,e⟩:=AH.mp hv;subst e;exact rJ
 ok:=λR W i H1 k=>by
  have keep:∀{kk:Bool} {c:Ah} {zs:List V},(kk=true->¬ exV RT Y J Z ZV pa al c)->Sq kk K H c zs->Sq kk K H1 c zs:=by
   intro kk c zs nn q;cases kk with
   | true=>exact k.seqL (λz=>nn rfl (jP (W c z))) q|false=>exact k.seqT (λb z=>S.rt b (W b z).1) q
  have I:=keep na qa;have U:=keep nb qb;have hl:(items ⟨.non,false,pa,al⟩ (fR as bs)).length=min xs.length ys.length:=by unfold items;rw[lM,pG,ra.length,rb.length]
  refine⟨λhi=>?_,λhi=>⟨xs,ys,I,U,by omega⟩,λy H' hy v hv=>?_⟩;have h1:i<xs.length:=by omega
  exact⟨xs,ys,xs[i],ys[i],I,U,Ad h1,Ad (by omega)⟩;obtain⟨p,x,y',rfl,hp,hk,rfl,hh⟩:=hy;obtain⟨hx,hy⟩:=hh xs ys I U;obtain⟨d,hd,e⟩:=kM hv;subst e;obtain⟨d1,q0,q2⟩:=(ra.outN.kp k (λb z=>S.rt b (W b z).1) λb z=>.inl (jP (W b z))).get' hx;obtain⟨d2,q1,q3⟩:=(rb.outN.kp k (λb z=>S.rt b (W b z).1) λb z=>.inl (jP (W b z))).get' hy;rw[zA q0 q1] at hd;cases hd;exact⟨(aQ.new hp),λtk=>tk.new hk,RvN.sub (⟨p,[x,y'],rfl,SqT.of bD,.cons (q2.grow (aQ.new hp)) (.cons (q3.grow (aQ.new hp)) .nil)⟩)⟩
theorem mT:∀(as:List D) (j:Int),(iJ j as).length=as.length
 | [],_=>rfl|_::as,j=>by rw[iJ,lC,mT as,lC]
theorem uL:∀{as:List D} {i:Nat} {j:Int} {a:D},as[i]? = some a->(iJ j as)[i]? = some (.tup [.int (j+(i:Int)),a])
 | [],_,_,_,h=>by simp at h|_::_,0,j,_,h=>by simp at h;subst h;simp[iJ]|_::as,i+1,j,a,h=>by have:=uL (j:=j+1) (by simpa using h);rw[iJ,gS,this];grind
theorem aIk(S:Sx K RT Y J Z ZV H){k:Bool}{as:List D}{a:Ah}{xs:List V}{x:Vl}(qa:Sq k K H a xs)(na:k=true->¬ exV RT Y J Z ZV x.pa x.al a)(ra:Reps K H (exV RT Y J Z ZV x.pa x.al) as xs) :
 yZ K RT Y J Z ZV H (Ite K k a) (items x (iJ 0 as)) x.al where
 sub:=λv I j hj=>by obtain⟨d,_,e⟩:=AH.mp I;subst e;exact wH j hj
 nofr:=λv I=>by obtain⟨d,_,e⟩:=AH.mp I;subst e;exact rJ
 ok:=λR U i H1 kp=>by
  have q:Sq k K H1 a xs:=by
   cases k with
   | true=>exact kp.seqL (λz=>na rfl (jP (U a z))) qa|false=>exact kp.seqT (λb z=>S.rt b (U b z).1) qa
  have hl:(items x (iJ 0 as)).length=xs.length:=by unfold items;rw[lM,mT,ra.length]
  refine⟨λhi=>⟨xs,xs[i]'(by omega),q,Ad (by omega)⟩,λhi=>⟨xs,q,by omega⟩,λy H' hy v I=>?_⟩;obtain⟨p,z,rfl,hp,hk,rfl,hh⟩:=hy;obtain⟨d,hd,e⟩:=kM I;subst e;obtain⟨d1,W,q0⟩:=(ra.outN.kp kp (λb z=>S.rt b (U b z).1) λb z=>.inl (jP (U b z))).get' (hh xs q);rw[uL W,Jc] at hd;cases hd;exact⟨(aQ.new hp),λtk=>tk.new hk,RvN.sub (⟨p,[.int i,z],rfl,SqT.of bD,.cons rfl (.cons (q0.grow (aQ.new hp)) .nil)⟩)⟩
end
section
variable {X:Cx} {P:Pg} {Γ:Ct} {n:Nat} {RT Y J:Ah->Prop} {Z:Sg} {tg:As}
noncomputable def wI(X:Cx)(P:Pg)(n:Nat)(RT Y J:Ah->Prop)(Z:Sg)(it:Hp.It):TI:=λZV H R=>Sx X.K RT Y J Z ZV H/\RE (walk P (call P n) Z it) λxs=>∀J'' H1,Tk X.K H1->aQ H H1->yZ X.K RT Y J Z ZV H1 J'' xs.1 xs.2->R J'' H1
theorem rK{U:As}{t t':TI}(h:PI X tg U t)(f:∀ZV H R,Tk X.K H->t' ZV H R->t ZV H λJ'' H'=>Tk X.K H'->R J'' H'):PI X tg U t':=λG s ZV H R I hw=>thn (h G s ZV H _ I (f ZV H R I.tk hw)) λv s1 h1=>thn h1 λq0 s2 ⟨it,fp,tn,J'',H',e,W,T,st,fo,q⟩=>⟨it,fp,tn,J'',H',e,W,T,st,fo,q W.tk⟩
theorem aNF{c:E}{e:As}(ha:PE X e (WE X P n RT Y J Z c)):PI X tg e (wI X P n RT Y J Z (.seq c)):=by refine rK (aKM ha) λZV H RR t ⟨S,h⟩=>?_;refine wE.one S (RE.bind' (h)) λx u H1 I t1 S1 W=>?_;have rv:=W.rv S;split at I;rename_i ds U;obtain⟨a,xs,e,q,nn,r⟩:=rv.lst U;exact .inl ⟨a,e,.inl ⟨⟨xs,q⟩,λt'=>I _ _ t' W.1 (aIj S1 q nn r)⟩⟩;rename_i ds U;obtain⟨a,xs,e,q,r⟩:=rv.tup U;exact .inl ⟨a,e,.inr ⟨⟨xs,q⟩,λt'=>I _ _ t' W.1 (aKN S1 q r)⟩⟩;rename_i z U;obtain⟨c,I⟩:=I.iff;exact .inr ⟨z,rv.str U,λt'=>I _ _ t' W.1 (aKO rfl)⟩;exact I.elim
theorem rL(i j:Int):(gI i j).map Vl.cl=(Ar (j-i).toNat).map λ(k:Nat)=>Vl.cl (.int (i+(k:Int))):=by unfold gI;rw[Aw];rfl
theorem eQ{k:Int}(h:aM k=true):-(2 ^ 62)<=k/\k<2 ^ 62:=by unfold aM at h;simp only[bA,AR] at h;exact h
theorem aKQ(M:Mc X P Γ n){b:E}{e:As}{f:Str}{p pos:CB}(hf:f=("range" : Str))(hg:dN Γ f=true)(ha:PE X e (WE X P n RT Y J Z b))(U:aX e=true):PI X tg (.Call (.Name f p) [e] [] pos) (wI X P n RT Y J Z (.rng (.c (.int 0)) b)):=by
 subst hf;refine rK (aDe (M.gl hg) (M.md.blt _ (by decide +kernel)) (iE ha uH U) (aB U)) λZV H RR t ⟨S,h⟩=>?_;have h:RE (ev P (call P n) Z b) λy=>RE (match (D.int 0),y.d with|.int i,.int j=>R.iff (aM i&&aM j) (R.ok ((gI i j).map Vl.cl,[]))|_,_=>.bad) _:=
  RE.bind' (h)
 refine⟨S,?_⟩;show RE (ev P (call P n) Z b >>= λx=>evs P (call P n) Z .nil >>= λxs=>R.ok (x::xs)) _;rw[RE.bind];refine h.mono λy q=>?_;split at q;rename_i i j W e2;cases W;obtain⟨c,q⟩:=q.iff;rw[bA] at c;intro us H1 t1 s1 r1;obtain⟨u,r',I,ru,hr⟩:=r1;rw[show r'=[] from hr] at I;subst I;refine⟨j,by rw[ru.int e2],(eQ c.2).1,(eQ c.2).2,λt'=>q _ _ t' s1 (aFE ?_)⟩;rw[rL];simp;exact q.elim
theorem aKR(M:Mc X P Γ n){a b:E}{ea eb:As}{f:Str}{p pos:CB}(hf:f=("range" : Str))(hg:dN Γ f=true)(ha:PE X ea (WE X P n RT Y J Z a))(hb:PE X eb (WE X P n RT Y J Z b))(U:aX ea=true)(q:aX eb=true) :
 PI X tg (.Call (.Name f p) [ea,eb] [] pos) (wI X P n RT Y J Z (.rng a b)):=by subst hf;refine rK (aDf (M.gl hg) (M.md.blt _ (by decide +kernel)) (iE ha (iE hb uH q) U) (by rw[aB U,aB q];rfl) (aB q)) λZV H RR t ⟨S,h⟩=>?_;refine⟨S,?_⟩;show RE (ev P (call P n) Z a >>= λx=>evs P (call P n) Z (.cons b .nil) >>= λxs=>R.ok (x::xs)) _;rw[RE.bind];refine(RE.bind' (h)).mono λx hx=>?_;rw[RE.bind];show RE (ev P (call P n) Z b >>= λx=>evs P (call P n) Z .nil >>= λxs=>R.ok (x::xs)) _;rw[RE.bind];refine(RE.bind' hx).mono λy W=>?_;split at W;rename_i i j e1 e2;obtain⟨c,W⟩:=W.iff;rw[bA] at c;intro us H1 t1 s1 r1;obtain⟨u,r',eu,ru,u2,r2,I,q0,hr⟩:=r1;rw[show r2=[] from hr] at I;subst I;subst eu;refine⟨i,j,by rw[ru.int e1,q0.int e2],⟨(eQ c.1).1,(eQ c.1).2,(eQ c.2).1,(eQ c.2).2⟩,λt'=>W _ _ t' s1 (aFE ?_)⟩;rw[rL];exact W.elim
theorem aAR{ZV:L2.St}{H:Hp}{x:Vl}{u:V}{ds:List D}(U:Rv X.K RT Y J Z ZV H x u)(h:yP x.d=some ds):∃(k:Bool) (a:Ah) (xs:List V),u=.ref a/\Sq k X.K H a xs/\(k=true->¬ exV RT Y J Z ZV x.pa x.al a)/\Reps X.K H (exV RT Y J Z ZV x.pa x.al) ds xs:=by unfold yP at h;split at h;rename_i ds' I;cases h;obtain⟨a,xs,e,q,W,r⟩:=U.lst I;exact⟨true,a,xs,e,q,λ_=>W,r⟩;rename_i ds' I;cases h;obtain⟨a,xs,e,q,r⟩:=U.tup I;exact⟨false,a,xs,e,q,(λz=>absurd z bN),r⟩;cases h
theorem aNG(M:Mc X P Γ n){a b:E}{ea eb:As}{f:Str}{p pos:CB}{I:List As}{tk:Nat}{tp:CB}(hf:f=("zip" : Str))(hg:dN Γ f=true)(ha:PE X ea (WE X P n RT Y J Z a))(hb:PE X eb (WE X P n RT Y J Z b))(W:aX ea=true)(q:aX eb=true) :
 PI X (.Tuple I tk tp) (.Call (.Name f p) [ea,eb] [] pos) (wI X P n RT Y J Z (.zip a b)):=by subst hf;refine rK (aKL (M.gl hg) (M.md.blt _ (by decide +kernel)) (iE ha (iE hb uH q) W) (by rw[aB W,aB q];rfl) (aB q)) λZV H RR t ⟨S,h⟩=>?_;refine⟨S,?_⟩;show RE (ev P (call P n) Z a >>= λx=>evs P (call P n) Z (.cons b .nil) >>= λxs=>R.ok (x::xs)) _;rw[RE.bind];refine(RE.bind' (h)).mono λx hx=>?_;rw[RE.bind];show RE (ev P (call P n) Z b >>= λx=>evs P (call P n) Z .nil >>= λxs=>R.ok (x::xs)) _;rw[RE.bind];refine(RE.bind' hx).mono λy hy=>?_;split at hy;rename_i as bs e1 e2;intro us H1 t1 s1 r1;obtain⟨u,r',eu,ru,u2,r2,U,q0,hr⟩:=r1;rw[show r2=[] from hr] at U;subst U;subst eu;obtain⟨ka,a1,xs,rfl,qa,na,ra⟩:=aAR ru e1;obtain⟨kb,b1,ys,rfl,qb,nb,rb⟩:=aAR q0 e2;have w1:∀c,exV RT Y J Z ZV (x.pa||y.pa) (x.al++y.al) c->exV RT Y J Z ZV x.pa x.al c:=λc z=>z.mono (λhp=>by rw[hp];rfl) λj hj=>AN _ hj;have w2:∀c,exV RT Y J Z ZV (x.pa||y.pa) (x.al++y.al) c->exV RT Y J Z ZV y.pa y.al c:=λc z=>z.mono (λhp=>by rw[hp,IX]) λj hj=>A4 _ hj;exact⟨ka,kb,a1,b1,xs,ys,rfl,qa,qb,λt'=>hy _ _ t' s1 (aKP (S.grow s1 t1) qa qb (λhk z=>na hk (w1 _ z)) (λhk z=>nb hk (w2 _ z)) (ra.weak w1) (rb.weak w2))⟩;exact hy.elim
theorem aKS(M:Mc X P Γ n){a:E}{U:As}{f:Str}{p pos:CB}{q:List As}{tk:Nat}{tp:CB}(hf:f=("enumerate" : Str))(hg:dN Γ f=true)(ha:PE X U (WE X P n RT Y J Z a))(I:aX U=true) :
 PI X (.Tuple q tk tp) (.Call (.Name f p) [U] [] pos) (wI X P n RT Y J Z (.enum a)):=by subst hf;refine rK (aIh (M.gl hg) (M.md.blt _ (by decide +kernel)) (iE ha uH I) (aB I)) λZV H RR t ⟨S,h⟩=>?_;refine⟨S,?_⟩;show RE (ev P (call P n) Z a >>= λx=>evs P (call P n) Z .nil >>= λxs=>R.ok (x::xs)) _;rw[RE.bind];refine(RE.bind' (h)).mono λx W=>?_;split at W;rename_i as e1;intro us H1 t1 s1 r1;obtain⟨u,r',eu,ru,hr⟩:=r1;rw[show r'=[] from hr] at eu;subst eu;obtain⟨k,a1,xs,rfl,qa,na,ra⟩:=aAR ru e1;exact⟨k,a1,xs,rfl,qa,λt'=>W _ _ t' s1 (aIk (S.grow s1 t1) qa na ra)⟩;exact W.elim
end
noncomputable def gs:List Nat->TGs
 | []=>aMO|i::is=>aJj (yE i) (gs is)
noncomputable def gT(K:Fg):T->TG
 | .n i=>yE i|.t is=>aMP K is.length (gs is)
section
variable {K:Fg} {RT Y J:Ah->Prop} {Z:Sg} {ZV:L2.St} {H H':Hp}
theorem set_some{α:Type}{l:List α}{i j:Nat}{x y:α}(e:(l.set i x)[j]? = some y):(i=j/\x=y/\i<l.length)\/(i≠j/\l[j]? = some y):=by grind
theorem Sx.setSh(S:Sx K RT Y J Z ZV H){i:Nat}{pa:Bool}{d:D}{u:V}(h:Rep K H (λa=>RT a\/exB Y J pa a) d u):Sx K RT Y J (Z.set i (.sh pa d)) (ZV.set i (some u)) H where
 sh:=λj pa' d' e=>by
  rcases set_some e with⟨rfl,e,hl⟩|⟨I,e⟩
  cases e;exact⟨u,AE (by rw[<-S.len];exact hl),h⟩;obtain⟨v,h1,h2⟩:=S.sh j pa' d' e;grind
 own:=λj pa' ds e=>by
  rcases set_some e with⟨rfl,e,hl⟩|⟨I,e⟩
  cases e;obtain⟨a,xs,h1,h2⟩:=S.own j pa' ds e;exact⟨a,xs,by rw[Ai I];exact h1,h2⟩
 trk:=S.trk
 yo:=S.yo
 tk:=S.tk
 rt:=S.rt
 inj:=λj j' pa' U ds ds' a W e2 e3 e4=>by
  rcases set_some W with⟨_,e,_⟩|⟨n1,W⟩
  cases e;rcases set_some e2 with⟨_,e,_⟩|⟨n2,e2⟩
  cases e;rw[Ai n1] at e3;rw[Ai n2] at e4;exact S.inj j j' pa' U ds ds' a W e2 e3 e4
 len:=by rw[Az,Az];exact S.len
 dx:=S.dx.imp id (λj ds e=>by
  rcases set_some e with⟨_,z,_⟩|⟨I,e⟩
  cases z;exact⟨e,Ai I⟩) (λ_ _ _ _ _ _ e=>e) (λ_ _ e z _=>⟨e,z⟩) (λ_ _ r=>r) (λj q0 e=>by
  rcases set_some e with⟨_,z,_⟩|⟨I,e⟩
  cases z;exact⟨e,Ai I⟩) (λ_ _ _ _ _ _ e=>e) λp xs e z=>⟨e,z.1,z.2.1,λk pa' ds q=>by
  rcases set_some q with⟨_,w,_⟩|⟨I,q⟩
  cases w;rw[Ai I];exact z.2.2 k pa' ds q⟩
theorem Rep.out{ex:Ah->Prop}{d:D}{v:V}{a:Ah}(h:Rep K H ex d v)(n:H a=none)(k:K.lookup a=none):Rep K H (λb=>b=a\/ex b) d v:=
 Rep.imp (λ_ _ q=>q) (λb xs U q=>⟨λz=>z.elim (λz=>by
  subst z;rcases q with(q|⟨o,q⟩)|⟨o,I,m,q,_⟩
  rw[n] at q;cases q;rw[n] at q;cases q;grind) U,q⟩) d v h
theorem Reps.out{ex:Ah->Prop}{d:List D}{v:List V}{a:Ah}(h:Reps K H ex d v)(n:H a=none)(k:K.lookup a=none):Reps K H (λb=>b=a\/ex b) d v:=
 Reps.imp (λ_ _ q=>q) (λb xs U q=>⟨λz=>z.elim (λz=>by
  subst z;rcases q with(q|⟨o,q⟩)|⟨o,I,m,q,_⟩
  rw[n] at q;cases q;rw[n] at q;cases q;grind) U,q⟩) d v h
theorem Sx.storeOwn(S:Sx K RT Y J Z ZV H){i:Nat}{a:Ah}{xs:List V}{ds:List D}{pa:Bool}(s:aQ H H')(t:Tk K H')(hn:H a=none)(W:H' a=some (.lst xs))(r:Reps K H' (λb=>(RT b\/b=a)\/exB Y J pa b) ds xs) :
 Sx K (λb=>RT b\/b=a) Y J (Z.set i (.own pa ds)) (ZV.set i (some (.ref a))) H' where
 sh:=λj pa' d' e=>by
  rcases set_some e with⟨rfl,e,U⟩|⟨I,e⟩
  cases e;obtain⟨v,h1,h2⟩:=S.sh j pa' d' e;refine⟨v,by rw[Ai I];exact h1,((h2.out hn (t a (by rw[W];simp))).grow s).weak λb z=>?_⟩;grind
 own:=λj pa' ds' e=>by
  rcases set_some e with⟨rfl,e,U⟩|⟨I,e⟩
  cases e;exact⟨a,xs,AE (by rw[<-S.len];exact U),W,.inr rfl,λz=>S.trk a (.inr (.inr z)) hn,r⟩;obtain⟨a',xs',h1,h2,h3,h4,h5⟩:=S.own j pa' ds' e;refine⟨a',xs',by rw[Ai I];exact h1,s _ _ h2,.inl h3,h4,((h5.out hn (t a (by rw[W];simp))).grow s).weak λb z=>?_⟩;grind
 trk:=λb z q=>by rcases z with(z|z)|z;exact S.trk b (.inl z) (s.free q);rw[z,W] at q;cases q;exact S.trk b (.inr z) (s.free q)
 yo:=S.yo
 tk:=t
 rt:=λb z=>by rcases z with z|z;exact(S.rt b z).grow s;rw[z];exact .inl ⟨xs,W⟩
 inj:=λj j' pa' q0 q1 q2 c e1 e2 e3 e4=>by
  have fr:∀{j:Nat} {pa:Bool} {ds:List D},Z[j]? = some (.own pa ds)->ZV[j]? = some (some (.ref a))->False:=λ{j pa ds} e q=>by obtain⟨a',xs',h1,h2,_⟩:=S.own j pa ds e;rw[q] at h1;grind
  rcases set_some e1 with⟨rfl,e,U⟩|⟨n1,e1⟩
  grind;rw[Ai n1] at e3;rcases set_some e2 with⟨rfl,e,U⟩|⟨n2,e2⟩
  rw[AE (by rw[<-S.len];exact U)] at e4;grind;rw[Ai n2] at e4;exact S.inj j j' pa' q0 q1 q2 c e1 e2 e3 e4
 len:=by rw[Az,Az];exact S.len
 dx:=S.dx.imp id (λj ds e=>by
  rcases set_some e with⟨_,z,_⟩|⟨I,e⟩
  cases z;exact⟨e,Ai I⟩) (λ_ _ _ _ _ _ e=>e) (λb ys e z _=>⟨s _ _ e,.inl z⟩) (λ_ _ r=>aQ.seqT s r) (λj q3 e=>by
  rcases set_some e with⟨_,z,_⟩|⟨I,e⟩
  cases z;exact⟨e,Ai I⟩) (λ_ _ _ _ _ _ e=>e) λp ys e z=>⟨s _ _ e,.inl z.1,z.2.1,λk pa' ds q w=>by
  rcases set_some q with⟨rfl,_,U⟩|⟨I,q⟩
  rw[AE (by rw[<-S.len];exact U)] at w;grind;rw[Ai I] at w;exact z.2.2 k pa' ds q w⟩
theorem kN{v:Vl}(h:v.fr=false):v.slot=.sh v.pa v.d:=by unfold Vl.slot;rw[h]
theorem aIl{v:Vl}{ds:List D}(h:v.fr=true)(hd:v.d=.lst ds):v.slot=.own v.pa ds:=by unfold Vl.slot;rw[h,hd]
theorem Sx.store(S:Sx K RT Y J Z ZV H){v:Vl}{u:V}(I:Ro K RT Y J Z ZV H H' v u)(t:Tk K H')(i:Nat) :
 ∃q,Sx K q Y J ((freeze Z v.al).set i v.slot) (ZV.set i (some u)) H'/\∀b,q b->RT b\/H b=none:=by by_cases W:v.fr=true;obtain⟨s,h⟩:=I;rw[if_pos W] at h;obtain⟨a,xs,ds,e1,e2,U,e4,r⟩:=h;subst e1;rw[aIl W e2];refine⟨_,(S.frz v.al).storeOwn s t U e4 (r.weak λb z=>?_),λb z=>z.elim (λz=>.inl z.1) λz=>.inr (by rw[z];exact U)⟩;rcases z with(z|z)|z;exact .inr (.inl z);exact .inl z;exact .inr (.inr z);rw[kN (by grind)];exact⟨_,((S.grow I.1 t).frz v.al).setSh (I.rv S),λb z=>.inl z.1⟩
theorem aFF:∀{is:List Nat} {us:List V} {ZV:L2.St} {H:Hp} {Q:L2.St->Hp->Prop},is.length=us.length->Q ((is.zip us).foldl (λs p=>s.set p.1 (some p.2)) ZV) H->gs is us ZV H Q
 | [],[],_,_,_,_,h=>⟨rfl,h⟩
 | [],_::_,_,_,_,e,_=>by simp at e|_::_,[],_,_,_,e,_=>by simp at e|i::is,u::us,ZV,H,Q,e,h=>⟨u,us,rfl,aFF (by simpa using e) h⟩
theorem zB{v:Vl}{d:D}:(v.sub d).slot=.sh (!noL d&&v.pa) d:=by rw[kN rJ];unfold Vl.sub Vl.cl;grind
theorem Sx.setAll{v:Vl}:∀{is:List Nat} {ds:List D} {us:List V} {Z:Sg} {ZV:L2.St},Sx K RT Y J Z ZV H->Reps K H (λa=>RT a\/exB Y J v.pa a) ds us ->
 Sx K RT Y J ((is.zip ds).foldl (λZ p=>Z.set p.1 (v.sub p.2).slot) Z) ((is.zip us).foldl (λs p=>s.set p.1 (some p.2)) ZV) H
 | [],_,_,_,_,S,_=>S|_::_,[],us,_,_,S,r=>by rw[show us=[] from r];exact S|i::is,d::ds,us,Z,ZV,S,r=>by
  obtain⟨x,I,e,h1,h2⟩:=r;subst e;refine Sx.setAll (is:=is) ?_ h2;show Sx K RT Y J (Z.set i (v.sub d).slot) (ZV.set i (some x)) H;rw[zB];refine S.setSh ?_;cases q:noL d with
  | true=>exact Rep.free d x q h1|false=>exact h1
theorem oG{α:Type}{q:Type}(f:q->α):∀{is:List Nat} {bs:List q} {l:List α} {j:Nat},j∉is->((is.zip bs).foldl (λs p=>s.set p.1 (f p.2)) l)[j]? = l[j]?
 | [],_,_,_,_=>rfl|_::_,[],_,_,_=>rfl|i::is,b::bs,l,j,h=>by
  have h':i≠j/\j∉is:=by grind
  rw[AV,Ci,oG f h'.2,Ai h'.1]
theorem zC{α:Type}{q:Type}(f:q->α):∀{is:List Nat} {bs:List q} {l:List α},((is.zip bs).foldl (λs p=>s.set p.1 (f p.2)) l).length=l.length
 | [],_,_=>rfl|_::_,[],_=>rfl|i::is,b::bs,l=>by rw[AV,Ci,zC f,Az]
theorem fold_mem{α:Type}{I:Type}(f:I->α):∀{is:List Nat} {bs:List I} {l:List α} {j:Nat} {x:α},((is.zip bs).foldl (λs p=>s.set p.1 (f p.2)) l)[j]? = some x->l[j]? = some x\/∃b,x=f b
 | [],_,_,_,_,h=>.inl h|_::_,[],_,_,_,h=>.inl h|i::is,b::bs,l,j,x,h=>by
  rw[AV,Ci] at h;rcases fold_mem f h with q|q;rcases set_some q with⟨_,e,_⟩|⟨_,e⟩
  exact .inr ⟨b,e.symm⟩;exact .inl e;exact .inr q
theorem rM{v:Vl}{is:List Nat}{q:Sg}(e:cN Z v (.t is)=.ok q):∃ds,v.d=.tup ds/\ds.length=is.length/\q=(is.zip ds).foldl (λZ p=>Z.set p.1 (v.sub p.2).slot) Z:=by unfold cN at e;grind
theorem rN{v:Vl}{i:Nat}{q:Sg}(e:cN Z v (.n i)=.ok q):q=Z.set i v.slot:=by cases(e);rfl
theorem aFG{v:Vl}{t:T}{q:Sg}{j:Nat}(e:cN Z v t=.ok q)(h:j∉tIx t):q[j]? = Z[j]? := by
 cases t with
 | n i=>rw[rN e];exact Ai λz=>h (by simp[tIx,z])|t is=>obtain⟨ds,_,_,e⟩:=rM e;rw[e];exact oG (λd=>(v.sub d).slot) h
theorem aFH{v:Vl}{t:T}{q:Sg}(e:cN Z v t=.ok q):q.length=Z.length:=by
 cases t with
 | n i=>rw[rN e,Az]|t is=>obtain⟨ds,_,_,e⟩:=rM e;rw[e];exact zC (λd=>(v.sub d).slot)
theorem aFI{v:Vl}{t:T}{I:Sg}{j:Nat}{pa:Bool}{ds:List D}(U:v.fr=false)(e:cN Z v t=.ok I)(h:I[j]? = some (.own pa ds)):Z[j]? = some (.own pa ds):=by
 cases t with
 | n i=>
  rw[rN e,kN U] at h;rcases set_some h with⟨_,e,_⟩|⟨_,e⟩
  cases e;exact e
 | t is=>
  obtain⟨ds',_,_,e⟩:=rM e;rw[e] at h;rcases fold_mem (λd=>(v.sub d).slot) h with q|⟨b,q⟩
  exact q;rw[zB] at q;cases q
theorem aFJ(S:Sx K RT Y J Z ZV H){t:T}{v:Vl}{u:V}{Q:L2.St->Hp->Prop}{Z2:Sg}(U:v.fr=false)(h:Rep K H (λa=>RT a\/exB Y J v.pa a) v.d u)(e:cN Z v t=.ok Z2)
 (q:∀I,Sx K RT Y J Z2 I H->(∀j,j∉tIx t->I[j]? = ZV[j]?)->Q I H):gT K t u ZV H Q:=by
 cases t with
 | n i=>rw[rN e,kN U] at q;exact q _ (S.setSh h) λj W=>Ai λz=>W (by simp[tIx,z])|t is=>obtain⟨ds,hd,hl,e⟩:=rM e;rw[hd] at h;obtain⟨a,xs,rfl,hq,r⟩:=h;have l2:=r.length;refine⟨a,xs,rfl,hq,by omega,aFF (by omega) (q _ ?_ λj W=>?_)⟩;rw[e];exact S.setAll r;exact oG (λd=>some d) W
end
section
variable {X:Cx} {P:Pg} {Γ:Ct} {n:Nat} {RT Y J:Ah->Prop} {Z:Sg} {tg:As} {pos:CB}
theorem rO(M:Mc X P Γ n):∀{is:List Nat} {es:List As},is.length=es.length->((is.zip es).all λp=>match p.2 with|.Name x _=>cD Γ p.1 x|_=>false)=true ->
 PGs X es (gs is)/\(Ch es X.env).length=is.length/\(Ch es X.env).findIdx? (·.1)=none
 | [],[],_,_=>⟨aHC,rfl,rfl⟩
 | [],_::_,e,_=>by simp at e|_::_,[],e,_=>by simp at e|i::is,e::es,hl,h=>by
  rw[AV,EG,bA] at h;obtain⟨h1,h2,I⟩:=rO M (by simpa using hl) h.2;cases e with
  | Name x p=>have hs:=h.1;unfold cD at hs;simp only[bA,beq_iff_eq] at hs;have q:Ch (.Name x p::es) X.env=(false,HF (.Name x p) X.env)::Ch es X.env:=rfl;refine⟨aEE (aBF M.nd (by rw[M.N];exact hs.1.1) (M.loc hs.1.2) (M.st x hs.1.2)) h1 (by rw[q];rfl),?_,?_⟩;rw[q,lC,lC,h2];grind|_=>cases h.1
theorem aIm(M:Mc X P Γ n){t:T}(h:pN Γ t tg=true):PG X tg (gT X.K t):=by
 cases t with
 | n i=>
  cases tg with
  | Name x p=>have hs:cD Γ i x=true:=h;unfold cD at hs;simp only[bA,beq_iff_eq] at hs;exact aBF M.nd (by rw[M.N];exact hs.1.1) (M.loc hs.1.2) (M.st x hs.1.2)|_=>cases h
 | t is=>
  cases tg with
  | Tuple es k p=>have h:(is.length==es.length&&(is.zip es).all λp=>match p.2 with|.Name x _=>cD Γ p.1 x|_=>false)=true:=h;rw[bA,beq_iff_eq] at h;obtain⟨h1,h2,q⟩:=rO M h.1 h.2;exact aJY M.calm h1 h2 q|_=>cases h
noncomputable def ch0(k:Nat)(caps:List Nat)(Z:Sg):Sg:=Al k .dead++caps.map λi=>(Z[i]?).getD .dead
theorem ch0_get{k:Nat}{caps:List Nat}{Z:Sg}{j:Nat}{s:Sl}(h:(ch0 k caps Z)[j]? = some s):s=.dead\/∃q i,j=k+q/\caps[q]? = some i/\Z[i]? = some s:=by unfold ch0 at h;grind
theorem aFK{k:Nat}{caps:List Nat}{Z:Sg}{j:Nat}{s:Sl}(q:j<k)(h:(ch0 k caps Z)[j]? = some s):s=.dead:=by unfold ch0 at h;rw[Be (by simpa using q),EW,if_pos q] at h;cases h;rfl
theorem pU{k:Nat}{caps:List Nat}{ZV:L2.St}{j i:Nat}{v:V}(e:caps[j]? = some i)(h:ZV[i]? = some (some v)):(lV k caps ZV)[k+j]? = some (some v):=by unfold lV;rw[AB (by simp),AQ,A7,Bc,e];grind
theorem pV{k:Nat}{caps:List Nat}{ZV:L2.St}{j i:Nat}{v:V}(e:caps[j]? = some i)(h:(lV k caps ZV)[k+j]? = some (some v)):ZV[i]? = some (some v):=by
 unfold lV at h;rw[AB (by simp),AQ,A7,Bc,e] at h;have h':(ZV[i]?).getD none=some v:=AF h;cases q:ZV[i]? with
 | none=>rw[q] at h';cases h'|some z=>rw[q] at h';exact congrArg some h'
theorem kO{α:Type}:∀{l:List α},l.Nodup->∀{i j:Nat} {x:α},l[i]? = some x->l[j]? = some x->i=j
 | [],_,_,_,_,h,_=>by simp at h|a::l,hn,0,0,_,_,_=>rfl|a::l,hn,0,j+1,x,h1,h2=>by grind|a::l,hn,i+1,0,x,h1,h2=>by grind|a::l,hn,i+1,j+1,x,h1,h2=>congrArg (·+1) (kO (C4.mp hn).2 (by simpa using h1) (by simpa using h2))
theorem Sx.child{K:Fg}{ZV:L2.St}{H:Hp}(S:Sx K RT Y J Z ZV H){k:Nat}{caps:List Nat}(nd:caps.Nodup):Sx K RT Y J (ch0 k caps Z) (lV k caps ZV) H where
 sh:=λj pa d e=>by
  rcases ch0_get e with z|⟨j',i,rfl,W,hs⟩
  cases z;obtain⟨v,h1,h2⟩:=S.sh i pa d hs;exact⟨v,pU W h1,h2⟩
 own:=λj pa ds e=>by
  rcases ch0_get e with z|⟨j',i,rfl,W,hs⟩
  cases z;obtain⟨a,xs,h1,h2⟩:=S.own i pa ds hs;exact⟨a,xs,pU W h1,h2⟩
 trk:=S.trk
 yo:=S.yo
 tk:=S.tk
 rt:=S.rt
 inj:=λj1 j2 pa pa' ds ds' a e1 e2 e3 e4=>by
  rcases ch0_get e1 with z|⟨q0,i1,rfl,I,q3⟩
  cases z;rcases ch0_get e2 with z|⟨q1,i2,rfl,U,q4⟩
  cases z;have:=S.inj i1 i2 pa pa' ds ds' a q3 q4 (pV I e3) (pV U e4);subst this;rw[kO nd I U]
 len:=by unfold ch0 lV;rw[lA,lA,lM,lM,AQ,AQ]
 dx:=S.dx.imp (λj=>(caps[j-k]?).getD 0) (λj ds e=>by
  rcases ch0_get e with z|⟨j',i,rfl,W,hs⟩
  cases z;rw[Bc,W];refine⟨hs,?_⟩;obtain⟨a,xs,h1,_⟩:=S.dx.at' i ds hs;rw[pU W h1];exact h1.symm) (λj1 j2 ds ds' e1 e2 q=>by
  rcases ch0_get e1 with z|⟨q0,i1,rfl,I,_⟩
  cases z;rcases ch0_get e2 with z|⟨q1,i2,rfl,U,_⟩
  cases z;rw[Bc,Bc,I,U] at q;have q:=q;subst q;rw[kO nd I U]) (λ_ _ e z _=>⟨e,z⟩) (λ_ _ r=>r) (λj q2 e=>by
  rcases ch0_get e with z|⟨j',i,rfl,W,hs⟩
  cases z;rw[Bc,W];refine⟨hs,?_⟩;obtain⟨a,_,_,_,_,h1,_⟩:=S.dx.at2 i q2 hs;rw[pU W h1];exact h1.symm) (λj1 j2 ds ds' e1 e2 q=>by
  rcases ch0_get e1 with z|⟨q0,i1,rfl,I,_⟩
  cases z;rcases ch0_get e2 with z|⟨q1,i2,rfl,U,_⟩
  cases z;rw[Bc,Bc,I,U] at q;subst q;rw[kO nd I U]) λp xs e z=>⟨e,z.1,z.2.1,λj pa ds q w=>by
  rcases ch0_get q with v|⟨j',i,rfl,W,hs⟩
  cases v;exact z.2.2 i pa ds hs (pV W w)⟩
theorem Sx.forget{K:Fg}{Z':Sg}{ZV:L2.St}{H:Hp}(S:Sx K RT Y J Z ZV H)(hl:Z'.length=Z.length)(h:∀(j:Nat) (s:Sl),Z'[j]? = some s->s=.dead\/Z[j]? = some s):Sx K RT Y J Z' ZV H where
 sh:=λj pa d e=>by rcases h j _ e with z|z;cases z;exact S.sh j pa d z
 own:=λj pa d e=>by rcases h j _ e with z|z;cases z;exact S.own j pa d z
 trk:=S.trk
 yo:=S.yo
 tk:=S.tk
 rt:=S.rt
 inj:=λI U pa pa' ds ds' a W e2 e3 e4=>by rcases h I _ W with z|z1;cases z;rcases h U _ e2 with z|z2;cases z;exact S.inj I U pa pa' ds ds' a z1 z2 e3 e4
 len:=by rw[hl];exact S.len
 dx:=S.dx.imp id (λj ds e=>(h j _ e).elim (λz=>by cases z) λz=>⟨z,rfl⟩) (λ_ _ _ _ _ _ e=>e) (λ_ _ e z _=>⟨e,z⟩) (λ_ _ r=>r) (λj ds e=>(h j _ e).elim (λz=>by cases z) λz=>⟨z,rfl⟩) (λ_ _ _ _ _ _ e=>e) λp xs e z=>⟨e,z.1,z.2.1,λk pa ds q=>(h k _ q).elim (λw=>by cases w) λw=>z.2.2 k pa ds w⟩
noncomputable def wTs(X:Cx)(P:Pg)(n:Nat)(RT Y J:Ah->Prop)(Z:Sg)(cs:Es):TT:=λZV H Q=>Sx X.K RT Y J Z ZV H/\RE (tsts P (call P n) Z cs) λk=>∀H',Tk X.K H'->aQ H H'->Q k H'
theorem aKT:PTs X [] (wTs X P n RT Y J Z .nil):=λG s ZV H Q I ⟨S,h⟩=>aHZ G s ZV H Q I ((h) H I.tk (aQ.refl H))
theorem aKU{c:E}{e:As}(h:PT X e (WT X P n RT Y J Z c)):PTs X [e] (wTs X P n RT Y J Z (.cons c .nil)):=λG s ZV H Q I ⟨S,U⟩=>aIa h G s ZV H Q I ⟨S,by
 refine(RE.bind' (U)).mono λk q=>?_;cases k with
 | true=>exact q|false=>exact q⟩
theorem Rvs.append{K:Fg}{ZV:L2.St}{H:Hp}:∀{vs ws:List Vl} {us zs:List V},Rvs K RT Y J Z ZV H vs us->Rvs K RT Y J Z ZV H ws zs->Rvs K RT Y J Z ZV H (vs++ws) (us++zs)
 | [],_,_,_,h,q=>by rw[show _=[] from h];exact q|v::vs,_,_,_,h,q=>by obtain⟨u,r,e,h1,h2⟩:=h;subst e;exact⟨u,_,rfl,h1,Rvs.append h2 q⟩
noncomputable def lv(k:Nat)(caps al:List Nat)(v:Vl):Vl:=⟨v.d,false,v.pa,al++v.al.filterMap λj=>caps[j-k]?⟩
theorem zD{f:Vl->R (Option Vl)}{x:Vl}{xs q:List Vl}(h:fS f (x::xs)=.ok q):∃y ys,f x=.ok y/\fS f xs=.ok ys/\q=(match y with|some y=>y::ys|none=>ys):=by
 have h:(f x >>= λy=>fS f xs >>= λys=>(match y with|some y=>R.ok (y::ys)|none=>R.ok ys))=R.ok q:=h;cases I:f x with
 | ok y=>
  rw[I] at h;have h:=h;cases U:fS f xs with
  | ok ys=>
   rw[U] at h;refine⟨y,ys,rfl,rfl,?_⟩;cases y with
   | none=>cases(h);rfl|some y=>cases(h);rfl
  | bad=>rw[U] at h;cases h
 | bad=>rw[I] at h;cases h
theorem R.bind_ok{α q:Type}{x:R α}{f:α->R q}{b:q}(h:(x >>= f)=.ok b):∃a,x=.ok a/\f a=.ok b:=by
 cases x with
 | ok a=>exact⟨a,rfl,h⟩|bad=>cases h
theorem aFL{k:Nat}{caps:List Nat}{t:T}{it:Hp.It}{cond:Es}{elt:E}(z3:caps.Nodup)(hk:∀i∈tIx t,i<k){ZV:L2.St}{H:Hp}{Q:VK}(hw:WE X P n RT Y J Z (.comp k caps t it cond elt) ZV H Q) :
 aFn k caps (wI X P n RT Y J Z it) (gT X.K t) (λZV H Q=>∃RT Y J Z1,wTs X P n RT Y J Z1 cond ZV H Q) (λZV H Q=>∃RT Y J Z1,WE X P n RT Y J Z1 elt ZV H Q) ZV H λv H'=>Tk X.K H'->Q v H':=by
 obtain⟨S,h⟩:=hw
 let f:List Nat->Vl->R (Option Vl):=λal x=>cN (ch0 k caps (freeze Z al)) x t >>= λZ1=>tsts P (call P n) Z1 cond >>= λb=>if b=true then (ev P (call P n) Z1 elt >>= λy=>R.ok (some y)) else R.ok none
 refine⟨S,(RE.bind' (h)).mono λxs hx J'' H1 t1 s1 ok=>?_⟩;obtain⟨vs,evs,hv⟩:=(RE.bind' hx).eq;obtain⟨hl,hq⟩:=hv.iff;have hl:=of_decide_eq_true hl;refine⟨λi m ys q6 Hc=>m=xs.1.length-i/\i<=xs.1.length/\aQ H1 Hc/\Tk X.K Hc/\Sx X.K (rtF RT Z ZV xs.2) Y J (ch0 k caps (freeze Z xs.2)) q6 Hc/\(∀j,k<=j->q6[j]? = (lV k caps ZV)[j]?) /\
  ∃ws rs,vs=ws++rs/\fS (f xs.2) (xs.1.drop i)=.ok rs/\Rvs X.K RT Y J Z ZV Hc (ws.map (lv k caps xs.2)) ys,⟨_,rfl,Bw _,aQ.refl _,t1,((S.grow s1 t1).frz xs.2).child z3,λ_ _=>rfl,[],vs,rfl,evs,rfl⟩,?_⟩
 rintro i m ys q6 Hc ⟨hm,hi,sc,tc,Sc,w7,ws,rs,I,q0,q3⟩;have w3:=ok.ok (λ_=>False) (λ_ z=>z.elim) i Hc (Kp.same sc);have q9:=q3.length;rw[lM] at q9;have z6:ws.length<=vs.length:=by rw[I,lA];omega
 by_cases U:i<xs.1.length;refine .inr ⟨w3.1 U,by rw[<-q9,Cb];have:lim=1000000:=rfl;omega,λx H' hy=>?_⟩;obtain⟨sm,z4,rv⟩:=w3.2.2 x H' hy xs.1[i] (Ad U);rw[BS U] at q0;obtain⟨yo,z5,ef,q5,w6⟩:=zD q0;obtain⟨Z1,q1,ef⟩:=R.bind_ok ef;obtain⟨b,eb,ef⟩:=R.bind_ok ef;have w8:=ok.nofr _ (AK U);have rep:Rep X.K H' (λa=>rtF RT Z ZV xs.2 a\/exB Y J xs.1[i].pa a) xs.1[i].d x:=Rep.weak (Rep.weak rv λa z=>.inl z) λa z=>by rcases z with z|z;exact .inl ⟨z.1,λq=>z.2 (q.mono (ok.sub _ (AK U)))⟩;exact .inr z
 refine aFJ (Sc.grow sm (z4 tc)) w8 rep q1 λq7 S2 q8=>⟨_,_,_,Z1,S2,?_⟩
 rw[eb];intro H3 t3 s3;have W:∀j,k<=j->q7[j]? = (lV k caps ZV)[j]? := λj hj=>by rw[q8 j λz=>absurd (hk j z) (Ic.mpr hj),w7 j hj]
 have q4:∀{H5:Hp},Sx X.K (rtF RT Z ZV xs.2) Y J Z1 q7 H5->Sx X.K (rtF RT Z ZV xs.2) Y J (ch0 k caps (freeze Z xs.2)) q7 H5:=λ{H5} S5=>S5.forget (aFH q1).symm λj s hs=>by by_cases hj:j∈tIx t;exact .inl (aFK (hk j hj) hs);exact .inr (by rw[aFG q1 hj];exact hs)
 cases b with
 | false=>rw[if_neg bN] at ef ⊢;cases(ef);subst w6;exact⟨_,by omega,rfl,U,sc.trans (sm.trans s3),t3,q4 (S2.grow s3 t3),W,ws,rs,I,q5,q3.grow (sm.trans s3)⟩|true=>
  rw[if_pos rfl] at ef ⊢;obtain⟨y,ey,ef⟩:=R.bind_ok ef;cases(ef);subst w6;refine⟨_,_,_,Z1,S2.grow s3 t3,?_⟩;rw[ey];intro u H4 t4 q2;refine⟨_,by omega,rfl,U,sc.trans (sm.trans (s3.trans q2.1)),t4,q4 ((S2.grow s3 t3).grow q2.1 t4),W,ws++[y],z5,by rw[I];simp,q5,?_⟩;rw[Ax];refine(q3.grow (sm.trans (s3.trans q2.1))).append ⟨u,[],rfl,?_,rfl⟩;refine(q2.rv (S2.grow s3 t3)).weak λc z=>?_;rcases z with⟨z1,z2⟩|z;refine .inl ⟨⟨z1,λq=>z2 (q.mono λj hj=>AN _ hj)⟩,λq=>z2 ?_⟩;obtain⟨j,hj,⟨pa,ds,ho⟩,hV⟩:=q;rcases ch0_get (aFI w8 q1 ho) with z|⟨j',i',rfl,hc,hs⟩
  cases z;rw[W _ (Nat.le_add_right _ _)] at hV;refine⟨i',A4 _ (CL.mpr ⟨k+j',hj,by rw[Bc];exact hc⟩),⟨pa,ds,(fH hs).1⟩,pV hc hV⟩;exact .inr z
 have w9:i=xs.1.length:=by omega
 subst w9;rw[Ha] at q0;cases(q0);rw[AO] at I;subst I;refine .inl ⟨w3.2.1 (Ap _),by rw[<-q9];exact nZ hl,λp hp t'=>hq _ _ t' ?_⟩;have w4:=S.grow (s1.trans sc) tc;have w5:(vs.map (lv k caps xs.2)).map (·.d)=vs.map (·.d):=by rw[Aw];rfl
 have rr:Reps X.K Hc (exV RT Y J Z ZV (dS vs) (xs.2++(bT vs).filterMap λj=>caps[j-k]?)) (vs.map (·.d)) ys:=by rw[<-w5];refine q3.reps λv hv=>?_;obtain⟨w,hw,e⟩:=AH.mp hv;subst e;refine⟨λz=>yT hw z,λj hj=>?_⟩;rcases Bl.mp hj with z|z;grind;obtain⟨j',z0,e⟩:=CL.mp z;exact A4 _ (CL.mpr ⟨j',pE hw j' z0,e⟩)
 unfold fV;split;rename_i hn;exact(Ro.fresh hp t' rfl rfl w4 (Reps.free _ _ hn rr)).from (s1.trans sc)
 exact(Ro.fresh hp t' rfl rfl w4 rr).from (s1.trans sc)
theorem aKV(M:Mc X P Γ n){k:Nat}{caps:List Nat}{t:T}{it:Hp.It}{cond:Es}{elt:E}{e q:As}{q0:List As}{scope:De}{N':List Str}(CS:eD X scope k caps N')(q2:caps.Nodup)(hk:∀i∈tIx t,i<k)
 (hi:PI X tg q (wI X P n RT Y J Z it))
 (q1:∀C s₀ H₀ ex,PG (eW X scope N' C s₀ H₀ ex) tg (gT X.K t)/\(∀RT Y J U,PTs (eW X scope N' C s₀ H₀ ex) q0 (wTs X P n RT Y J U cond))/\∀RT Y J U,PE (eW X scope N' C s₀ H₀ ex) e (WE X P n RT Y J U elt))
 (hs:∀x,Cd q X.env x=pure x):PE X (.ListComp e [⟨tg,q,q0,0⟩] scope pos) (WE X P n RT Y J Z (.comp k caps t it cond elt)):=by refine(aBW CS M.calm hi (λC s₀ H₀ ex=>?_) hs).imp λZV H Q t0 W=>aFL q2 hk W;obtain⟨h1,h2,h3⟩:=q1 C s₀ H₀ ex;exact⟨h1,λG s ZV H Q I ⟨RT,Y,J,U,W⟩=>h2 RT Y J U G s ZV H Q I W,λG s ZV H Q I ⟨RT,Y,J,U,W⟩=>h3 RT Y J U G s ZV H Q I W⟩
end
end Hp
namespace L2
open PySem PySem.Spec PyProof.Rows
set_option maxRecDepth 100000
noncomputable def all16:List (List Nat):=(Ar 16).map λm=>(Ar 4).filter λk=>m / 2 ^ k % 2==1
noncomputable def lE(led:Bool)(ks:List Nat):SetTable:={ mask:=7,place:=ks.toArray,dummies:=#[],finger:=0,led:=led,moves:=0,plain:=true }
noncomputable def aIn(k:Nat)(ks:List Nat):Nat:=E8 ks.toArray k
noncomputable def jJ(k:Nat)(ks:List Nat):List Nat:=ks.take (aIn k ks)++k::ks.drop (aIn k ks)
theorem aFM:∀led:Bool,∀ks∈all16,∀k∈Ar 4,k∉ks->(lE led ks).freeSlot (k:Int)=some (k,false)/\(lE led ks).put k=(lE led (jJ k ks),aIn k ks)/\(lE led (jJ k ks)).fits (ks.length+1)=true/\(lE led (jJ k ks)).tooFull=false/\jJ k ks∈all16:=by decide +kernel
theorem iK:∀led:Bool,∀ks∈all16,(lE led ks).fits ks.length=true:=by decide +kernel
theorem aJt:∀k∈Ar 4,H9 (k:Int)=(k:Int):=by decide +kernel
noncomputable def cY(tok:Nat->HA)(ks:List Nat):Array (Int×Ac):=(ks.map λ(k:Nat)=>((k:Int),BQ (k:Int) (tok k))).toArray
theorem bU(tok:Nat->HA)(ks:List Nat):(cY tok ks).size=ks.length:=by unfold cY;rw[Ak,lM]
theorem zF{α:Type}(l:List α)(p:Nat)(x:α):ED l.toArray p x=(l.take p++x::l.drop p).toArray:=by unfold ED;grind
theorem aKW(tok:Nat->HA){ks:List Nat}{k:Nat}(t:HA)(I:k∉ks):ED (cY tok ks) (aIn k ks) ((k:Int),BQ (k:Int) t)=cY (λj=>if j=k then t else tok j) (jJ k ks):=by
 unfold cY jJ;rw[zF,Ax,mC,CW,DW];have e:(ks.map λ(j:Nat)=>((j:Int),BQ (j:Int) (if j=k then t else tok j)))=ks.map λ(j:Nat)=>((j:Int),BQ (j:Int) (tok j)):=AX λj q=>by rw[if_neg λz=>I (by rw[<-z];exact q)]
 rw[e];simp
section
variable {prog:Ay} {w:AJ} {A:Bf} {E:Ac->Ae->Prop} {s:Ae}
noncomputable def byT(w:AJ):Bool:=w.params.followText "set-order"
noncomputable def lJ(w:AJ)(h:Heap)(S:Ah)(ks:List Nat):Prop:=ks∈all16/\∃tok ep,h.get? S=some { cls:=.type "set",dict:=none,data:=.set (cY tok ks) ep (lE (!byT w) ks),slots:=#[] }
theorem aNH{tok:Nat->HA}{ks:List Nat}(h:ks∈all16):ElemsOf (BN prog w) (cY tok ks).toList:=by
 intro e q;unfold cY at q;rw[Du] at q;obtain⟨k,U,rfl⟩:=AH.mp q;have I:k∈Ar 4:=by obtain⟨m,_,rfl⟩:=AH.mp h;grind
 exact⟨⟨(k:Int),Go _ _ _ _,(aJt k I).symm⟩,rfl⟩
theorem aNI{tok:Nat->HA}{ks:List Nat}(k:Nat):((cY tok ks).toList.findIdx? λe=>(BN prog w).is (k:Int) e.2)=if k∈ks then ks.findIdx? (·==k) else none:=by
 unfold cY;rw[Du,List.findIdx?_map];have e:((λe:Int×Ac=>(BN prog w).is (k:Int) e.2)∘λj:Nat=>((j:Int),BQ (j:Int) (tok j)))=λj:Nat=>(j==k):=by
  funext j
  show DX (k:Int) (BQ (j:Int) (tok j))=(j==k)
  unfold DX;grind
 rw[e];grind
theorem aQe{S:Ah}{ks:List Nat}{k:Nat}{t:HA}{Q:Bool->Ae->Prop}(hS:lJ w s.heap S ks)(hk:k∈Ar 4)
 (h:∀h' b,C6 S s.heap h'->lJ w h' S (if k∈ks then ks else jJ k ks)->Q b { s with heap:=h' }):Av (AC prog w) A (Jd S (.int (k:Int) t) (H9 (k:Int))) Q E s:=by
 obtain⟨I,tok,ep,ho⟩:=hS;have hf:(lE (!byT w) ks).fits (cY tok ks).size=true:=by rw[bU];exact iK _ ks I
 have q1:ks.length<=4:=by
  have:∀ks∈all16,ks.length<=4:=by decide +kernel
  exact this ks I
 unfold Jd setAddHashedIn;refine AY (Aa (DJ ho rfl hf ?_));dsimp only;rw[byScan_of (knd:=BN prog w) rfl (by rw[bU];unfold DC;omega) (aNH I)];simp only[↓reduceIte];unfold setAddByScan;refine Aa ?_;refine Aa (Di ?_);refine Aa (wpAny_setScan_of (knd:=BN prog w) (k:=(k:Int)) (Go _ _ _ _) ho rfl hf (aNH I) ?_);rw[aNI];by_cases U:k∈ks;rw[if_pos U];obtain⟨j,hj⟩:∃j,ks.findIdx? (·==k)=some j:=by
  cases q:ks.findIdx? (·==k) with
  | some j=>grind|none=>rw[List.findIdx?_eq_none_iff] at q;have:=q k U;simp at this
 rw[hj];dsimp only;refine Af (Af ?_);have:=h s.heap false (GI S s.heap) (by rw[if_pos U];exact⟨I,tok,ep,ho⟩);exact this;rw[if_neg U];dsimp only;obtain⟨g1,g2,g3,g4,g5⟩:=aFM (!byT w) ks I k hk U;have W:layNew (lE (!byT w) ks) (cY tok ks) (H9 (k:Int)) (.int (k:Int) t)=(cY (λj=>if j=k then t else tok j) (jJ k ks),lE (!byT w) (jJ k ks),false,false):=by
  have hsz:(cY (λj=>if j=k then t else tok j) (jJ k ks)).size=ks.length+1:=by rw[bU];unfold jJ;rw[lA,lC,A9,BI];grind
  unfold layNew;rw[aJt k hk,g1];dsimp only;rw[g2];dsimp only;rw[aKW tok t U,hsz,show(lE (!byT w) (jJ k ks)).orStandIn (ks.length+1)=lE (!byT w) (jJ k ks) by unfold JE;rw[g3,if_pos rfl],g3];rfl
 rw[W];dsimp only;refine Aa (Af ?_);rw[if_pos (show(lE (!byT w) (jJ k ks)).plain=true from rfl),hashByValue_scannable 8 (x:=.int (k:Int) t) rfl];refine Aa (Af ?_);rw[if_pos (show plainKind (.int (k:Int) t)=true from rfl)];have q0:(cY (λj=>if j=k then t else tok j) (jJ k ks)).size<DC:=by
  have:∀ks∈all16,ks.length<=4:=by decide +kernel
  have:=this _ g5;rw[bU];unfold DC;omega
 refine Aa (wpAny_storeSet_of ho rfl ?_ (fits_of_scanBound q0));rw[g4];refine Af ?_;refine Af (h _ true (Ek s.heap S _) ?_);rw[if_neg U];refine⟨g5,λj=>if j=k then t else tok j,ep+1,?_⟩;have:=C0 (Obj.putSet (cY (λj=>if j=k then t else tok j) (jJ k ks)) (lE (!byT w) (jJ k ks))) ho rfl;exact this
end
noncomputable def aAS(ks:List Nat)(k:Nat):List Nat:=if k∈ks then ks else jJ k ks
noncomputable def wJ(ns:List Nat):List Nat:=ns.foldl aAS []
theorem aDN(ns:List Nat)(k:Nat):wJ (ns++[k])=aAS (wJ ns) k:=by unfold wJ;rw[Dd];rfl
noncomputable def aFN(vs:List Ac)(ns:List Nat):Prop:=Cp (λv (n:Nat)=>n<4/\∃t,v=BQ (n:Int) t) vs ns
theorem aFN.get:∀{vs:List Ac} {ns:List Nat},aFN vs ns->∀{i:Nat} {v:Ac},vs[i]? = some v->∃n,ns[i]? = some n/\n<4/\∃t,v=BQ (n:Int) t
 | _,_,.nil,_,_,h=>by simp at h|_,_,.cons r _,0,_,h=>by simp at h;subst h;exact⟨_,rfl,r⟩|_,_,.cons _ t,i+1,v,h=>by obtain⟨k,h1,h2⟩:=aFN.get t (i:=i) (v:=v) (by simpa using h);exact⟨k,by simpa using h1,h2⟩
section
variable {prog:Ay} {w:AJ} {A:Bf} {R:F9->Ae->Prop} {I:Ah} {fp wr:List Ah} {G':Array F7->Array F7->Prop} {n:Nat} {P:Nat->Ac->Prop} {St:Nat->Ae->Prop}
theorem lJ.keep{h h':Heap}{S:Ah}{ks:List Nat}(x:lJ w h S ks)(e:∀o,h.get? S=some o->h'.get? S=some o):lJ w h' S ks:=by obtain⟨a,tok,ep,q⟩:=x;exact⟨a,tok,ep,e _ q⟩
theorem aDO(W:WalksS prog w A.in1 I fp wr G' n P St)(S:Ah)(q1:S∉fp)(ns:List Nat)(q5:∀i v,P i v->∃k,ns[i]? = some k/\k<4/\∃t,v=BQ (k:Int) t)(hn:ns.length=n) :
 ∀(m i:Nat) (s:Ae),n-i=m->i<=n->St i s->lJ w s.heap S (wJ (ns.take i)) ->
  (∀q,Moved (S::wr) G' s q->lJ w q.heap S (wJ ns)->R (.ok (.ret .none)) q) ->
  D4 (AC prog w) A (.builtin "set.update.loop" ⟨[.ref S,.ref I],[]⟩) R s:=by
 have nw:S∉wr:=λh=>q1 (W.sub _ h);have sb:∀b∈wr,b∈S::wr:=λb hb=>Au _ hb;intro m
 induction m with
 | zero=>
  intro i s hk hi U hS hR;obtain rfl:i=n:=by omega
  refine Bm BC ?_;rw[AZ Bg _];show Av _ A.in1 (CY (.ref I) >>= _) _ _ s;refine Aa (W.done s _ _ U λq hm=>?_);show Av _ A.in1 (ret C8) _ _ q;rw[Bz (by omega)] at hS;exact Af (hR q (hm.mono sb) (hS.keep λo e=>hm.heap S o nw e))
 | succ m ih=>
  intro i s hk hi U hS hR;refine Bm BC ?_;rw[AZ Bg _];show Av _ A.in1 (CY (.ref I) >>= _) _ _ s;refine Aa (W.item i s _ _ (by omega) U λv q hP q4 hm=>?_);obtain⟨k,q7,q8,t,rfl⟩:=q5 i v hP;have q9:ns.take (i+1)=ns.take i++[k]:=by rw[E5,q7];rfl
  show Av _ A.in1 (Fa [BQ (k:Int) t] (JC S (BQ (k:Int) t)) >>= _) _ _ q;refine Aa (AY ?_);unfold JC;refine AY ?_;refine Aa ((BN prog w).pyHash (k:=(k:Int)) (Go _ _ _ _) ?_);refine aQe (s:={ q with toks:=q.toks+1 }) (hS.keep λo e=>hm.heap S o nw e) (B5.mpr q8) λh' b q3 q6=>?_;refine Af ⟨BL Bg _,ih (i+1) _ (by omega) (by omega) (W.frame _ q _ _ q4 (DB _) λb hb o e=>?_) (by rw[q9,aDN];exact q6) λw3 q2 q0=>?_⟩;rw[q3.2 b λh:b=S=>q1 (by rw[<-h];exact hb)];exact e;refine hR w3 (Jt W.gtrans ((hm.mono sb).then_heap (DB _) λb o hb e=>?_) q2) q0;rw[q3.2 b λh:b=S=>hb (by rw[h];grind)];exact e
end
section
variable {prog:Ay} {w:AJ} {A:Bf} {E:Ac->Ae->Prop} {s:Ae}
theorem aFO(a:Ac){Q₁:Ac->Ae->Prop}(h:Q₁ (.ref s.heap.objs.size) { s with heap:=s.heap.push { cls:=.type "set",dict:=none,data:=.set #[] 0 (.fresh 0 0 (!byT w)) } }) :
 D4 (AC prog w) A (.call (.builtin "set.__new__") ⟨[.type "set",a],[]⟩) (wants Q₁ E) s:=by
 refine Fz ?_;show Av _ A.in1 (do checkBuiltinCall "set.__new__" ⟨[.type "set",a],[]⟩;again (.builtin "set.__new__" ⟨[.type "set",a],[]⟩)) _ _ s;refine Aa (FF (F.newCall_set_1 a) (Af ⟨BL Hr _,Bm F.entry_set_new ?_⟩));rw[AZ Hr _];unfold Cz.«set.__new__» Ie;have q:=sub_set_self;obtain⟨I,g,d,tk,os⟩:=s;dsimp only
 wp_walk
 refine Dq (Af ?_);dsimp only;simp only[newObj];refine Aa (wpAny_alloc (Af ?_));exact Af h
set_option maxHeartbeats 3200000 in
theorem aDP{l:Ah}{items:Array Ac}{ns:List Nat}{Q:Ac->Ae->Prop}(hh:A.handled=none)(hl:s.heap.IsList l items)(hi:aFN items.toList ns)(hn:ns.length=items.size)
 (h:∀(h':Heap) (tk:Nat),lJ w h' s.heap.objs.size (wJ ns)->(∀b o,b<s.heap.objs.size->s.heap.get? b=some o->h'.get? b=some o)->Q (.ref s.heap.objs.size) { s with heap:=h',toks:=tk }) :
 Av (AC prog w) A (call (.type "set") [.ref l]) Q E s:=by
 obtain⟨c,tl,w9⟩:=AM.mro;have w4:=AM.made;have z2:=AM.sub;refine HK (Fz ?_);show Av _ _ (callAny (.type "set") _) _ _ _;refine Af ⟨Gq _ (by decide +kernel),Bm GC ?_⟩;rw[Gr (F2 "set" [.ref l] []) rfl];have h1:=AM.notType;have h2:=AM.canCreate;have z5:=Fp (.ref l)
 repeat (any_goals (first|assumption|wp_step))
 refine Dn (aFO (.ref l) (E:=E) (Q₁:=λobj I=>obj=.ref s.heap.objs.size/\I={ s with heap:=s.heap.push { cls:=.type "set",dict:=none,data:=.set #[] 0 (.fresh 0 0 (!byT w)) } }) ⟨rfl,rfl⟩) λr I hr=>?_;cases r with
 | error e=>exact hr|ok fl=>
  cases fl with
  | ret obj=>
   obtain⟨rfl,rfl⟩:=hr;generalize q4:(!byT w)=led at *;have z7:=AM.init.lookup;have z4:=AM.init.bind (.ref s.heap.objs.size)
   repeat (any_goals (first|assumption|wp_step))
   refine Dn (FH (R:=wants (λr U=>r=.none/\∃h' tk,U={ s with heap:=h',toks:=tk }/\lJ w h' s.heap.objs.size (wJ ns) /\
    (∀b o,b<s.heap.objs.size->s.heap.get? b=some o->h'.get? b=some o)) E) AM.init.plain GU (GV (⟨_,(Aj _ rfl),rfl⟩) ?_)) λq6 U q=>?_
   . obtain⟨ol,q5,q1,nl,q2⟩:=hl;obtain⟨z3,w6,w5,q7⟩:=ol;simp only at q1 q2;subst q1;subst q2;have z1:=FI;have z0:=E6;have z8:(Eu "list" == Eu "dict")=false:=by decide
     have q3:(s.heap.push { cls:=.type "set",dict:=none,data:=.set #[] 0 (.fresh 0 0 led) }).IsList l items:=⟨_,(Ab _ q5),rfl,nl,rfl⟩
     unfold Cz.«set.__init__» noKeywords Eh;generalize q8:Gh=PI
     wp_walk
     subst q8;refine BO q3 ?_;refine Aa (FJ ?_);have z6:l<s.heap.objs.size:=An q5;have q9:A.in1.in1.in1.handled=none:=by simp[hh]
     have hsz:(s.heap.push { cls:=.type "set",dict:=none,data:=.set #[] 0 (.fresh 0 0 led) }).objs.size=s.heap.objs.size+1:=Bo _ _;refine aDO ((Gp q9 _ l (by rw[hsz];grind) items).toS) s.heap.objs.size
      (by
       rw[hsz];grind) ns
      (λi v hv=>hi.get (by rw[BV];exact hv)) hn (items.size-0) 0 _ (by omega) (Bw _)
      ⟨⟨_,Aj _ rfl,rfl,rfl⟩,(q3.push _)⟩ ?hS0 ?hR
     case hS0=>refine⟨show([]:List Nat)∈all16 by decide +kernel,λ_=>0,0,?_⟩;rw[q4];exact Ab _ (Aj _ rfl)
     case hR=>intro s' hm q0;obtain⟨h',g',d',w8,w7⟩:=s';have eg:g'=s.gens:=hm.gens;have ed:d'=s.drawn:=hm.drawn;have eo:w7=s.os:=hm.os;subst eg;subst ed;subst eo;show Av _ _ _ _ _ _;refine Af ?_;show Av _ _ (ret C8) _ _ _;refine Af ⟨rfl,h',w8,rfl,q0,λb o hb e=>?_⟩;refine hm.heap b o ?_ (Ab _ (Ab _ e));rw[hsz];grind
   . cases q6 with
     | error e=>exact q|ok W=>
      cases W with
      | ret r=>
       obtain⟨rfl,h',tk,rfl,q0,w3⟩:=q
       repeat (any_goals (first|assumption|wp_step))
       exact h _ _ q0 w3
      | _=>exact q.elim
  | _=>exact hr.elim
end
set_option maxRecDepth 100000
theorem cZ:Slot "set_iterator" "__next__" "set_iterator.__next__" :=
 .of (owner:= "set_iterator") (n:= "__next__") (by rw[Hs,F3];kernel_rfl) (by decide +kernel) (by decide +kernel) (by decide +kernel)
  (by first|exact .inl (by decide +kernel)|exact .inr (by decide +kernel)) (by rw[FM];kernel_rfl)
theorem jH:Jv table "set_iterator.__next__" = some Cz.«set_iterator.__next__»:=entryFor_of_tree (by kernel_rfl)
theorem jQ(a:Ac):JF "set_iterator.__next__" ⟨[a],[]⟩:=by unfold JF;kernel_rfl
theorem rP:Jv table "set.__iter__" = some Cz.«frozenset.__iter__»:=
 Ig (id':= "frozenset.__iter__") (by kernel_rfl) rfl (by decide +kernel) (by kernel_rfl)
theorem jR:Slot "set_iterator" "__iter__" "set_iterator.__iter__" :=
 .of (owner:= "set_iterator") (n:= "__iter__") (by rw[Hs,F3];kernel_rfl) (by decide +kernel) (by decide +kernel) (by decide +kernel)
  (by first|exact .inl (by decide +kernel)|exact .inr (by decide +kernel)) (by rw[FM];kernel_rfl)
theorem pP:Jv table "set_iterator.__iter__" = some Cz.«dict_keyiterator.__iter__»:=
 Ig (id':= "dict_keyiterator.__iter__") (by kernel_rfl) rfl (by decide +kernel) (by kernel_rfl)
theorem rQ(a:Ac):JF "set_iterator.__iter__" ⟨[a],[]⟩:=by unfold JF;kernel_rfl
theorem rR{α:Type}:∀(l:List α) (j:Nat) (h:j<l.length),(l[j]::l.eraseIdx j).Perm l
 | [],_,h=>absurd h (Cj _)|a::l,0,_=>JX _|a::l,j+1,h=>(JY a (l[j]'(by simpa using h)) _).trans ((rR l j (by simpa using h)).cons a)
theorem uM{α:Type}(next:Nat->Nat):∀(q k:Nat) (left:List α) (out:Array α),left.length=q->(GJ next q k left out).toList.Perm (out.toList++left)
 | 0,_,left,out,h=>by have:left=[]:=List.eq_nil_of_length_eq_zero h;subst this;rw[GJ,AO]|q+1,k,left,out,h=>by rw[GJ,Ad (Ih _ (by omega))];dsimp only;refine(uM next q (k+1) _ _ (by rw[Bj (Ih _ (by omega))];omega)).trans ?_;rw[Array.toList_push,AU];exact Jj _ (rR _ _ (Ih _ (by omega)))
noncomputable def tR(w:AJ)(S:Ah)(ep:Nat)(es:Array (Int×Ac)):Array (Int×Ac):=if byT w then pickOrder (w.params.setOrder S ep) es else es
theorem zG(w:AJ)(S:Ah)(ep:Nat)(es:Array (Int×Ac)):(tR w S ep es).toList.Perm es.toList:=by unfold tR;split;unfold pickOrder;refine(uM _ _ _ _ _ (by rw[B3])).trans ?_;simp;grind
theorem jS(w:AJ)(S:Ah)(ep:Nat)(es:Array (Int×Ac)):(tR w S ep es).size=es.size:=by rw[<-B3,(zG w S ep es).length_eq,B3]
noncomputable def aAT(ks:List Nat):Nat->Nat
 | 0=>0|i+1=>ks.getD i 0+1
noncomputable def slotV(w:AJ)(ks:List Nat)(i:Nat):Nat:=if byT w then 0 else aAT ks i
theorem aKX:∀ks∈all16,∀i∈Ar 5,i<=ks.length->E8 ks.toArray (aAT ks i)=i:=by decide +kernel
section
variable {prog:Ay} {w:AJ} {A:Bf} {E:Ac->Ae->Prop} {s:Ae}
noncomputable def aAU(w:AJ)(tok:Nat->HA)(ep:Nat)(ks:List Nat):Obj:={ cls:=.type "set",dict:=none,data:=.set (cY tok ks) ep (lE (!byT w) ks),slots:=#[] }
noncomputable def rS(w:AJ)(S:Ah)(ep:Nat)(ks:List Nat)(i:Nat):Obj:={ cls:=.type "set_iterator",dict:=none,data:=.fields #[Ca (slotV w ks i),Ca i,.ref S,Ca ks.length,Ca ep],slots:=#[] }
variable {S I:Ah} {tok:Nat->HA} {ep i:Nat} {ks:List Nat}
theorem aJu{Q:Option (Ac×Nat)->Ae->Prop}(q:ks∈all16)(ho:s.heap.get? S=some (aAU w tok ep ks))(hi:i<=ks.length)
 (h:Q (((tR w S ep (cY tok ks))[i]?).map λe=>(e.2,slotV w ks (i+1))) s):Av (AC prog w) A (Je S (slotV w ks i) i ep) Q E s:=by
 unfold Je;refine Aa (DJ ho rfl (by rw[bU];exact iK _ ks q) ?_);dsimp only;unfold Ii;refine Aa (Aa (Dq (Af ?_)));show Av _ _ (if byT w=true then _ else _) _ _ s;unfold tR slotV at h;unfold slotV;cases hb:byT w with
 | true=>rw[hb,if_pos rfl,if_pos rfl] at h;rw[if_pos rfl,if_pos rfl];rw[if_neg (by simp)];unfold setWalk;refine Aa (Aa (DJ ho rfl (by rw[bU];exact iK _ ks q) ?_));dsimp only;unfold Ii;refine Aa (Aa (Dq (Af ?_)));show Av _ _ (if byT w=true then _ else _) _ _ s;rw[hb,if_pos rfl];refine Aa (Dq (Af ?_));exact Af h|false=>
  rw[hb,if_neg bN,if_neg bN] at h;rw[if_neg bN,if_neg bN];show Av _ _ (if (!true&&decide ((cY tok ks).size>1))=true then _ else _) _ _ s;rw[if_neg (by simp)];refine Aa ?_;show Av _ _ (if (!(!false)&&!(cY tok ks).isEmpty)=true then _ else _) _ _ s;rw[if_neg (by simp)];refine Af ?_;have q0:=aKX ks q i (B5.mpr (by
   have:∀ks∈all16,ks.length<=4:=by decide +kernel
   have:=this ks q;omega)) hi
  show Av _ _ (pure (match (cY tok ks)[E8 ks.toArray (aAT ks i)]?,ks.toArray[E8 ks.toArray (aAT ks i)]? with
   | some (_,x),some j=>some (x,j+1)|_,_=>none)) _ _ s
  rw[q0];refine Af ?_;have e:(match (cY tok ks)[i]?,ks.toArray[i]? with|some (_,x),some j=>some (x,j+1)|_,_=>none)=((cY tok ks)[i]?).map λe=>(e.2,aAT ks (i+1)):=by
   by_cases U:i<ks.length;have W:(cY tok ks)[i]? = some ((ks[i]:Int),BQ (ks[i]:Int) (tok ks[i])):=by unfold cY;rw[CZ,A7,Ad U];rfl
   have e2:ks.toArray[i]? = some ks[i]:=by rw[CZ,Ad U]
   rw[W,e2];simp[U,aAT];have W:(cY tok ks)[i]? = none:=by unfold cY;rw[CZ,A7,B4 (by omega)];rfl
   rw[W];rfl
  rw[e];exact h
theorem aNJ{e:Int×Ac}{Q:Option Ac->Ae->Prop}(q:ks∈all16)(ho:s.heap.get? S=some (aAU w tok ep ks))(U:s.heap.get? I=some (rS w S ep ks i))(q1:S≠I)(W:(tR w S ep (cY tok ks))[i]? = some e)
 (hQ:∀h',h'.get? I=some (rS w S ep ks (i+1))->C6 I s.heap h'->Q (some e.2) { s with heap:=h' }):Av (AC prog w) A (CY (.ref I)) Q E s:=by
 have q0:i<ks.length:=by have:=(Array.getElem?_eq_some_iff.mp W).1;rw[jS,bU] at this;exact this
 unfold CY;refine Aa (Dz (Ba (⟨_,U,rfl⟩) cZ (Bb cZ (⟨_,U,rfl⟩) jH ?_ (jQ _))));unfold Cz.«set_iterator.__next__» Jw;simp only[DU,BK,bF,↓reduceIte,bind_assoc,lN,bne_self_eq_false];refine Aa (Af ?_)
 try dsimp only
 refine Aa (Ij U rfl ?_);show Av _ _ (setEntries S >>= _) _ _ s;refine Aa (Em ho rfl (by rw[bU];exact iK _ ks q) ?_);rw[if_neg (by rw[bU];simp)];show Av _ _ (Je S ((slotV w ks i:Int).toNat) ((i:Int).toNat) ((ep:Int).toNat) >>= _) _ _ s;rw[BD,BD,BD];refine Aa (aJu q ho (by omega) ?_);rw[W];dsimp only[Option.map_some];refine Aa (AW U (by simp) λh1 g1 b1=>?_);refine Aa (AW g1 (by simp) λh2 g2 b2=>?_);refine Af ⟨e.2,rfl,Af (hQ h2 ?_ (b1.trans b2))⟩;rw[g2];simp[rS,Ca]
theorem aQf{Q:Option Ac->Ae->Prop}(W:A.handled=none)(q:ks∈all16)(ho:s.heap.get? S=some (aAU w tok ep ks))(U:s.heap.get? I=some (rS w S ep ks ks.length))
 (hQ:∀h',DZ I s.heap h'->Q none { s with heap:=h' }):Av (AC prog w) A (CY (.ref I)) Q E s:=by
 have he:(tR w S ep (cY tok ks))[ks.length]? = none:=by rw[Array.getElem?_eq_none_iff,jS,bU];grind
 unfold CY;refine Aa (Dz (Ba (⟨_,U,rfl⟩) cZ (Bb cZ (⟨_,U,rfl⟩) jH ?_ (jQ _))));unfold Cz.«set_iterator.__next__» Jw;simp only[DU,BK,bF,↓reduceIte,bind_assoc,lN,bne_self_eq_false];refine Aa (Af ?_)
 try dsimp only
 refine Aa (Ij U rfl ?_);show Av _ _ (setEntries S >>= _) _ _ s;refine Aa (Em ho rfl (by rw[bU];exact iK _ ks q) ?_);rw[if_neg (by rw[bU];simp)];show Av _ _ (Je S ((slotV w ks ks.length:Int).toNat) ((ks.length:Int).toNat) ((ep:Int).toNat) >>= _) _ _ s;rw[BD,BD,BD];refine Aa (aJu q ho (Ap _) ?_);rw[he];dsimp only[Option.map_none];refine Aa (AW U (by simp) λh1 g1 b1=>?_);show Av _ _ (JD (.type "StopIteration") [] >>= _) _ _ _;refine Aa ?_;simp only[JD,newTuple];refine Aa (Bn ?_ (by size_fits));refine Aa (FF (by first|rfl|(simp only[Ia];rfl)) ?_);refine Bn ?_ (by size_fits);simp only[raiseNew];refine Aa (ID ?_)
 first|rw[show A.in1.handled=none from W]|rw[W]
 refine Aa (Af (Ju ?_));refine Aa (Cs ⟨_,Aj _ rfl,rfl⟩ FL ?_);exact Af (hQ _ ((b1.extBut.push _).push _))
theorem aKY(hh:A.handled=none)(q:ks∈all16)(W:S≠I):Walks prog w A I [I,S] [I] ks.length (λi v=>∃e,(tR w S ep (cY tok ks))[i]? = some e/\v=e.2) (λi h=>h.get? I=some (rS w S ep ks i)/\h.get? S=some (aAU w tok ep ks)) where
 sub:=λb hb=>by rw[A0.mp hb];grind
 frame:=λi h h' st k=>⟨k I A3 _ st.1,k S (Au _ (A0.mpr rfl)) _ st.2⟩
 item:=λi s Q E hi st U=>by refine aNJ q st.2 st.1 W (B9 (by rw[jS,bU];exact hi)) λh' g b=>U _ h' s.toks ⟨_,B9 (by rw[jS,bU];exact hi),rfl⟩ ⟨g,?_⟩ λc o hc e=>?_;rw[b.2 S W];exact st.2;rw[b.2 c λz=>hc (by rw[z];grind)];exact e
 done:=λs Q E st U=>aQf hh q st.2 st.1 λh' b=>U h' s.toks λc o hc e=>b c o (λz=>hc (by rw[z];grind)) e
 self:=λi s Q E st U=>by refine GK (⟨_,st.1,rfl⟩) jR (Bb jR (⟨_,st.1,rfl⟩) pP ?_ (rQ _));show Av _ _ (ret (.ref I)) _ _ s;exact Af ⟨_,rfl, "set_iterator",_,(⟨_,st.1,rfl⟩),cZ.lookup,U⟩
theorem aNK{Q:Ac->Ae->Prop}(U:ks∈all16)(q:s.heap.get? S=some (aAU w tok ep ks))(h:Q (.ref s.heap.objs.size) { s with heap:=s.heap.push (rS w S ep ks 0) }):Av (AC prog w) A (Gh (.ref S)) Q E s:=by
 have W:(lE (!byT w) ks).fits (cY tok ks).size=true:=by rw[bU];exact iK _ ks U
 refine GK (⟨_,q,rfl⟩) F4 (Bb F4 (⟨_,q,rfl⟩) rP ?_ (PySem.F.args_set_iter_1 _));unfold Cz.«frozenset.__iter__» IS Jw;simp only[DU,BK,bF,↓reduceIte,bind_assoc,lN,bne_self_eq_false];unfold IE IF;refine Aa (Af ?_)
 try dsimp only
 refine Aa (Af ?_);refine Aa (Aa (Em q rfl W (Af ?_)));unfold setDrawn Ii;refine Aa (Aa (DJ q rfl W ?_));dsimp only;refine Aa (Aa (Dq (Af ?_)));refine Af ?_;show Av _ _ (if (!byT w&&(!true&&decide ((cY tok ks).size>1)))=true then _ else _) _ _ s;rw[if_neg (by simp)];refine Aa (Af ?_);refine Aa (wpAny_setEpoch_of q rfl W ?_);refine Aa (Bn ?_);have e:(#[Ca 0,Ca 0,CV S,Ca ((cY tok ks).size:Int),Ca (ep:Int)]:Array Ac)=#[Ca (slotV w ks 0),Ca ((0:Nat):Int),.ref S,Ca ks.length,Ca ep]:=by
  rw[bU];have:slotV w ks 0=0:=by unfold slotV aAT;split <;> rfl
  rw[this];rfl
 refine Af ⟨_,rfl, "set_iterator",_,⟨_,Aj _ rfl,rfl⟩,cZ.lookup,?_⟩;show Q (.ref s.heap.objs.size) { s with heap:=s.heap.push { cls:=.type "set_iterator",data:=.fields #[Ca 0,Ca 0,CV S,Ca ((cY tok ks).size:Int),Ca (ep:Int)] } };rw[e];exact h
theorem aDQ{P:Nat->Ac->Prop}{q:Array Ac}{m:Nat}{od:List (Int×Ac)}(W:∀i v,P i v->∃e,od[i]? = some e/\v=e.2)(h:ItemsOf P q m)(hm:od.length=m):q.toList=od.map (·.2):=by refine GL λj=>?_;rw[BV,A7];by_cases U:j<q.size;obtain⟨e,he,hv⟩:=W j q[j] (h.2 j _ (B9 U));rw[B9 U,he,hv];rfl;have h1:=h.1;rw[Array.getElem?_eq_none (by omega),B4 (by omega)];rfl
theorem aFP{Q:List Ac->Ae->Prop}(hh:A.handled=none)(W:ks∈all16)(ho:s.heap.get? S=some (aAU w tok ep ks))
 (hQ:∀U q1,(∀b o,s.heap.get? b=some o->U.heap.get? b=some o)->(s.heap.objs.size<U.heap.objs.size/\∃tk h',U={ s with heap:=h',toks:=tk })->q1=(tR w S ep (cY tok ks)).toList.map (·.2)->Q q1 U):Av (AC prog w) A (collect (.ref S)) Q E s:=by
 have hT:s.TypeIs (.ref S) "set" := ⟨_,ho,rfl⟩
 have q0:S<s.heap.objs.size:=An ho;unfold collect;refine Aa (FJ (Bm F.entry_proto_collect ?_));rw[AZ F.plain_proto_collect _];show Av _ A.in1 (newList [] >>= λl=>again (.builtin "list.__iadd__" ⟨[l,.ref S],[]⟩)) _ _ s;refine Aa (Bn ?_);refine Af ⟨BL GM _,Bm F.entry_list_iadd ?_⟩;rw[AZ GM _];have q:(s.heap.push { cls:=.type "list",data:=.seq ([]:List Ac).toArray }).get? S=some (aAU w tok ep ks):=Ab _ ho;have h1:EJ (.ref s.heap.objs.size) (.ref S)=false:=by simp only[EJ,beq_eq_false_iff_ne];exact BY q0
 show Av _ A.in1 (Et (.ref s.heap.objs.size) (.ref S) (.ref s.heap.objs.size)) _ _ _;unfold Et;refine Aa (Eo (⟨_,q,rfl⟩) ?_);rw[if_neg (by rw[h1];decide)];refine Aa (aNK W q ?_);refine Aa (AY ?_);unfold HB;refine Aa (CQ (⟨_,(Ab _ q),rfl⟩) PySem.F.slot_set_len.lookup ?_);generalize hid:("set.__len__" : String)=id0
 wp_delta
 rw[show splitId id0=some ("set", "__len__") from by subst hid;decide +kernel];subst hid;refine Aa (Cs (b:=true) (⟨_,(Ab _ q),rfl⟩) (by rw[FM];kernel_rfl) ?_);rw[if_neg (by decide)];dsimp only;rw[if_pos (by decide +kernel)];refine Aa (Eo (⟨_,(Ab _ q),rfl⟩) ?_);refine Af ?_;rw[if_pos (by decide +kernel)];refine Aa (Di ?_);unfold Jf;have q4:((s.heap.push { cls:=.type "list",data:=.seq ([]:List Ac).toArray }).push (rS w S ep ks 0)).get? s.heap.objs.size=some { cls:=.type "list",data:=.seq ([]:List Ac).toArray }:=Ab _ (Aj _ rfl);refine Aa (Aa (IG q4 rfl ?_));have q5:=Ht (xs:=#[]) (n:=0) q4 (λx=>x.push C8);refine IG q5 rfl ?_;have q3:((s.heap.push { cls:=.type "list",data:=.seq ([]:List Ac).toArray }).push (rS w S ep ks 0)).get? (s.heap.push { cls:=.type "list",data:=.seq ([]:List Ac).toArray }).objs.size=some (rS w S ep ks 0):=Aj _ rfl;rw[(HX _ _)] at q3 ⊢;have keep:∀b o,b≠s.heap.objs.size->((s.heap.push { cls:=.type "list",data:=.seq ([]:List Ac).toArray }).push (rS w S ep ks 0)).get? b=some o->((((s.heap.push { cls:=.type "list",data:=.seq ([]:List Ac).toArray }).push (rS w S ep ks 0)).update s.heap.objs.size (D8 λx=>x.push C8)).update s.heap.objs.size (D8 λx=>x.pop)).get? b=some o:=λb o hb e=>by rw[BR _ _ _ _ hb,BR _ _ _ _ hb];exact e
 have q9:s.heap.objs.size∉[s.heap.objs.size+1,S]:=λhm=>by grind
 have q8:∀ks∈all16,ks.length<=4:=by decide +kernel
 refine Af ⟨BL F.plain_extend_loop _,codeAny_extend_loopS (aKY (A:=A.in1) (tok:=tok) (ep:=ep) hh W (λz=>Ic.mpr (DB _) (z▸q0))).toS (AL (q8 ks W) (by decide)) _ q9 _ ks.length 0 _ #[] 2 (Fo _) (Bw _) ⟨keep _ _ (by omega) q3,keep _ _ (A8 q0) (Ab _ q)⟩ (Ht q5 (λx=>x.pop)) (ItemsOf.nil _) λU q2 c' hm q6 q7=>?_⟩;show Av _ A (load s.heap.objs.size >>= _) _ _ U;refine Aa (wpAny_load q6 ?_);refine Af (hQ U q2.toList (λb o e=>?_) ?_ ?_);have hb:b<s.heap.objs.size:=An e;refine hm.heap b o (λz=>?_) (keep b o (A8 hb) (Ab _ (Ab _ e)));rcases AA.mp z with z|z;exact A8 hb z;exact Ic.mpr (DB _) (A0.mp z▸hb);obtain⟨h',g',d',w4,w3⟩:=U;have eg:g'=s.gens:=hm.gens;have ed:d'=s.drawn:=hm.drawn;have eo:w3=s.os:=hm.os;subst eg;subst ed;subst eo;exact⟨An q6,w4,h',rfl⟩;exact aDQ (λi v ⟨e,he,hv⟩=>⟨e,by rw[BV];exact he,hv⟩) q7 (by rw[B3,jS,bU])
end
set_option maxRecDepth 100000
theorem aBZ:∀{as bs:List Int},as.Pairwise (·<=·)->bs.Pairwise (·<=·)->as.Perm bs->as=bs
 | [],bs,_,_,p=>(p.nil_eq)
 | a::as,[],_,_,p=>absurd p.length_eq (by simp)|a::as,b::bs,ha,hb,p=>by
  have q:a=b:=by have h1:=p.subset A3;have h2:=p.symm.subset A3;rcases AA.mp h1 with h1|h1;exact h1;rcases AA.mp h2 with h2|h2;exact h2.symm;have I:=(Cy.mp ha).1 b h2;have U:=(Cy.mp hb).1 a h1;omega
  subst q;rw[aBZ (Cy.mp ha).2 (Cy.mp hb).2 (JG p)]
theorem aKZ:∀ks∈all16,(ks.map FS).Pairwise (·<=·):=by decide +kernel
theorem aNL:∀ks∈all16,ks.length<=4:=by decide +kernel
theorem zH:∀{es:List (Int×Ac)},(∀e∈es,∃t,e.2=BQ e.1 t)->CD (es.map (·.2)) (es.map (·.1))
 | [],_=>.nil|e::es,h=>by obtain⟨t,q⟩:=h e A3;rw[mC,mC,q];exact .cons _ _ (zH λx I=>h x (Au _ I))
theorem aIo{tok:Nat->HA}{ks:List Nat}:∀e∈(cY tok ks).toList,∃t,e.2=BQ e.1 t:=by intro e q;unfold cY at q;rw[Du] at q;grind
theorem aLa{tok:Nat->HA}{ks:List Nat}:(cY tok ks).toList.map (·.1)=ks.map FS:=by unfold cY;rw[Du,Aw];rfl
section
variable {prog:Ay} {w:AJ} {A:Bf} {E:Ac->Ae->Prop} {s:Ae}
theorem zI{S:Ah}{ks:List Nat}{Q:Ac->Ae->Prop}(hh:A.handled=none)(hS:lJ w s.heap S ks)
 (h:∀(h':Heap) (tk:Nat) (L:Ah) (out:List Ac) (n:Nat),s.heap.objs.size<=L->(∀b o,s.heap.get? b=some o->h'.get? b=some o)->h'.get? L=some (seqObj "list" out.toArray n)->CD out (ks.map FS)->Q (.ref L) { s with heap:=h',toks:=tk }) :
 Av (AC prog w) A (call (.builtin "sorted") [.ref S]) Q E s:=by
 obtain⟨U,tok,ep,ho⟩:=hS;refine Calls.call_function_entry kind_sorted plain_sorted entry_sorted (args_sorted1 _) ?_;unfold Cz.«sorted»;refine Aa (Af ?_);refine Aa (aFP hh U ho λs' W hk q2 I=>?_);obtain⟨q1,tk,h1,rfl⟩:=q2;have pm:=zG w S ep (cY tok ks);have q0:W.length<64:=by rw[I,lM,pm.length_eq,B3,bU];have:=aNL ks U;omega
 refine Aa (wpAny_newList ?_ (AL (En q0) (by decide)));have hI:CD W ((tR w S ep (cY tok ks)).toList.map (·.1)):=by rw[I];exact zH λe he=>aIo e (pm.subset he)
 refine Aa (AY (Bb slot_list_sort ⟨_,(Aj _ rfl),rfl⟩ entry_list_sort (list_sort_tree (Aj _ rfl) hI q0 λout q3 a1 a2 a3=>⟨_,rfl,?_⟩) (args_list_sort _)));obtain⟨n,hL⟩:=sortedHeap_at (Aj _ rfl);refine Af ⟨_,rfl,h _ _ h1.objs.size out.toList n (En q1) (λb o q=>?_) (by rw[Array.toArray_toList];exact hL) ((aBZ a3 (aKZ ks U) (by rw[<-aLa];exact a2.trans (pm.map _)))▸a1)⟩;rw[sortedHeap_old (A8 (An (hk b o q))) (by rw[HX];exact Cf (An (hk b o q)))];exact Ab _ (hk b o q)
end
end L2
namespace Hp
open PySem PySem.Spec PyProof.Rows L2
theorem aFQ:∀ks∈all16,∀k∈Ar 4,aAS ks k∈all16/\∀j∈Ar 4,(j∈aAS ks k↔j=k\/j∈ks):=by decide +kernel
theorem aFR:∀ks∈all16,ks=(Ar 4).filter λk=>decide (k∈ks):=by decide +kernel
theorem uN:∀(ns ks:List Nat),ks∈all16->(∀n∈ns,n<4)->ns.foldl aAS ks∈all16/\∀j∈Ar 4,(j∈ns.foldl aAS ks↔j∈ns\/j∈ks)
 | [],ks,h,_=>⟨h,λj _=>by simp⟩
 | n::ns,ks,h,h4=>by obtain⟨q,U⟩:=aFQ ks h n (B5.mpr (h4 n A3));obtain⟨W,b2⟩:=uN ns (aAS ks n) q λm I=>h4 m (Au _ I);grind
theorem aIp{ns:List Nat}(I:∀n∈ns,n<4):wJ ns=fQ ns:=by obtain⟨q,U⟩:=uN ns [] (by decide +kernel) I;unfold wJ fQ;rw[aFR _ q];refine List.filter_congr λj W=>?_;grind
section
variable {X:Cx} {P:Pg} {Γ:Ct} {n:Nat} {RT Y J:Ah->Prop} {Z:Sg} {pos:CB} {K:Fg} {H:Hp}
theorem uO:∀{ds:List D} {ns:List Nat} {ex:Ah->Prop} {vs:List V} {us:List Ac},vX ds=some ns->Reps K H ex ds vs->bC vs us->aFN us ns/\ns.length=us.length/\∀n∈ns,n<4
 | [],ns,ex,vs,us,h,r,rv=>by cases h;rw[show vs=[] from r] at rv;cases rv;exact⟨.nil,rfl,λn I=>by cases I⟩|d::ds,ns,ex,vs,us,h,r,rv=>by
  obtain⟨v,vr,e,h1,h2⟩:=r;subst e;cases rv with
  | cons U r2=>
   cases d with
   | int i=>
    unfold vX at h;split at h;rename_i hi;cases q:vX ds with
    | none=>rw[q] at h;cases h|some ms=>rw[q] at h;cases h;rw[show v=.int i from h1] at U;obtain⟨t,rfl⟩:=U;obtain⟨W,g2,g3⟩:=uO q h2 r2;refine⟨.cons ⟨by omega,t,?_⟩ W,by rw[lC,lC,g2],λn I=>?_⟩;rw[CF hi.1];rcases AA.mp I with z|z;rw[z];omega;exact g3 n z
    cases h
   | _=>cases h
theorem iH:∀{ns:List Int} {us:List Ac},CD us ns->bC (ns.map V.int) us
 | _,_,.nil=>.nil|_,_,.cons i t r=>.cons ⟨t,rfl⟩ (iH r)
theorem uP{ex:Ah->Prop}:∀(ks:List Nat),Reps K H ex (ks.map λ(k:Nat)=>D.int (k:Int)) ((ks.map FS).map V.int)
 | []=>.nil|k::ks=>.cons rfl (uP ks)
theorem aLb(M:Mc X P Γ n){a:E}{ea:As}{f g:Str}{pf pg p2:CB}(hf:f=("sorted" : Str))(hg:dN Γ f=true)(q1:g=("set" : Str))(q2:dN Γ g=true)(ha:PE X ea (WE X P n RT Y J Z a))(hp:aX ea=true) :
 PE X (.Call (.Name f pf) [.Call (.Name g pg) [ea] [] p2] [] pos) (WE X P n RT Y J Z (.sset a)):=by
 subst hf q1;intro G s ZV H Q I hw;obtain⟨S,h⟩:=hw;have h:=RE.bind' (h);obtain⟨x,ex,h⟩:=h.eq;cases hd:x.d with
 | lst ds=>
  rw[hd] at h;cases hk:vX ds with
  | none=>simp only[hk] at h;exact h.elim|some ns=>
   simp only[hk] at h;refine B6 (fE I (M.gl hg) (M.md.blt _ (by decide +kernel)) boot_sorted ?_ (by decide +kernel) (by decide +kernel));refine BW ?_ (aB rfl) rfl;rw[aB rfl];refine CM (B6 (fE I (M.gl q2) (M.md.blt _ (by decide +kernel)) (show BM "set" = some (.type "set") by kernel_rfl) ?_ (by decide +kernel) (by decide +kernel)));refine Bh (thn (eX ha hZ (aB hp) p2 G s ZV H (λus H1=>∃u,us=[u]/\Tk X.K H1/\Ro X.K RT Y J Z ZV H H1 x u) I ⟨S,?_⟩) λus s1 ⟨vs,H1,I1,r1,u,e1,t1,ro⟩=>?_) (aB hp) rfl;rw[ex];intro u H1 t1 ro;exact⟨u,rfl,t1,ro⟩;subst e1;obtain⟨u',rfl,ru⟩:=r1.one;obtain⟨b,xs,rfl,hS,_,rr⟩:=(ro.rv S).lst hd;cases ru;obtain⟨q6,r2,p,_⟩:=I1.list hS;obtain⟨hK,q0,h4⟩:=uO hk rr r2;refine aDP (I1.ok.hd M.calm) p.isList (by omega) (by rw[Ak];exact q0) λh' tk W U=>?_;have I2:L2.Inv X G ZV H1 { s1 with heap:=h',toks:=tk }:=I1.kept λb o e=>U b o (An e) e;refine DE ?_;refine zI (I2.ok.hd M.calm) W λh2 q5 L out m hL q3 q4 q=>?_;have l4:(fQ ns).length<=4:=by unfold fQ;grind
   rw[(aIp h4)] at q;have I3:L2.Inv X G ZV (upd H1 L (.lst (((fQ ns).map FS).map V.int))) { s1 with heap:=h2,toks:=q5 }:=I2.laid q3 hL ⟨by rw[lM,lM,Cb];omega,out,m,iH q,q4⟩;exact⟨.ref L,_,I3,rfl,((h) _ _ I3.tk ⟨ro.1.trans (aQ.new (I2.hok.fresh hL)),by rw[if_pos rfl];exact⟨L,_,_,rfl,rfl,ro.1.free (I2.hok.fresh hL),bD,uP (fQ ns)⟩⟩)⟩
 | _=>rw[hd] at h;exact h.elim
end
section
variable {X:Cx} {P:Pg} {Γ:Ct} {n:Nat} {RT Y J:Ah->Prop} {Z:Sg} {tg:As} {pos:CB}
noncomputable def aLc(lo c:Int)(m:Nat):L2.It:=⟨λi _=>i<m,λi H x H'=>H'=H/\x=.int (lo+i*c),λi _=>m<=i⟩
theorem zJ{Pr:Ay}{w:AJ}{K:Aq}(it:Ah)(lo c:Int)(m:Nat):vL Pr w K tg (aLc lo c m) [it] it (λi h=>Hg h it (lo+(i:Nat)*c) ((m:Int)-(i:Nat)) c) where
 mem:=A0.mpr rfl
 obj:=λi h st b U=>by grind
 keep:=λi h h' st k=>k it (A0.mpr rfl) _ st
 item:=by intro X hP hw hK hc i G s Z H E I hf st hg;subst hP hw hK;obtain⟨f0,f1,_,f3,f4,f5⟩:=hf it (A0.mpr rfl);refine(Jm (I.ok.hd hc) it lo c m).item i s _ _ hg st λv h' tk hv W kk=>?_;obtain⟨t,rfl⟩:=hv;exact⟨_,rfl,oY W rfl rfl (by decide) ⟨.int (lo+i*c),H,I.turned (λb o U e=>kk b o (λz=>U (A0.mp z)) e) f0 f1 f3 f4 f5,⟨t,rfl⟩,⟨rfl,rfl⟩,W,λb U=>(hf b U).1⟩⟩
 done:=by intro X hP hw hK hc i G s Z H E I hf st hg;subst hP hw hK;obtain⟨f0,f1,_,f3,f4,f5⟩:=hf it (A0.mpr rfl);exact Fb (I.ok.hd hc) st (by have q:m<=i:=hg;omega) λh' eb=>⟨rfl,I.turned (λb o U e=>eb b o U e) f0 f1 f3 f4 f5⟩
 self:=λ_ _ _ _ _ st h=>Fc st h
theorem aJv{a:Int}:BH a (-1) (-1)=((a+1).toNat:Nat):=by unfold BH;rw[if_neg (by decide)];split <;> simp <;> omega
theorem aLd{a:Int}(I:-(2 ^ 62)<=a)(q:a<2 ^ 62):FW a (-1) (-1)=true:=by
 have h1:BH a (-1) (-1)<=2 ^ 63-1/\0<=BH a (-1) (-1):=by rw[aJv];omega
 unfold FW;simp only[HC,bA,BG,AR,beq_iff_eq,if_neg (show ¬ ((-1:Int)>0) by decide)];omega
theorem aLe{K:Fg}{ZV:L2.St}{H:Hp}{a:Int}:yZ K RT Y J Z ZV H (aLc a (-1) (a+1).toNat) ((pC a).map Vl.cl) [] where
 sub:=λv I j W=>by obtain⟨d,_,e⟩:=AH.mp I;subst e;exact W
 nofr:=λv I=>by obtain⟨d,_,e⟩:=AH.mp I;subst e;rfl
 ok:=λR hR i H1 kp=>by
  have hl:((pC a).map Vl.cl).length=(a+1).toNat:=by unfold pC;rw[lM,lM,AS]
  refine⟨λhi=>(show i<_ by omega),λhi=>(show _<=i by omega),λy H' U v I=>?_⟩;obtain⟨e,U⟩:=U;subst e U;unfold pC at I;rw[Aw,A7] at I;have hi:i<(a+1).toNat:=by
   cases q:(Ar (a+1).toNat)[i]? with
   | none=>rw[q] at I;cases I|some z=>simpa using (Ao.mp q).1
  rw[El hi] at I;cases I;exact⟨aQ.refl _,id,congrArg V.int (by grind)⟩
theorem aJw{e:As}(h:aAI e=true):∃x p,e=.UnaryOp .USub x p/\∃c k q,x=.Constant c k q/\eqC (.int 1) c=true:=by obtain⟨⟨o,x⟩,⟨p,rfl⟩,g⟩:=aG h;rw[bA] at g;obtain⟨I,U⟩:=g;cases eq_of_beq I;obtain⟨c,⟨k,q,e⟩,h⟩:=aG U;exact⟨x,p,rfl,c,k,q,e,h⟩
theorem aNM(M:Mc X P Γ n){a:E}{f:Str}{p pos:CB}{ea y z:As}(hf:f=("range" : Str))(hg:dN Γ f=true)(ha:PE X ea (WE X P n RT Y J Z a))(hp:aX ea=true)(hy:aAI y=true)(hz:aAI z=true):PI X tg (.Call (.Name f p) [ea,y,z] [] pos) (wI X P n RT Y J Z (.dwn a)):=by
 subst hf;obtain⟨x1,p1,rfl,c1,k1,q1,rfl,hy⟩:=aJw hy;obtain⟨x2,p2,rfl,c2,k2,q2,rfl,hz⟩:=aJw hz;intro G s ZV H RR I ⟨S,h⟩;obtain⟨x,ex,h⟩:=RE.eq (RE.bind' (h));split at h;rename_i i W;obtain⟨c,h⟩:=h.iff;have c:=eQ c;refine JK (fE I (M.gl hg) (M.md.blt _ (by decide +kernel)) HH (Bh (thn ((iE ha (iE (aFp (s_c hy)) (iE (aFp (s_c hz)) uH rfl) rfl) hp) pos G s ZV H (λvs H'=>vs=[.int i,.int (-1),.int (-1)]/\Tk X.K H'/\aQ H H') I ⟨S,?_⟩) λus s1 ⟨vs,H1,U,r1,W,t1,sm⟩=>?_) (by rw[aB hp]) rfl));show RE (ev P (call P n) Z a >>= λx=>evs P (call P n) Z (.cons (.neg (.c (.int 1))) (.cons (.neg (.c (.int 1))) .nil)) >>= λxs=>R.ok (x::xs)) _;rw[RE.bind,ex];intro us H1 t1 s1 r1;obtain⟨u,r',eu,ru,u2,r2,q0,q4,u3,r3,q,q5,hr⟩:=r1;rw[show r3=[] from hr] at q;subst q q0 eu;exact⟨by rw[ru.int W,q4.int rfl,q5.int rfl],t1,s1⟩;subst W;cases r1 with
 | cons r rr=>cases rr with|cons r' rr=>cases rr with|cons q3 rr=>cases rr;obtain⟨t,rfl⟩:=r;obtain⟨t',rfl⟩:=r';obtain⟨q6,rfl⟩:=q3;refine call_range_3 (by omega) ?_ (.inl (Fd (by omega)));refine Gi (Jn ..) (aLd c.1 c.2) ?_;refine⟨_,[_],_,aLc i (-1) (i+1).toNat,H1,rfl,(U.kept λb o e=>Ab _ e).kept λb o e=>Ab _ e,zJ _ i (-1) _,?_,λb hb=>?_,?_⟩;show Hg _ _ (i+((0:Nat):Int)*(-1)) ((((i+1).toNat:Nat):Int)-((0:Nat):Int)) (-1);rw[show i+((0:Nat):Int)*(-1)=i by simp,show(((i+1).toNat:Nat):Int)-((0:Nat):Int)=BH i (-1) (-1) by rw[aJv];simp];exact Aj _ rfl;cases A0.mp hb;exact(U.kept λb o e=>Ab _ e).fpOk (Ap _) ((U.kept λb o e=>Ab _ e).hok.fresh (Ap _));exact(h) _ H1 U.tk sm aLe
 exact h.elim
end
end Hp
noncomputable section
set_option maxHeartbeats 4000000
namespace Hp
open PySem PySem.Spec PyProof.Rows L2
section
variable {K:Fg} {RT Y J:Ah->Prop} {Z:Sg} {ZV:L2.St} {H:Hp}
theorem Sx.hid(S:Sx K RT Y J Z ZV H){i:Nat}{as bs:List D}(e:Z[i]? = some (.two (as,bs))):∃q0,Sx K q0 Y J (Z.set i (.sh false (.tup [.lst as,.lst bs]))) ZV H:=by
 obtain⟨a,b,c,xs,ys,h1,ht,hb,hc,pb,pc,hn,⟨n1,n2⟩,r1,r2⟩:=S.dx.at2 i _ e;have out:∀{p:Ah},Pt RT J Z ZV p->p=b\/p=c->¬ ((RT p/\p≠b/\p≠c)\/exB Y J false p):=λ{p} q w z=>by rcases z with z|z|z;exact w.elim z.2.1 z.2.2;exact q.2.1 (S.yo p z);exact q.2.1 z.2
 exact⟨λp=>RT p/\p≠b/\p≠c,{
  sh:=λj pa d q=>by
   rcases set_some q with⟨rfl,z,_⟩|⟨_,q⟩
   cases z;exact⟨.ref a,h1,a,_,rfl,ht,.ref b,_,rfl,⟨b,xs,rfl,SqL.of hb,out pb (.inl rfl),Reps.free _ _ n1 r1⟩,.ref c,_,rfl,⟨c,ys,rfl,SqL.of hc,out pc (.inr rfl),Reps.free _ _ n2 r2⟩,rfl⟩;obtain⟨v,U,I⟩:=S.sh j pa d q;exact⟨v,U,I.weak λp z=>z.imp (·.1) id⟩
  own:=λj pa ds q=>by
   rcases set_some q with⟨_,z,_⟩|⟨_,q⟩
   cases z;obtain⟨p,zs,U,I,g3,g4,g5⟩:=S.own j pa ds q;exact⟨p,zs,U,I,⟨g3,λz=>pb.2.2 j pa ds q (by rw[<-z];exact U),λz=>pc.2.2 j pa ds q (by rw[<-z];exact U)⟩,g4,g5.weak λp z=>z.imp (·.1) id⟩
  trk:=λp z=>S.trk p (z.imp (·.1) id)
  yo:=S.yo
  tk:=S.tk
  rt:=λp z=>S.rt p z.1
  inj:=λj j' pa pa' ds ds' p W q2=>by
   rcases set_some W with⟨_,z,_⟩|⟨_,W⟩
   cases z;rcases set_some q2 with⟨_,z,_⟩|⟨_,q2⟩
   cases z;exact S.inj j j' pa pa' ds ds' p W q2
  len:=by rw[Az];exact S.len
  dx:={
   at':=λj ks q=>by
    rcases set_some q with⟨_,z,_⟩|⟨_,q⟩
    cases z;obtain⟨p,zs,U,I,g3,g4⟩:=S.dx.at' j ks q;exact⟨p,zs,U,I,⟨g3,(λz=>by rw[z,hb] at I;cases I),(λz=>by rw[z,hc] at I;cases I)⟩,g4⟩
   inj:=λj j' ks ks' p W q2=>by
    rcases set_some W with⟨_,z,_⟩|⟨_,W⟩
    cases z;rcases set_some q2 with⟨_,z,_⟩|⟨_,q2⟩
    cases z;exact S.dx.inj j j' ks ks' p W q2
   at2:=λj dd q=>by
    rcases set_some q with⟨_,z,_⟩|⟨n,q⟩
    cases z;exact absurd (S.dx.one i j _ _ e q) n
   one:=λj j' dd q3 q q'=>by
    rcases set_some q with⟨_,z,_⟩|⟨n,q⟩
    cases z;exact absurd (S.dx.one i j _ _ e q) n } }⟩
end
section
variable {X:Cx} {P:Pg} {Γ:Ct} {n:Nat} {RT Y J:Ah->Prop} {Z:Sg} {pos:CB}
theorem Ro.clean{I:Ah->Prop}{Z':Sg}{ZV:L2.St}{H H':Hp}{x:Vl}{u:V}(c:lQ x=true)(r:Ro X.K I Y J Z' ZV H H' x u):Ro X.K RT Y J Z ZV H H' ⟨x.d,x.fr,false,[]⟩ u:=by
 obtain⟨s,h⟩:=r;refine⟨s,?_⟩;unfold lQ at c;cases q:x.fr with
 | true=>rw[q,if_pos rfl] at h;obtain⟨a,xs,ds,W,U,e3,e4,rr⟩:=h;rw[U,q] at c;rw[if_pos rfl];exact⟨a,xs,ds,W,U,e3,e4,Reps.free _ _ c rr⟩|false=>rw[q,if_neg bN] at h;rw[if_neg bN];refine Rep.free x.d u ?_ h;split at c;rw[q] at c;cases c;exact c
theorem aNN{i:Nat}{a:E}{e:As}(ha:∀RT Z,PE X e (WE X P n RT Y J Z a)):PE X e (WE X P n RT Y J Z (.hid i a)):=by intro G s ZV H Q I ⟨S,h⟩;have h:RE (match Z[i]? with|some (.two (as,bs))=>(ev P (call P n) (Z.set i (.sh false (.tup [.lst as,.lst bs]))) a >>= λx=>R.iff (lQ x) (R.ok (⟨x.d,x.fr,false,[]⟩:Vl)))|_=>.bad) _:=h;split at h;rename_i as bs e1;obtain⟨q,W⟩:=S.hid e1;refine ha q _ G s ZV H Q I ⟨W,(RE.bind' h).mono λx U u H' t r=>?_⟩;obtain⟨c,U⟩:=U.iff;exact U u H' t (r.clean c);exact h.elim
theorem aNO{i:Nat}{a:E}{e:As}(ha:∀RT Z,PT X e (WT X P n RT Y J Z a)):PT X e (WT X P n RT Y J Z (.hid i a)):=by intro G s ZV H Q I ⟨S,h⟩;have h:RE (match Z[i]? with|some (.two (as,bs))=>tst P (call P n) (Z.set i (.sh false (.tup [.lst as,.lst bs]))) a|_=>.bad) _:=h;split at h;rename_i as bs W;obtain⟨q,U⟩:=S.hid W;exact ha q _ G s ZV H Q I ⟨U,h⟩;exact h.elim
end
end Hp
end
noncomputable section
set_option maxHeartbeats 8000000
namespace Hp
open PySem PySem.Spec PyProof.Rows L2
section
variable {P:Pg} {n:Nat}
theorem zK{X:Cx}{Γ:Ct}(M:Mc X P Γ n)(scope:De):(Ja scope X.env).names=uC Γ.sc scope.names:=by
 unfold Ja uC;simp only;refine AX λp U=>?_;obtain⟨m,k⟩:=p;have q:(X.env.scope.kind==JH)=true:=by rw[M.fk];rfl
 have I:X.env.kindOf m=Γ.sc.lookup m:=by unfold Env.kindOf;rw[M.sc]
 simp only[q,I,DV]
abbrev chN(Γ:Ct)(tg:As)(caps:List Nat):List Str:=iC tg++caps.filterMap λi=>Γ.N[i]?
abbrev aAV(Γ:Ct)(tg:As)(caps:List Nat)(scope:De):Ct:={ Γ with N:=chN Γ tg caps,sc:=uC Γ.sc scope.names,fn:=false }
structure aFS (Γ:Ct) (tg:As) (caps:List Nat) (scope:De) (k:Nat) (t:T):Prop where
 len:(iC tg).length=k
 lt:∀i∈caps,i<Γ.N.length
 ndc:caps.Nodup
 kind:scope.kind=.function
 nd:(chN Γ tg caps).Nodup
 cap:∀x∈caps.filterMap (λi=>Γ.N[i]?),scope.names.lookup x=some .free/\Γ.sc.lookup x=some .cell
 all:∀p∈scope.names,p.2≠.cell/\(p.2=.local->scope.names.lookup p.1=some .local)/\(p.2=.free->Γ.sc.lookup p.1=some .cell)
 tk:∀i∈tIx t,i<k
theorem aFT{N:List Str}:∀{caps:List Nat},(∀i∈caps,i<N.length)->∀{j i:Nat},caps[j]? = some i->(caps.filterMap λi=>N[i]?)[j]? = N[i]?/\(caps.filterMap λi=>N[i]?).length=caps.length
 | [],_,_,_,h=>by simp at h|c::cs,hl,j,i,h=>by
  have q:N[c]? = some N[c]! := by have:=hl c A3;simp[this]
  rw[EK q];have len:(cs.filterMap λi=>N[i]?).length=cs.length:=by simp_all
  refine⟨?_,by rw[lC,lC,len]⟩;cases j with
  | zero=>grind|succ j=>rw[gS];exact(aFT (λi hi=>hl i (Au _ hi)) (by simpa using h)).1
theorem aLf{N:List Str}{caps:List Nat}(h:∀i∈caps,i<N.length):(caps.filterMap λi=>N[i]?).length=caps.length:=by simp_all
theorem aFS.scope{X:Cx}{Γ:Ct}{tg:As}{caps:List Nat}{scope:De}{k:Nat}{t:T}(O:aFS Γ tg caps scope k t)(M:Mc X P Γ n):eD X scope k caps (chN Γ tg caps) where
 kind:=O.kind
 nocell:=λy I=>(O.all y I).1
 loc:=λy I e=>(O.all y I).2.1 e
 free:=λm U=>.inl (by
  have:=(O.all _ U).2.2 rfl;show X.env.scope.names.lookup m=_;rw[M.sc];exact this)
 len:=by rw[lA,O.len,aLf O.lt]
 cap:=λj i e=>by have hi:=O.lt i (mG e);have q:=(aFT O.lt e).1;rw[(Ad hi)] at q;obtain⟨h1,h2⟩:=O.cap _ (mG q);refine⟨Γ.N[i],?_,by rw[M.N];exact(Ad hi),h1,?_⟩;show(iC tg++_)[k+j]? = _;rw[AB (by rw[O.len];omega),O.len,Bc];exact q;show X.env.scope.names.lookup _=_;rw[M.sc];exact h2
 ndp:=M.nd
theorem aFS.mc{X:Cx}{Γ:Ct}{tg:As}{caps:List Nat}{scope:De}{k:Nat}{t:T}(O:aFS Γ tg caps scope k t)(M:Mc X P Γ n)(C:Ah)(s₀:Ae)(H₀:Hp)(ex:List Ah) :
 Mc (eW X scope (chN Γ tg caps) C s₀ H₀ ex) P (aAV Γ tg caps scope) n where
 md:=⟨M.md.fn,M.md.blt,M.md.cns,M.md.tab⟩
 N:=rfl
 nd:=O.nd
 sc:=zK M scope
 calm:=M.calm
 room:=M.room
 xe:=rfl
 st:=λx h=>.inr (by
  show(Ja scope X.env).names.lookup x=_;rw[zK M scope];unfold yS at h;split at h;rename_i e;exact e;cases h;cases h)
 fk:=O.kind
theorem zL{Γ:Ct}{tt:Bool}{a b:E}{e:As}:chkI Γ tt (.rng a b) e=oS (kZ e) λp=>(p.1==("range" : Str))&&dN Γ p.1&&(match p.2 with
 | [x]=>aAH a&&aW Γ b x|[x,y]=>aW Γ a x&&aW Γ b y|_=>false):=rfl
theorem zM{Γ:Ct}{tt:Bool}{a b:E}{e:As}:chkI Γ tt (.zip a b) e=oS (kZ e) λp=>(match p.2 with
 | [x,y]=>tt&&(p.1==("zip" : Str))&&dN Γ p.1&&aW Γ a x&&aW Γ b y|_=>false):=rfl
theorem uQ{Γ:Ct}{tt:Bool}{a:E}{e:As}:chkI Γ tt (.enum a) e=oS (kZ e) λp=>(match p.2 with
 | [x]=>tt&&(p.1==("enumerate" : Str))&&dN Γ p.1&&aW Γ a x|_=>false):=rfl
theorem zN{Γ:Ct}{tt:Bool}{a:E}{e:As}:chkI Γ tt (.dwn a) e=oS (kZ e) λp=>(p.1==("range" : Str))&&dN Γ p.1&&(match p.2 with
 | [x,y,z]=>aW Γ a x&&aAI y&&aAI z|_=>false):=rfl
theorem lX{Γ:Ct}{tt:Bool}{it:Hp.It}{e:As}(h:chkI Γ tt it e=true):aX e=true:=by
 cases it with
 | seq c=>exact aP (by exact h)|rng a b=>rw[zL] at h;obtain⟨_,⟨_,_,rfl⟩,_⟩:=aG h;rfl|dwn a=>rw[zN] at h;obtain⟨_,⟨_,_,rfl⟩,_⟩:=aG h;rfl|zip a b=>rw[zM] at h;obtain⟨_,⟨_,_,rfl⟩,_⟩:=aG h;rfl|enum a=>rw[uQ] at h;obtain⟨_,⟨_,_,rfl⟩,_⟩:=aG h;rfl
theorem aIq{X:Cx}{e:As}{c:E}{RT Y J:Ah->Prop}{Z:Sg}(h:tst P (call P n) Z c=.bad):PT X e (WT X P n RT Y J Z c):=λG s ZV H Q I ⟨S,q⟩=>by rw[h] at q;exact q.elim
theorem gQ{a b c:Bool}(h:(a&&b&&c)=true):a=true/\b=true/\c=true:=by grind
theorem eJ{a b:Bool}(h:(a&&b)=true):a=true/\b=true:=by grind
theorem aIr{a b c d:Bool}(h:(a&&b&&c&&d)=true):a=true/\b=true/\c=true/\d=true:=by grind
theorem aAW{a b c d e:Bool}(h:(a&&b&&c&&d&&e)=true):a=true/\b=true/\c=true/\d=true/\e=true:=by grind
theorem aCa{Γ:Ct}{k:Nat}{caps:List Nat}{t:T}{it:Hp.It}{cond:Es}{elt:E}{e:As}(h:aW Γ (.comp k caps t it cond elt) e=true) :
 ∃U tg q I scope pos,e=.ListComp U [⟨tg,q,I,0⟩] scope pos/\aFS Γ tg caps scope k t/\I.length<=1/\pN (aAV Γ tg caps scope) t tg=true/\chkI Γ (qY tg) it q=true/\chkEs (aAV Γ tg caps scope) cond I=true/\aW (aAV Γ tg caps scope) elt U=true:=by
 obtain⟨⟨U,gens,scope⟩,h1,g⟩:=aG h;clear h;obtain⟨pos,rfl⟩:=h1;have h:=g;clear g;rcases gens with _|⟨⟨tg,q,I,as⟩,_|⟨_,_⟩⟩
 cases h;have h:(as==0&&(iC tg).length==k&&(caps.all λi=>decide (i<Γ.N.length))&&decide caps.Nodup&&scope.kind==.function&&decide (iC tg++caps.filterMap λi=>Γ.N[i]?).Nodup &&
  ((caps.filterMap λi=>Γ.N[i]?).all λx=>scope.names.lookup x==some .free&&Γ.sc.lookup x==some .cell) &&
  (scope.names.all λp=>p.2 != .cell&&(p.2 != .local||scope.names.lookup p.1==some .local)&&(p.2 != .free||Γ.sc.lookup p.1==some .cell)) &&
  ((tIx t).all λi=>decide (i<k))&&decide (I.length<=1) &&
  pN (aAV Γ tg caps scope) t tg&&chkI Γ (qY tg) it q&&chkEs (aAV Γ tg caps scope) cond I&&aW (aAV Γ tg caps scope) elt U)=true:=by exact h
 simp only[bA,beq_iff_eq,B7,AR,ne_eq] at h;obtain⟨⟨⟨⟨⟨⟨⟨⟨⟨⟨⟨⟨⟨h0,h1⟩,h2⟩,h3⟩,h4⟩,h5⟩,h6⟩,h7⟩,h8⟩,h9⟩,W⟩,q0⟩,q1⟩,q2⟩:=h;subst h0;refine⟨U,tg,q,I,scope,pos,rfl,⟨h1,h2,h3,h4,h5,h6,λp hp=>?_,h8⟩,h9,W,q0,q1,q2⟩;grind;cases h
abbrev PEc(P:Pg)(n:Nat)(c:E):Prop:=∀{X:Cx} {Γ:Ct},Mc X P Γ n->∀{e:As},aW Γ c e=true->∀(RT Y J:Ah->Prop) (Z:Sg),PE X e (WE X P n RT Y J Z c)
abbrev PTc(P:Pg)(n:Nat)(c:E):Prop:=∀{X:Cx} {Γ:Ct},Mc X P Γ n->∀{e:As},aW Γ c e=true->∀(RT Y J:Ah->Prop) (Z:Sg),PT X e (WT X P n RT Y J Z c)
abbrev PWc(P:Pg)(n:Nat)(c:E):Prop:=∀{X:Cx} {Γ:Ct},Mc X P Γ n->∀{o:JB} {xs:List As} {pos:CB},aW Γ c (.BoolOp o xs pos)=true->∀(RT Y J:Ah->Prop) (Z:Sg),PW X (.BoolOp o xs pos) (WT X P n RT Y J Z c)
structure Q3 (P:Pg) (n:Nat) (c:E):Prop where
 e:PEc P n c
 t:PTc P n c
 w:PWc P n c
structure QA (P:Pg) (n:Nat) (cs:Es):Prop where
 a:∀{X:Cx} {Γ:Ct},Mc X P Γ n->∀{es:List As},chkEs Γ cs es=true->∀(RT Y J:Ah->Prop) (Z:Sg),PA X es (WA X P n RT Y J Z cs)
 o:∀{X:Cx} {Γ:Ct},Mc X P Γ n->∀{e:Option As},chkO Γ cs e=true->∀(RT Y J:Ah->Prop) (Z:Sg),PO X e (wO X P n RT Y J Z cs)
 ts:∀{X:Cx} {Γ:Ct},Mc X P Γ n->∀{es:List As},es.length<=1->chkEs Γ cs es=true->∀(RT Y J:Ah->Prop) (Z:Sg),PTs X es (wTs X P n RT Y J Z cs)
abbrev QI(P:Pg)(n:Nat)(it:Hp.It):Prop:=∀{X:Cx} {Γ:Ct},Mc X P Γ n->∀{tg e:As},chkI Γ (qY tg) it e=true->∀(RT Y J:Ah->Prop) (Z:Sg),PI X tg e (wI X P n RT Y J Z it)
theorem Q3.of{c:E}(h:PEc P n c)(hd:∀Z,tst P (call P n) Z c=.bad)(q:∀{Γ:Ct} {o:JB} {xs:List As} {pos:CB},aW Γ c (.BoolOp o xs pos)=false):Q3 P n c:=
 ⟨h,λ{X Γ} M {e} z RT Y J Z=>aIq (hd Z),λ{X Γ} M {o xs pos} z RT Y J Z=>absurd (q.symm.trans z) bN⟩
theorem n_c{d:D}:Q3 P n (.c d):=by
 have W:∀{Γ:Ct} {e:As},aW Γ (.c d) e=true->(∃c k p,e=.Constant c k p/\eqC d c=true)\/∃x p,e=.Name x p/\dN Γ x=true/\dO x=true/\∃I,Γ.cns.lookup x=some I/\eqK d I=true:=λ{Γ e} h=>by rcases(BG _ _).mp (h) with h|h;obtain⟨c,h1,g⟩:=aG h;grind;obtain⟨x,h1,g⟩:=aG h;clear h;obtain⟨p,rfl⟩:=h1;have h:=g;clear g;obtain⟨h1,h2,U⟩:=gQ h;obtain⟨I,q1,q2⟩:=aBX U;exact .inr ⟨x,p,rfl,h1,h2,I,q1,q2⟩
 have k:PEc P n (.c d):=λ{X Γ} M {e} h RT Y J Z=>by
  rcases W h with⟨c,j,p,rfl,g⟩|⟨x,p,rfl,h1,h2,I,q,U⟩
  exact s_c g;have e:=aKE U;subst e;obtain⟨u,v,m,r,hr⟩:=M.md.cns x d q;exact(aBE (M.gl h1) m r (bH h2)).imp λZV H Q t ⟨S,hh⟩ t'=>((hh) v H t' (Ro.val (aQ.refl H) (hr H)))
 refine⟨k,λ{X Γ} M {e} h RT Y J Z=>?_,λ{X Γ} M {o xs pos} h RT Y J Z=>absurd h bN⟩;refine uG (k M h RT Y J Z) ?_ λp hp=>hp;rcases W h with⟨c,j,p,rfl,h⟩|⟨x,p,rfl,_⟩ <;> (intro _;rfl)
theorem n_v{i:Nat}:Q3 P n (.v i):=by
 have k:PEc P n (.v i):=λ{X Γ} M {e} h RT Y J Z=>by obtain⟨x,h1,g⟩:=aG h;clear h;obtain⟨p,rfl⟩:=h1;have h:=g;clear g;unfold bY at h;obtain⟨h1,h2,q⟩:=gQ h;exact s_v (by rw[M.N];exact eq_of_beq h1) (M.vis h2) (bH q) (gC q)
 refine⟨k,λ{X Γ} M {e} h RT Y J Z=>?_,λ{X Γ} M {o xs pos} h RT Y J Z=>absurd h bN⟩;refine uG (k M h RT Y J Z) ?_ λp I=>RE.bind' (I);obtain⟨x,⟨p,rfl⟩,_⟩:=aG h;intro _;rfl
theorem aQg{o:Operator}{a b:E}(I:Q3 P n a)(U:Q3 P n b):Q3 P n (.op o a b):=Q3.of (λ{X Γ} M {e} h RT Y J Z=>by
 obtain⟨⟨l,o',r⟩,h1,g⟩:=aG h;clear h;obtain⟨p,rfl⟩:=h1;have h:=g;clear g;obtain⟨h1,h2,q⟩:=gQ h;have e:=eq_of_beq h1;subst e;exact aQb (I.e M h2 RT Y J Z) (U.e M q RT Y J Z)) (λ_=>rfl) rfl
theorem aNP{a:E}(q:Q3 P n a):Q3 P n (.neg a):=Q3.of (λ{X Γ} M {e} h RT Y J Z=>by
 obtain⟨⟨o,x⟩,h1,g⟩:=aG h;clear h;obtain⟨p,rfl⟩:=h1;have h:=g;clear g;obtain⟨h1,h2⟩:=eJ h;have e:=eq_of_beq h1;subst e;exact aFp (q.e M h2 RT Y J Z)) (λ_=>rfl) rfl
theorem aQh{a:E}(I:Q3 P n a):Q3 P n (.nt a):=by
 have q:∀{Γ:Ct} {e:As},aW Γ (.nt a) e=true->∃x p,e=.UnaryOp .Not x p/\aW Γ a x=true:=λ{Γ e} h=>by obtain⟨⟨o,x⟩,h1,g⟩:=aG h;grind
 refine⟨λ{X Γ} M {e} h RT Y J Z=>?_,λ{X Γ} M {e} h RT Y J Z=>?_,λ{X Γ} M {o xs pos} h RT Y J Z=>absurd h bN⟩;obtain⟨x,p,rfl,g⟩:=q h;exact aNs (I.e M g RT Y J Z);obtain⟨x,p,rfl,g⟩:=q h;exact dH (I.t M g RT Y J Z)
theorem aCb{Γ:Ct}{a b:E}{w:JB}{xs:List As}{p:CB}(h:(match xs with
 | [x,y]=>aW Γ a x&&aW Γ b y|x::y::z::r=>aW Γ a x&&aW Γ b (.BoolOp w (y::z::r) p)|_=>false)=true):∃x y r,xs=x::y::r/\aW Γ a x=true/\((r=[]/\aW Γ b y=true)\/aW Γ b (.BoolOp w (y::r) p)=true):=by
 rcases xs with _|⟨x,_|⟨y,_|⟨z,r⟩⟩⟩
 cases h;cases h;obtain⟨h1,h2⟩:=eJ h;exact⟨x,y,[],rfl,h1,.inl ⟨rfl,h2⟩⟩;obtain⟨h1,h2⟩:=eJ h;exact⟨x,y,z::r,rfl,h1,.inr h2⟩
theorem aQi{a b:E}(U:Q3 P n a)(W:Q3 P n b):Q3 P n (.an a b):=by
 have kw:PWc P n (.an a b):=λ{X Γ} M {o xs pos} h RT Y J Z=>by obtain⟨h1,h2⟩:=eJ h;have e:=eq_of_beq h1;subst e;obtain⟨x,y,r,rfl,I,q⟩:=aCb h2;rcases q with⟨rfl,q⟩|q;exact aNB (U.t M I RT Y J Z) (aHA (W.t M q RT Y J Z));exact aNB (U.t M I RT Y J Z) (W.w M q RT Y J Z)
 refine⟨λ{X Γ} M {e} h RT Y J Z=>?_,λ{X Γ} M {e} h RT Y J Z=>?_,kw⟩;obtain⟨⟨o,xs,pos⟩,h1,g⟩:=aG h;clear h;obtain rfl:=h1;have h:=g;clear g;obtain⟨h1,h2⟩:=eJ h;have e:=eq_of_beq h1;subst e;obtain⟨x,y,r,e,I,q⟩:=aCb h2;subst e;rcases q with⟨rfl,q⟩|q;exact aNt (U.e M I RT Y J Z) (aEA (W.e M q RT Y J Z));exact aNt (U.e M I RT Y J Z) (W.e M q RT Y J Z);obtain⟨⟨o,xs,pos⟩,rfl,_⟩:=aG h;exact(kw M h RT Y J Z).pt
theorem aNQ{a b:E}(U:Q3 P n a)(W:Q3 P n b):Q3 P n (.orr a b):=by
 have kw:PWc P n (.orr a b):=λ{X Γ} M {o xs pos} h RT Y J Z=>by obtain⟨h1,h2⟩:=eJ h;have e:=eq_of_beq h1;subst e;obtain⟨x,y,r,rfl,I,q⟩:=aCb h2;rcases q with⟨rfl,q⟩|q;exact aJs (U.t M I RT Y J Z) (aJR (W.t M q RT Y J Z));exact aJs (U.t M I RT Y J Z) (W.w M q RT Y J Z)
 refine⟨λ{X Γ} M {e} h RT Y J Z=>?_,λ{X Γ} M {e} h RT Y J Z=>?_,kw⟩;obtain⟨⟨o,xs,pos⟩,h1,g⟩:=aG h;clear h;obtain rfl:=h1;have h:=g;clear g;obtain⟨h1,h2⟩:=eJ h;have e:=eq_of_beq h1;subst e;obtain⟨x,y,r,e,I,q⟩:=aCb h2;subst e;rcases q with⟨rfl,q⟩|q;exact aJr (U.e M I RT Y J Z) (aEA (W.e M q RT Y J Z));exact aJr (U.e M I RT Y J Z) (W.e M q RT Y J Z);obtain⟨⟨o,xs,pos⟩,rfl,_⟩:=aG h;exact(kw M h RT Y J Z).pt
theorem aNR{t a b:E}(W:Q3 P n t)(I:Q3 P n a)(U:Q3 P n b):Q3 P n (.ife t a b):=Q3.of (λ{X Γ} M {e} h RT Y J Z=>by
 obtain⟨⟨t',a',b'⟩,h1,g⟩:=aG h;clear h;obtain⟨p,rfl⟩:=h1;have h:=g;clear g;obtain⟨h1,h2,q⟩:=gQ h;exact aNu (W.t M h1 RT Y J Z) (I.e M h2 RT Y J Z) (U.e M q RT Y J Z)) (λ_=>rfl) rfl
theorem aNS{o:CmpOp}{a b:E}(U:Q3 P n a)(W:Q3 P n b):Q3 P n (.cmp o a b):=by
 have I:∀{Γ:Ct} {e:As},aW Γ (.cmp o a b) e=true->∃l r p,e=.Compare l [o] [r] p/\aW Γ a l=true/\aW Γ b r=true:=λ{Γ e} h=>by obtain⟨⟨l,os,rs⟩,h1,g⟩:=aG h;grind
 refine⟨λ{X Γ} M {e} h RT Y J Z=>?_,λ{X Γ} M {e} h RT Y J Z=>?_,λ{X Γ} M {o xs pos} h RT Y J Z=>absurd h bN⟩;obtain⟨l,r,p,rfl,h2,q⟩:=I h;exact aNv M (U.e M h2 RT Y J Z) (W.e M q RT Y J Z) (aP q);obtain⟨l,r,p,rfl,h2,q⟩:=I h;exact bO M (U.e M h2 RT Y J Z) (W.e M q RT Y J Z) (aP q)
theorem aLg{a:E}(ha:Q3 P n a):Q3 P n (.sset a):=Q3.of (λ{X Γ} M {e} h RT Y J Z=>by
 obtain⟨⟨f,xs⟩,h1,g⟩:=aG h;clear h;obtain⟨p1,p2,rfl⟩:=h1;rcases xs with _|⟨s,_|⟨_,_⟩⟩
 cases g;obtain⟨⟨f2,ys⟩,⟨p3,p4,I⟩,g⟩:=aG g;subst I;obtain⟨h1,h2,U,W,q⟩:=aAW g;rcases ys with _|⟨x,_|⟨_,_⟩⟩
 cases q;exact aLb M (eq_of_beq h1) h2 (eq_of_beq U) W (ha.e M q RT Y J Z) (aP q);cases q;cases g) (λ_=>rfl) rfl
theorem aLh{a:E}{j:Nat}(W:Q3 P n a):Q3 P n (.dnin a j):=by
 have U:∀{Γ:Ct} {e:As},aW Γ (.dnin a j) e=true->∃l x p q,e=.Compare l [.NotIn] [.Name x q] p/\aW Γ a l=true/\bY Γ j x=true:=λ{Γ e} h=>by obtain⟨⟨l,os,rs⟩,⟨p,rfl⟩,g⟩:=aG h;clear h;split at g;rename_i e1 e2;obtain⟨h1,h2⟩:=eJ g;obtain⟨x,⟨q,rfl⟩,I⟩:=aG h2;exact⟨l,x,p,q,by rw[show os=_ from e1,show rs=_ from e2],h1,I⟩;cases g
 refine⟨λ{X Γ} M {e} h RT Y J Z=>?_,λ{X Γ} M {e} h RT Y J Z=>?_,λ{X Γ} M {o xs pos} h RT Y J Z=>absurd h bN⟩;obtain⟨l,x,p,q,rfl,h2,I⟩:=U h;exact aKF M I (W.e M h2 RT Y J Z);obtain⟨l,x,p,q,rfl,h2,I⟩:=U h;exact aKG M I (W.e M h2 RT Y J Z)
theorem aNT{a:E}{j:Nat}(U:Q3 P n a):Q3 P n (.row j a):=Q3.of (λ{X Γ} M {e} h RT Y J Z=>by
 obtain⟨⟨y,i⟩,⟨p,rfl⟩,g⟩:=aG h;obtain⟨x,⟨q,I⟩,g⟩:=aG g;subst I;obtain⟨h1,h2⟩:=eJ g;exact aNw M h1 (U.e M h2 RT Y J Z) (aP h2)) (λ_=>rfl) rfl
theorem aNU{a:E}{i:Nat}(q:Q3 P n a):Q3 P n (.hid i a):=by refine⟨λ{X Γ} M {e} h RT Y J Z=>?_,λ{X Γ} M {e} h RT Y J Z=>?_,λ{X Γ} M {o xs pos} h RT Y J Z=>absurd (eJ h).1 bN⟩;exact aNN λRT Z=>q.e M (eJ h).2 RT Y J Z;exact aNO λRT Z=>q.t M (eJ h).2 RT Y J Z
theorem aLi{W o2:CmpOp}{a b c:E}(ha:Q3 P n a)(hb:Q3 P n b)(hc:Q3 P n c):Q3 P n (.cmp2 W o2 a b c):=by
 have h0:∀{Γ:Ct} {e:As},aW Γ (.cmp2 W o2 a b c) e=true->∃l m r p,e=.Compare l [W,o2] [m,r] p/\aW Γ a l=true/\aW Γ b m=true/\aW Γ c r=true:=λ{Γ e} h=>by obtain⟨⟨l,os,rs⟩,h1,g⟩:=aG h;grind
 refine⟨λ{X Γ} M {e} h RT Y J Z=>?_,λ{X Γ} M {e} h RT Y J Z=>?_,λ{X Γ} M {o xs pos} h RT Y J Z=>absurd h bN⟩;obtain⟨l,m,r,p,rfl,I,U,q⟩:=h0 h;exact aKJ M (ha.e M I RT Y J Z) (hb.e M U RT Y J Z) (hc.e M q RT Y J Z) (aP q);obtain⟨l,m,r,p,rfl,I,U,q⟩:=h0 h;exact aKK M (ha.e M I RT Y J Z) (hb.e M U RT Y J Z) (hc.e M q RT Y J Z) (aP q)
theorem aNV{a b:E}(I:Q3 P n a)(U:Q3 P n b):Q3 P n (.idx a b):=by
 have k:PEc P n (.idx a b):=λ{X Γ} M {e} h RT Y J Z=>by obtain⟨⟨x,i⟩,h1,g⟩:=aG h;clear h;obtain⟨p,rfl⟩:=h1;have h:=g;clear g;obtain⟨h1,h2⟩:=eJ h;exact aNx (I.e M h1 RT Y J Z) (U.e M h2 RT Y J Z) (aP h2)
 refine⟨k,λ{X Γ} M {e} h RT Y J Z=>?_,λ{X Γ} M {o xs pos} h RT Y J Z=>absurd h bN⟩;refine uG (k M h RT Y J Z) ?_ λp q=>?_;obtain⟨⟨x,i⟩,⟨p,rfl⟩,_⟩:=aG h;intro _;rfl;have q:=RE.bind' (q);show RE (ev P (call P n) Z a >>= λx=>ev P (call P n) Z b >>= λy=>eT x y) _;rw[RE.bind];refine q.mono λx W=>?_;rw[RE.bind];exact(RE.bind' W).mono λy hy=>RE.bind' hy
theorem aNW{a:E}{lo hi:Es}(U:Q3 P n a)(hl:QA P n lo)(W:QA P n hi):Q3 P n (.sli a lo hi):=Q3.of (λ{X Γ} M {e} h RT Y J Z=>by
 obtain⟨⟨x,i⟩,h1,g⟩:=aG h;clear h;obtain⟨p,rfl⟩:=h1;have h:=g;clear g;obtain⟨⟨l,u⟩,h1,g⟩:=aG h;clear h;obtain⟨p2,q⟩:=h1;have h:=g;clear g;subst q;obtain⟨h1,h2,I⟩:=gQ h;exact aNE (U.e M h1 RT Y J Z) (hl.o M h2 RT Y J Z) (W.o M I RT Y J Z)) (λ_=>rfl) rfl
theorem aNX{es:Es}(q:QA P n es):Q3 P n (.tup es):=Q3.of (λ{X Γ} M {e} h RT Y J Z=>by
 obtain⟨xs,h1,g⟩:=aG h;clear h;obtain⟨k,p,rfl⟩:=h1;have h:=g;clear g;obtain⟨h1,h2⟩:=eJ h;exact aNy (q.a M h2 RT Y J Z) h2 (of_decide_eq_true h1)) (λ_=>rfl) rfl
theorem aNY{es:Es}(q:QA P n es):Q3 P n (.lst es):=Q3.of (λ{X Γ} M {e} h RT Y J Z=>by
 obtain⟨xs,h1,g⟩:=aG h;clear h;obtain⟨p,rfl⟩:=h1;have h:=g;clear g;obtain⟨h1,h2⟩:=eJ h;exact aNz (q.a M h2 RT Y J Z) h2 (of_decide_eq_true h1)) (λ_=>rfl) rfl
theorem aLj{f:Nat}{es:Es}(W:QA P n es):Q3 P n (.call f es):=by
 have k:PEc P n (.call f es):=λ{X Γ} M {e} h RT Y J Z=>by obtain⟨⟨x,xs⟩,h1,g⟩:=aG h;clear h;obtain⟨p1,p2,rfl⟩:=h1;have h:=g;clear g;obtain⟨h1,h2,U,q⟩:=aIr h;exact aKH M (eq_of_beq h1) h2 U (W.a M q RT Y J Z) (gX q) q
 refine⟨k,λ{X Γ} M {e} h RT Y J Z=>?_,λ{X Γ} M {o xs pos} h RT Y J Z=>absurd h bN⟩;refine uG (k M h RT Y J Z) ?_ λp I=>?_;obtain⟨⟨x,xs⟩,⟨p1,p2,rfl⟩,_⟩:=aG h;intro _;rfl;have I:=RE.bind' (I);show RE (evs P (call P n) Z es >>= λvs=>call P n f (vs.map (·.d)) >>= λr=>R.ok (iW vs r)) _;rw[RE.bind];refine I.mono λx hx=>?_;rw[RE.bind];exact(RE.bind' hx).mono λy hy=>hy
theorem aQj{b:Bi}{es:Es}(ha:QA P n es):Q3 P n (.bi b es):=by
 have k:PEc P n (.bi b es):=λ{X Γ} M {e} h RT Y J Z=>by
  obtain⟨⟨x,xs⟩,h1,g⟩:=aG h;clear h;obtain⟨p1,p2,rfl⟩:=h1;have h:=g;clear g;obtain⟨h2,U,W,h5,I⟩:=aAW h;cases xs with
  | nil=>cases h5|cons y ys=>exact aQc M (eq_of_beq h2) U W (ha.a M I RT Y J Z) (gX I)
 refine⟨k,λ{X Γ} M {e} h RT Y J Z=>?_,λ{X Γ} M {o xs pos} h RT Y J Z=>absurd h bN⟩;refine uG (k M h RT Y J Z) ?_ λp q=>?_;obtain⟨⟨x,xs⟩,⟨p1,p2,rfl⟩,_⟩:=aG h;intro _;rfl;have q:=RE.bind' (q);show RE (evs P (call P n) Z es >>= λvs=>biD b vs) _;rw[RE.bind];exact q.mono λx hx=>RE.bind' hx
theorem aNZ{a:E}{cs:List Cl}(ha:Q3 P n a):Q3 P n (.isi a cs):=by
 have k:PEc P n (.isi a cs):=λ{X Γ} M {e} h RT Y J Z=>by
  obtain⟨⟨f,xs⟩,h1,g⟩:=aG h;clear h;obtain⟨p1,p2,rfl⟩:=h1;have h:=g;clear g;rcases cs with _|⟨c,_|⟨c',r⟩⟩
  cases h;rcases xs with _|⟨x,_|⟨y,_|⟨_,_⟩⟩⟩
  cases h;cases h;obtain⟨h1,h2,h4,I⟩:=aIr h;unfold aJn at I;split at I;obtain⟨q1,q2,q3⟩:=gQ I;exact aNA M (eq_of_beq h1) h2 (eq_of_beq q1) q2 q3 (ha.e M h4 RT Y J Z) (aP h4);cases I;cases h;cases h
 refine⟨k,λ{X Γ} M {e} h RT Y J Z=>?_,λ{X Γ} M {o xs pos} h RT Y J Z=>absurd h bN⟩;refine uG (k M h RT Y J Z) ?_ λp W=>?_;obtain⟨⟨x,xs⟩,⟨p1,p2,rfl⟩,_⟩:=aG h;intro _;rfl;have W:=RE.bind' (W);show RE (ev P (call P n) Z a >>= λx=>(match isI cs P x.d with|some k=>R.ok (Vl.cl (.bl k))|none=>.bad)) _;rw[RE.bind];refine W.mono λx U=>?_;cases q:isI cs P x.d with
 | none=>rw[q] at U;exact U.elim|some k=>rw[q] at U;exact U
theorem aLk{k:Nat}{caps:List Nat}{t:T}{it:Hp.It}{cond:Es}{elt:E}(hi:QI P n it)(hc:QA P n cond)(he:Q3 P n elt):Q3 P n (.comp k caps t it cond elt):=Q3.of (λ{X Γ} M {e} h RT Y J Z=>by
 obtain⟨el,tg,W,q0,scope,pos,rfl,O,h1,h2,U,h4,h5⟩:=aCa h;refine aKV M (O.scope M) O.ndc O.tk (hi M U RT Y J Z) (λC s₀ H₀ ex=>?_) (oD (lX U));have q:=O.mc M C s₀ H₀ ex;exact⟨aIm q h2,λRT Y J I=>hc.ts q h1 h4 RT Y J I,λRT Y J I=>he.e q h5 RT Y J I⟩) (λ_=>rfl) rfl
theorem aLl{i:Nat}{a:E}(ha:Q3 P n a):Q3 P n (.tget i a):=Q3.of (λ{X Γ} M {e} h RT Y J Z=>by
 obtain⟨⟨o,m,xs,l⟩,h1,g⟩:=aG h;clear h;obtain⟨ap,cp,rfl,I⟩:=h1;have h:=g;clear g;obtain⟨x,h1,g⟩:=aG h;clear h;obtain⟨p,U⟩:=h1;have h:=g;clear g;subst U;obtain⟨h,q⟩:=eJ h;obtain⟨h1,h2,W,h4,h5⟩:=aAW h;rw[show l=true from h5] at I;rcases xs with _|⟨y,_|⟨_,_⟩⟩
 cases q;exact aKI M (eq_of_beq h1) (eq_of_beq h2) W h4 I (ha.e M q RT Y J Z) (aP q);cases q) (λ_=>rfl) rfl
theorem aFU{a:E}(ha:Q3 P n a):Q3 P n (.numset a):=Q3.of (λ{X Γ} M {e} h RT Y J Z=>by
 obtain⟨⟨f,xs⟩,h1,g⟩:=aG h;clear h;obtain⟨p1,p2,rfl⟩:=h1;have h:=g;clear g;rcases xs with _|⟨s,_|⟨_,_⟩⟩
 cases h;obtain⟨⟨g,ys⟩,h1,g⟩:=aG h;clear h;obtain⟨p3,p4,I⟩:=h1;have h:=g;clear g;subst I;obtain⟨h1,h2,U,W,q⟩:=aAW h;rcases ys with _|⟨x,_|⟨_,_⟩⟩
 cases q;exact aFw M (eq_of_beq h1) h2 (eq_of_beq U) W (ha.e M q RT Y J Z) (aP q);cases q;cases h) (λ_=>rfl) rfl
theorem aOa:QA P n .nil:=by
 refine⟨λ{X Γ} M {es} h RT Y J Z=>?_,λ{X Γ} M {e} h RT Y J Z=>?_,λ{X Γ} M {es} q h RT Y J Z=>?_⟩;cases es with
 | nil=>exact uH|cons _ _=>exact nf h
 cases e with
 | none=>exact aNC|some _=>exact nf h
 cases es with
 | nil=>exact aKT|cons _ _=>exact nf h
theorem aLm{c:E}{cs:Es}(q:Q3 P n c)(hs:QA P n cs):QA P n (.cons c cs):=by
 refine⟨λ{X Γ} M {es} h RT Y J Z=>?_,λ{X Γ} M {e} h RT Y J Z=>?_,λ{X Γ} M {es} I h RT Y J Z=>?_⟩;cases es with
 | nil=>exact nf h|cons e es=>obtain⟨h1,h2⟩:=eJ h;exact iE (q.e M h1 RT Y J Z) (hs.a M h2 RT Y J Z) (aP h1)
 cases cs with
 | nil=>cases e with|none=>exact nf h|some e=>exact aND (q.e M (by exact h) RT Y J Z)
 | cons _ _=>cases e <;> exact nf h
 cases es with
 | nil=>exact nf h|cons e es=>
  obtain⟨h1,h2⟩:=eJ h;cases es with
  | nil=>cases cs with|nil=>exact aKU (q.t M h1 RT Y J Z)|cons _ _=>exact absurd h2 bN
  | cons _ _=>simp at I
theorem aOb{c:E}(q:Q3 P n c):QI P n (.seq c):=λ{X Γ} M {tg e} h RT Y J Z=>aNF (q.e M (by exact h) RT Y J Z)
theorem aOc{a b:E}(ha:Q3 P n a)(U:Q3 P n b):QI P n (.rng a b):=λ{X Γ} M {tg e} h RT Y J Z=>by
 rw[zL] at h;obtain⟨⟨f,xs⟩,h1,g⟩:=aG h;clear h;obtain⟨p1,p2,rfl⟩:=h1;have h:=g;clear g;obtain⟨h1,h2,q⟩:=gQ h;rcases xs with _|⟨x,_|⟨y,_|⟨_,_⟩⟩⟩
 cases q;obtain⟨q,I⟩:=eJ q;have W:a=.c (.int 0):=by unfold aAH at q;split at q;rw[eq_of_beq q];cases q
 rw[W];exact aKQ M (eq_of_beq h1) h2 (U.e M I RT Y J Z) (aP I);obtain⟨q,I⟩:=eJ q;exact aKR M (eq_of_beq h1) h2 (ha.e M q RT Y J Z) (U.e M I RT Y J Z) (aP q) (aP I);cases q
theorem aOd{a:E}(W:Q3 P n a):QI P n (.dwn a):=λ{X Γ} M {tg e} h RT Y J Z=>by
 rw[zN] at h;obtain⟨⟨f,xs⟩,h1,g⟩:=aG h;clear h;obtain⟨p1,p2,rfl⟩:=h1;have h:=g;clear g;obtain⟨h1,h2,q⟩:=gQ h;rcases xs with _|⟨x,_|⟨y,_|⟨z,_|⟨_,_⟩⟩⟩⟩
 cases q;cases q;cases q;obtain⟨q,I,U⟩:=gQ q;exact aNM M (eq_of_beq h1) h2 (W.e M q RT Y J Z) (aP q) I U;cases q
theorem aOe{a b:E}(W:Q3 P n a)(hb:Q3 P n b):QI P n (.zip a b):=λ{X Γ} M {tg e} h RT Y J Z=>by
 rw[zM] at h;obtain⟨⟨f,xs⟩,h1,g⟩:=aG h;clear h;obtain⟨p1,p2,rfl⟩:=h1;have h:=g;clear g;rcases xs with _|⟨x,_|⟨y,_|⟨_,_⟩⟩⟩
 cases h;cases h;obtain⟨q,h1,h2,I,U⟩:=aAW h;unfold qY at q;split at q;exact aNG M (eq_of_beq h1) h2 (W.e M I RT Y J Z) (hb.e M U RT Y J Z) (aP I) (aP U);cases q;cases h
theorem aLn{a:E}(U:Q3 P n a):QI P n (.enum a):=λ{X Γ} M {tg e} h RT Y J Z=>by
 rw[uQ] at h;obtain⟨⟨f,xs⟩,h1,g⟩:=aG h;clear h;obtain⟨W,p2,rfl⟩:=h1;have h:=g;clear g;rcases xs with _|⟨x,_|⟨_,_⟩⟩
 cases h;obtain⟨q,h1,h2,I⟩:=aIr h;unfold qY at q;split at q;exact aKS M (eq_of_beq h1) h2 (U.e M I RT Y J Z) (aP I);cases q;cases h
mutual
theorem qE:(c:E)->Q3 P n c
 | .c _=>n_c|.v _=>n_v|.op _ a b=>aQg (qE a) (qE b)|.neg a=>aNP (qE a)|.nt a=>aQh (qE a)|.an a b=>aQi (qE a) (qE b)|.orr a b=>aNQ (qE a) (qE b)|.ife t a b=>aNR (qE t) (qE a) (qE b)|.cmp _ a b=>aNS (qE a) (qE b)|.dnin a _=>aLh (qE a)|.row _ a=>aNT (qE a)|.hid _ a=>aNU (qE a)|.sset a=>aLg (qE a)|.cmp2 _ _ a b c=>aLi (qE a) (qE b) (qE c)|.idx a b=>aNV (qE a) (qE b)|.sli a lo hi=>aNW (qE a) (qA lo) (qA hi)|.tup es=>aNX (qA es)|.lst es=>aNY (qA es)|.call _ es=>aLj (qA es)|.bi _ es=>aQj (qA es)|.isi a _=>aNZ (qE a)|.comp _ _ _ it cond elt=>aLk (qI it) (qA cond) (qE elt)|.numset a=>aFU (qE a)|.tget _ a=>aLl (qE a)
theorem qA:(cs:Es)->QA P n cs
 | .nil=>aOa|.cons c cs=>aLm (qE c) (qA cs)
theorem qI:(it:Hp.It)->QI P n it
 | .seq c=>aOb (qE c)|.rng a b=>aOc (qE a) (qE b)|.dwn a=>aOd (qE a)|.zip a b=>aOe (qE a) (qE b)|.enum a=>aLn (qE a)
end
theorem sE(c:E):PEc P n c:=(qE c).e
theorem sT(c:E):PTc P n c:=(qE c).t
theorem sTs(cs:Es):∀{X:Cx} {Γ:Ct},Mc X P Γ n->∀{es:List As},es.length<=1->chkEs Γ cs es=true->∀(RT Y J:Ah->Prop) (Z:Sg),PTs X es (wTs X P n RT Y J Z cs):=(qA cs).ts
theorem sI(it:Hp.It):QI P n it:=qI it
end
end Hp
end
noncomputable section
set_option maxHeartbeats 4000000
namespace Hp
open PySem PySem.Spec PyProof.Rows L2
noncomputable def rT(K:Fg)(RT Y J:Ah->Prop)(H:Hp)(Z':Sg)(Q:L2.St->Hp->Prop):Prop:=
 ∀(RT':Ah->Prop) (ZV':L2.St) (H':Hp),Kp RT H H'->(∀b,RT' b->RT b\/H b=none)->Sx K RT' Y J Z' ZV' H'->Q ZV' H'
noncomputable def Rtv(K:Fg)(Y J:Ah->Prop)(H':Hp)(v:Vl)(u:V):Prop:=
 if v.fr=true then (∃a xs ds,u=.ref a/\v.d=.lst ds/\¬ J a/\H' a=some (.lst xs)/\Reps K H' (λb=>b=a\/exB Y J v.pa b) ds xs)\/Two K J H' v.d u
 else Rep K H' (exB Y J v.pa) v.d u
noncomputable def aOf(K:Fg)(RT Y J:Ah->Prop)(H:Hp)(v:Vl)(Q:VK):Prop:=∀(u:V) (H':Hp),Kp RT H H'->Tk K H'->Rtv K Y J H' v u->Q u H'
noncomputable def OE(K:Fg)(RT Y J:Ah->Prop)(H:Hp)(o:O)(D:Ends):Prop:=match o with|.next Z'=>rT K RT Y J H Z' D.nx|.ret v=>aOf K RT Y J H v D.rt|.bad=>False
noncomputable def wS(X:Cx)(RT Y J:Ah->Prop)(Z:Sg)(o:O):TS:=λD ZV H=>Sx X.K RT Y J Z ZV H/\OE X.K RT Y J H o D
section
variable {K:Fg} {RT RT' RT'' Y J:Ah->Prop} {Z:Sg} {ZV:L2.St} {H H1 H2:Hp} {o:O} {D D':Ends}
theorem Kp.chain(a:Kp RT H H1)(s:∀b,RT' b->RT b\/H b=none)(b:Kp RT' H1 H2):Kp RT H H2:=λc o e n=>b c o (a c o e n) λz=>(s c z).elim n λq=>by rw[q] at e;cases e
theorem iL(a:Kp RT H H1)(s1:∀b,RT' b->RT b\/H b=none)(s2:∀b,RT'' b->RT' b\/H1 b=none):∀b,RT'' b->RT b\/H b=none:=λb z=>by
 rcases s2 b z with q|q;exact s1 b q;by_cases I:RT b;exact .inl I;refine .inr ?_;cases e:H b with
 | none=>rfl|some o=>rw[a b o e I] at q;cases q
theorem rT.mono{Z':Sg}{Q:L2.St->Hp->Prop}(a:Kp RT H H1)(s:∀b,RT' b->RT b\/H b=none)(h:rT K RT Y J H Z' Q):rT K RT' Y J H1 Z' Q:=λq I H2 k n S=>h q I H2 (a.chain s k) (iL a s n) S
theorem OE.mono(a:Kp RT H H1)(s:∀b,RT' b->RT b\/H b=none)(h:OE K RT Y J H o D):OE K RT' Y J H1 o D:=by
 cases o with
 | next Z'=>exact rT.mono a s h|ret v=>exact λu H2 k t r=>(h) u H2 (a.chain s k) t r|bad=>exact h
theorem bP:∀b,RT b->RT b\/H b=none:=λ_ z=>.inl z
noncomputable def tkE(K:Fg)(D:Ends):Ends:=⟨λZ H=>Tk K H->D.nx Z H,λv H=>Tk K H->D.rt v H,λZ H=>Tk K H->D.bk Z H,λZ H=>Tk K H->D.ct Z H⟩
theorem OE.from{α:Type}{x:R α}{f:α->O}(h:OE K RT Y J H (O.from Z x f) D):RE x λa=>OE K RT Y J H (f a) D:=by
 cases x with
 | ok a=>exact h|bad=>exact h
end
section
variable {X:Cx} {st:Ck} {t t':TS}
theorem aJx{G:List (Ah×Obj)}{D:Ends}{f:Flow}{U:Ae}(h:SP X G (tkE X.K D) f U):SP X G D f U:=by
 cases f with
 | next=>obtain⟨Z',H',I,q⟩:=h;exact⟨Z',H',I,q I.tk⟩|brk=>obtain⟨Z',H',I,q⟩:=h;exact⟨Z',H',I,q I.tk⟩|cont=>obtain⟨Z',H',I,q⟩:=h;exact⟨Z',H',I,q I.tk⟩|ret u=>obtain⟨v,Z',H',I,r,q⟩:=h;exact⟨v,Z',H',I,r,q I.tk⟩
theorem cU(h:PS X st t)(f:∀D ZV H,Tk X.K H->t' D ZV H->t (tkE X.K D) ZV H):PS X st t':=λG s ZV H D I U=>thn (h G s ZV H _ I (f D ZV H I.tk U)) λfl W q=>aJx q
theorem wK{U:List Ck}(h:PSs X U t)(f:∀D ZV H,Tk X.K H->t' D ZV H->t (tkE X.K D) ZV H):PSs X U t':=λG s ZV H D I W=>thn (h G s ZV H _ I (f D ZV H I.tk W)) λfl s' q=>aJx q
theorem wL{Y J:Ah->Prop}{q:List Ck}{f:Sg->O}(h:∀RT Z,PSs X q (wS X RT Y J Z (f Z))):PSs X q (λD ZV H=>∃RT Z,wS X RT Y J Z (f Z) D ZV H):=λG s ZV H D I ⟨RT,Z,U⟩=>h RT Z G s ZV H D I U
end
section
variable {X:Cx} {P:Pg} {Γ:Ct} {n:Nat} {RT Y J:Ah->Prop} {Z:Sg} {pos:CB}
theorem rT.tkE{Z':Sg}{Q:L2.St->Hp->Prop}{H:Hp}(h:rT X.K RT Y J H Z' Q):rT X.K RT Y J H Z' λZ H=>Tk X.K H->Q Z H:=λq I H' k n S _=>h q I H' k n S
theorem OE.tkE{o:O}{D:Ends}{H:Hp}(h:OE X.K RT Y J H o D):OE X.K RT Y J H o (tkE X.K D):=by
 cases o with
 | next Z'=>exact rT.tkE h|ret v=>exact λu q k t r _=>(h) u q k t r|bad=>exact h
theorem aOg:PSs X [] (wS X RT Y J Z (exs P (call P n) Z .nil)):=wK aHB λD ZV H t ⟨S,h⟩ _=>(h) RT ZV H (Kp.refl RT H) bP S
theorem aLo{s:S}{ss:Ss}{x:Ck}{xs:List Ck}(h1:∀RT Z,PS X x (wS X RT Y J Z (ex P (call P n) Z s)))(h2:∀RT Z,PSs X xs (wS X RT Y J Z (exs P (call P n) Z ss))) :
 PSs X (x::xs) (wS X RT Y J Z (exs P (call P n) Z (.cons s ss))):=by
 refine wK (aEC (h1 RT Z) (wL h2)) λD ZV H t ⟨S,h⟩=>?_;have h:OE X.K RT Y J H ((ex P (call P n) Z s).on λZ'=>exs P (call P n) Z' ss) D:=h;refine⟨S,?_⟩;cases q:ex P (call P n) Z s with
 | next Z'=>rw[q] at h;exact λI W H' k nn U=>⟨I,Z',U,(OE.mono k nn (h)).tkE⟩
 | ret v=>rw[q] at h;exact OE.tkE h|bad=>rw[q] at h;exact h
theorem aOh{st:Ck}{c:Nat}{k:Bool}{es:Es}:PS X st (wS X RT Y J Z (ex P (call P n) Z (.rse c k es))):=cU aED λD ZV H t ⟨S,h⟩=>h.elim
theorem aCc{pa:Bool}{al:List Nat}{ZV:L2.St}{b:Ah}(h:exB Y J pa b):exV RT Y J Z ZV pa al b:=.inr h
theorem Ro.rtv{H H':Hp}{ZV:L2.St}{v:Vl}{u:V}(S:Sx X.K RT Y J Z ZV H)(I:Ro X.K RT Y J Z ZV H H' v u):Rtv X.K Y J H' v u:=by unfold Rtv;by_cases q:v.fr=true;rw[if_pos q];obtain⟨s,h⟩:=I;rw[if_pos q] at h;obtain⟨a,xs,ds,U,W,e3,e4,r⟩:=h;exact .inl ⟨a,xs,ds,U,W,λz=>S.trk a (.inr (.inr z)) e3,e4,r.weak λb z=>z.elim .inl λz=>.inr (aCc z)⟩;rw[if_neg q];exact Rep.weak (I.rv S) λb z=>aCc z
theorem aOi{c:E}{e:As}(I:PE X e (WE X P n RT Y J Z c)):PS X (.Return (some e) pos) (wS X RT Y J Z (ex P (call P n) Z (.ret c))):=by exact cU (aAw I) λD ZV H t ⟨S,h⟩=>(wE.one S (OE.from (show OE X.K RT Y J H (O.from Z (ev P (call P n) Z c) .ret) D from h)) λx u H1 U W S1 q _=>(U) u H1 (Kp.same q.1) W (q.rtv S))
theorem aLp{i:Nat}{x:Str}{p:CB}(M:Mc X P Γ n)(U:bY Γ i x=true):PS X (.Return (some (.Name x p)) pos) (wS X RT Y J Z (ex P (call P n) Z (.retv i))):=by
 have I:PE X (.Name x p) (aHz i):=by unfold bY at U;obtain⟨h1,h2,q⟩:=gQ U;exact nT (by rw[M.N];exact eq_of_beq h1) (M.vis h2) (bH q) (gC q)
 refine cU (aAw I) λD ZV H t ⟨S,h⟩=>?_;have h:OE X.K RT Y J H (match Z[i]? with|some (.own pa ds)=>.ret ⟨.lst ds,true,pa,[]⟩|_=>O.from Z (cX Z i) .ret) D:=h;unfold cX at h;cases e:Z[i]? with
 | none=>rw[e] at h;exact h.elim|some sl=>
  rw[e] at h;cases sl with
  | dead=>exact h.elim|dct _=>exact h.elim|two _=>exact h.elim|own pa ds=>obtain⟨a,xs,h1,h2,q,W,h5⟩:=S.own i pa ds e;refine⟨.ref a,h1,λ_=>(h) _ H (Kp.refl RT H) t ?_⟩;unfold Rtv;rw[if_pos rfl];exact .inl ⟨a,xs,ds,rfl,rfl,W,h2,h5.weak λb z=>z.elim (λz=>.inl (by rw[z];exact q)) .inr⟩|sh pa d=>
   obtain⟨v,h1,h2⟩:=S.sh i pa d e;refine⟨v,h1,λ_=>(h) v H (Kp.refl RT H) t ?_⟩;unfold Rtv;rw[if_neg bN];cases hn:noL d with
   | true=>exact Rep.free d v hn h2|false=>refine h2.weak λb z=>.inr ?_;rw[DI,DV] at z;exact z
theorem aQk{c:E}{e:As}(I:PE X e (WE X P n RT Y J Z c))(hs:rA e=false):PS X (.Expr e pos) (wS X RT Y J Z (ex P (call P n) Z (.ex c))):=by exact cU (mI I (by cases e <;> first|rfl|cases hs)) λD ZV H t ⟨S,h⟩=>(wE.one S (OE.from (show OE X.K RT Y J H (O.from Z (ev P (call P n) Z c) λ_=>.next Z) D from h)) λx u H1 U t1 q W _=>(U) RT ZV H1 (Kp.same W.1) bP q)
theorem aQl{c:E}{a b:Ss}{e:As}{U W:List Ck}(hc:PT X e (WT X P n RT Y J Z c))(ha:∀RT Z,PSs X U (wS X RT Y J Z (exs P (call P n) Z a)))(hb:∀RT Z,PSs X W (wS X RT Y J Z (exs P (call P n) Z b))) :
 PS X (.If e U W pos) (wS X RT Y J Z (ex P (call P n) Z (.iff c a b))):=by
 refine cU (aMN hc (ha RT Z) (hb RT Z)) λD ZV H t ⟨S,h⟩=>?_;refine⟨S,(OE.from (show OE X.K RT Y J H (O.from Z (tst P (call P n) Z c) λk=>if k=true then exs P (call P n) Z a else exs P (call P n) Z b) D from h)).mono λk q H1 I s1=>?_⟩;cases k with
 | true=>rw[if_pos rfl] at q ⊢;exact⟨S.grow s1 I,(OE.mono (Kp.same s1) bP q).tkE⟩|false=>rw[if_neg bN] at q ⊢;exact⟨S.grow s1 I,(OE.mono (Kp.same s1) bP q).tkE⟩
theorem wM{ZV:L2.St}{H H1:Hp}{v:Vl}{u:V}{t:T}{D:Ends}(S:Sx X.K RT Y J Z ZV H)(t1:Tk X.K H1)(q:Ro X.K RT Y J Z ZV H H1 v u)(h:OE X.K RT Y J H (O.from Z (cN (freeze Z v.al) v t) .next) D):gT X.K t u ZV H1 D.nx:=by
 obtain⟨Z2,e,hp⟩:=(OE.from h).eq;clear h;cases t with
 | n i=>obtain⟨W,S',U⟩:=S.store q t1 i;rw[rN e] at hp;exact hp W _ H1 (Kp.same q.1) U S'|t is=>
  obtain⟨ds,hd,hl,e'⟩:=rM e;have I:v.fr=false\/v.fr=true:=by grind
  rcases I with I|I;exact aFJ ((S.grow q.1 t1).frz v.al) I (q.rv S) e λq0 S2 _=>hp _ _ _ (Kp.same q.1) (λb z=>.inl z.1) S2;have:=q.2;rw[if_pos I] at this;grind
theorem aLq{c:E}{e:As}{i:Nat}{x:Str}{p:CB}(M:Mc X P Γ n)(q:cD Γ i x=true)(I:PE X e (WE X P n RT Y J Z c))(hs:rA e=false):PS X (.Assign [.Name x p] e pos) (wS X RT Y J Z (ex P (call P n) Z (.set (.n i) c))):=by unfold cD at q;obtain⟨h1,h2,h3⟩:=gQ q;exact cU (qM M.nd (by rw[M.N];exact eq_of_beq h1) (M.loc h2) I (by cases e <;> first|rfl|cases hs) (M.st x h2)) λD ZV H t ⟨S,h⟩=>(wE.one S (OE.from (show OE X.K RT Y J H (O.from Z (ev P (call P n) Z c) λv=>O.from Z (cN (freeze Z v.al) v (.n i)) .next) D from h)) λv u H1 U t1 S1 W=>wM S t1 W (OE.tkE U))
theorem aLr{c:E}{e:As}{is:List Nat}{es:List As}{k:Nat}{p:CB}(M:Mc X P Γ n)(U:pN Γ (.t is) (.Tuple es k p)=true)(q:PE X e (WE X P n RT Y J Z c))(hs:nX e=false):PS X (.Assign [.Tuple es k p] e pos) (wS X RT Y J Z (ex P (call P n) Z (.set (.t is) c))):=by exact cU (vK q (aIm M U) (by cases e <;> rfl) (by cases e <;> first|rfl|cases hs)) λD ZV H t ⟨S,h⟩=>(wE.one S (OE.from (show OE X.K RT Y J H (O.from Z (ev P (call P n) Z c) λv=>O.from Z (cN (freeze Z v.al) v (.t is)) .next) D from h)) λv u H1 I t1 S1 W=>wM S t1 W (OE.tkE I))
theorem aDR{i:Nat}{x:Str}{p W:CB}(M:Mc X P Γ n)(hx:cD Γ i x=true){k:Nat}{caps:List Nat}{t:T}{it:Hp.It}{cond:Es}{elt:E}{e tg U:As}{q0:List As}{scope:De}{N':List Str}(CS:eD X scope k caps N')(q2:caps.Nodup)(hk:∀i∈tIx t,i<k)
 (hi:PI X tg U (wI X P n RT Y J Z it))
 (q1:∀C s₀ H₀ ex,PG (eW X scope N' C s₀ H₀ ex) tg (gT X.K t)/\(∀RT Y J q,PTs (eW X scope N' C s₀ H₀ ex) q0 (wTs X P n RT Y J q cond))/\∀RT Y J q,PE (eW X scope N' C s₀ H₀ ex) e (WE X P n RT Y J q elt))
 (hs:∀x,Cd U X.env x=pure x):PS X (.Assign [.Name x p] (.ListComp e [⟨tg,U,q0,0⟩] scope W) pos) (wS X RT Y J Z (ex P (call P n) Z (.set (.n i) (.comp k caps t it cond elt)))):=by
 unfold cD at hx;obtain⟨h1,h2,h3⟩:=gQ hx;refine cU (aAM (g:=gT X.K t) (tt:=λZV H Q=>∃RT Y J q,wTs X P n RT Y J q cond ZV H Q) (te:=λZV H Q=>∃RT Y J q,WE X P n RT Y J q elt ZV H Q) CS M.calm hi (λC s₀ H₀ ex=>?_) hs M.nd (by rw[M.N];exact eq_of_beq h1) (M.loc h2) (M.st x h2)) λD ZV H t0 ⟨S,h⟩=>?_;obtain⟨h1,h2,h3⟩:=q1 C s₀ H₀ ex;exact⟨h1,λG s ZV H Q I ⟨RT,Y,J,q,hw⟩=>h2 RT Y J q G s ZV H Q I hw,λG s ZV H Q I ⟨RT,Y,J,q,hw⟩=>h3 RT Y J q G s ZV H Q I hw⟩;have h:=OE.from (show OE X.K RT Y J H (O.from Z (ev P (call P n) Z (.comp k caps t it cond elt)) λv=>O.from Z (cN (freeze Z v.al) v (.n i)) .next) D from h)
 exact aFL q2 hk ⟨S,h.mono λv hv u H1 t1 r1=>wM S t1 r1 hv⟩
theorem Sx.mut{K:Fg}{ZV:L2.St}{H:Hp}(S:Sx K RT Y J Z ZV H){i:Nat}{pa pa':Bool}{ds ds':List D}{a:Ah}{xs':List V}(e:Z[i]? = some (.own pa ds))(ha:ZV[i]? = some (some (.ref a)))(r:Reps K H (λb=>RT b\/exB Y J pa' b) ds' xs') :
 Sx K RT Y J (Z.set i (.own pa' ds')) ZV (upd H a (.lst xs')):=by
 obtain⟨a',xs,h1,h2,h3,h4,h5⟩:=S.own i pa ds e;rw[ha] at h1;cases h1;have ks:∀{ex:Ah->Prop},∀b o,H b=some o->(∀ys,o=.lst ys->¬ (RT b\/ex b))->(∀φ,o≠.ext φ)->upd H a (.lst xs') b=some o:=λ{ex} b o q hl _=>by rw[aO λz=>by grind];exact q
 exact {
  sh:=λj W d q=>by
   rcases set_some q with⟨_,z,_⟩|⟨_,q⟩
   cases z;obtain⟨v,g1,g2⟩:=S.sh j W d q;exact⟨v,g1,g2.keep ks⟩
  own:=λj W I q=>by
   rcases set_some q with⟨rfl,z,_⟩|⟨q0,q⟩
   cases z;exact⟨a,xs',ha,bD,h3,h4,r.keep ks⟩;obtain⟨b,ys,g1,g2,g3,g4,g5⟩:=S.own j W I q;have U:b≠a:=λz=>by subst z;exact q0 (S.inj i j pa W ds I b e q ha g1)
   exact⟨b,ys,g1,by rw[aO U];exact g2,g3,g4,g5.keep ks⟩
  trk:=λb z q=>by by_cases U:b=a;rw[U,bD] at q;cases q;rw[aO U] at q;exact S.trk b z q
  yo:=S.yo
  tk:=λb z=>by by_cases U:b=a;rw[U];exact S.tk a (by rw[h2];simp);rw[aO U] at z;exact S.tk b z
  rt:=λb z=>by by_cases U:b=a;rw[U];exact .inl ⟨xs',bD⟩;unfold RtO;rw[aO U];exact S.rt b z
  inj:=λj j' W q4 I q3 b q1 q2=>by
   have get:∀{j:Nat} {W:Bool} {I:List D},(Z.set i (.own pa' ds'))[j]? = some (.own W I)->∃p2 d2,Z[j]? = some (.own p2 d2):=λ{j W I} q=>by grind
   obtain⟨_,_,z1⟩:=get q1;obtain⟨_,_,z2⟩:=get q2;exact S.inj j j' _ _ _ _ b z1 z2
  len:=by rw[Az];exact S.len
  dx:=S.dx.imp id (λj I q=>by
   rcases set_some q with⟨_,z,_⟩|⟨_,q⟩
   cases z;exact⟨q,rfl⟩) (λ_ _ _ _ _ _ e=>e) (λb ys q z _=>⟨by rw[aO λw=>by rw[w,h2] at q;cases q];exact q,z⟩) (λb ks z=>Kp.seqT (λb o q n=>by rw[aO n];exact q) (λb z=>.inl ⟨xs,by rw[z];exact h2⟩) z) (λj I q=>by
   rcases set_some q with⟨_,z,_⟩|⟨_,q⟩
   cases z;exact⟨q,rfl⟩) (λ_ _ _ _ _ _ e=>e) λp ys q z=>⟨by rw[aO λw=>z.2.2 i pa ds e (by rw[w];exact ha)];exact q,z.1,z.2.1,λk W I w=>by
   rcases set_some w with⟨rfl,_,_⟩|⟨_,w⟩
   exact z.2.2 i pa ds e;exact z.2.2 k W I w⟩ }
theorem Kp.upd{H H1:Hp}{a:Ah}{xs:List V}(s:aQ H H1)(h:RT a):Kp RT H (upd H1 a (.lst xs)):=λb o e q=>by rw[aO λz=>q (by rw[z];exact h)];exact s b o e
theorem rV{i:Nat}{pa:Bool}{ds:List D}(h:lH Z i=some (pa,ds)):Z[i]? = some (.own pa ds):=by unfold lH at h;split at h;rename_i q;cases h;exact q;cases h
theorem wN{i:Nat}{v:Vl}{f:List D->Option (List D)}{H:Hp}{D:Ends}(h:OE X.K RT Y J H (put Z i v f) D):∃pa ds ds',Z[i]? = some (.own pa ds)/\i∉v.al/\f ds=some ds'/\ds'.length<=lim/\rT X.K RT Y J H ((freeze Z v.al).set i (.own (pa||v.pa) ds')) D.nx:=by unfold put at h;split at h;rename_i pa ds q;have q:=fH (rV q);split at h;rename_i ds' U;split at h;rename_i I;exact⟨pa,ds,ds',q.1,q.2,U,I,h⟩;exact h.elim;exact h.elim;exact h.elim
theorem pW{pa q:Bool}{b:Ah}(h:exB Y J (pa||q) b):exB Y J pa b:=h.imp_right λz=>⟨by grind,z.2⟩
theorem aCd{pa q:Bool}{b:Ah}(h:exB Y J (pa||q) b):exB Y J q b:=h.imp_right λz=>⟨by grind,z.2⟩
theorem pX{i:Nat}{m:Str}{c:As}{xs:List As}(h:nY Γ i m c=some xs):∃x p ap I,c=.Call (.Attribute (.Name x p) m ap) xs [] I/\bY Γ i x=true/\(ap.endLine==I.line)=true:=by unfold nY at h;split at h;rename_i x p a ap xs' I;split at h;rename_i q;obtain⟨U,W,q3⟩:=gQ q;cases h;have e:=eq_of_beq U;subst e;exact⟨x,p,ap,I,rfl,W,q3⟩;cases h;cases h
theorem fJ{i:Nat}{x:Str}{p:CB}(M:Mc X P Γ n)(I:bY Γ i x=true):PE X (.Name x p) (aHz i):=by unfold bY at I;obtain⟨h1,h2,q⟩:=gQ I;exact nT (by rw[M.N];exact eq_of_beq h1) (M.vis h2) (bH q) (gC q)
theorem rW:lim<sizeLine:=by rw[Cb];decide
theorem mU{i:Nat}{al:List Nat}{pa:Bool}{ds:List D}{ZV:L2.St}{H H1:Hp}{b:Ah}{xs:List V}(S:Sx X.K RT Y J Z ZV H)(s1:aQ H H1)(W:Z[i]? = some (.own pa ds))(h1:ZV[i]? = some (some (.ref b)))(h2:H b=some (.lst xs)) :
 Reps X.K H1 (λc=>rtF RT Z ZV al c\/exB Y J pa c) ds xs:=by obtain⟨b',xs',q,I,g3,g4,U⟩:=S.own i pa ds W;rw[h1] at q;cases q;rw[h2] at I;cases I;exact(U.grow s1).weak λc z=>z.elim (λz=>.inl z.1) .inr
theorem mV{i:Nat}{v:Vl}{pa:Bool}{ds ds':List D}{ZV:L2.St}{H H1:Hp}{b:Ah}{xs':List V}{Q:L2.St->Hp->Prop}(S:Sx X.K RT Y J Z ZV H)(s1:aQ H H1)(t1:Tk X.K H1)(U:Z[i]? = some (.own pa ds))(q2:i∉v.al)(h1:ZV[i]? = some (some (.ref b)))
 (r:Reps X.K H1 (λc=>rtF RT Z ZV v.al c\/exB Y J (pa||v.pa) c) ds' xs') (q:rT X.K RT Y J H ((freeze Z v.al).set i (.own (pa||v.pa) ds')) Q):Q ZV (upd H1 b (.lst xs')):=by
 obtain⟨b',xs,I,g2,g3,g4,g5⟩:=S.own i pa ds U;rw[h1] at I;cases I;have W:(freeze Z v.al)[i]? = some (.own pa ds):=by rw[fG,U];simp[q2]
 exact q _ ZV _ (Kp.upd s1 g3) (λc z=>.inl z.1) (((S.grow s1 t1).frz v.al).mut W h1 r)
theorem aAX{ZV:L2.St}{H1:Hp}{v:Vl}{u:V}{pa:Bool}(h:Rv X.K RT Y J Z ZV H1 v u):Rep X.K H1 (λc=>rtF RT Z ZV v.al c\/exB Y J (pa||v.pa) c) v.d u:=Rep.weak h λc z=>z.imp id aCd
theorem aOj{i:Nat}{c:E}{e a:As}(M:Mc X P Γ n)(hc:nY Γ i "append" e=some [a])(ha:PE X a (WE X P n RT Y J Z c))(U:aX a=true):PS X (.Expr e pos) (wS X RT Y J Z (ex P (call P n) Z (.app i c))):=by
 obtain⟨x,p,ap,cp,rfl,hx,hl⟩:=pX hc;refine cU (mI (yH Cg D2 D3 nU (fJ M hx) (eX ha hZ (aB U)) rfl (by rw[aB U];rfl) hl (aB U) rfl)) λD ZV H t ⟨S,h⟩=>?_;have h:=OE.from (show OE X.K RT Y J H (O.from Z (ev P (call P n) Z c) λv=>put Z i v λds=>some (ds++[v.d])) D from h)
 obtain⟨v,ee,h⟩:=h.eq;obtain⟨pa,ds,ds',W,q2,q3,q4,q⟩:=wN h;cases q3;obtain⟨b,xs,h1,h2,h3,h4,h5⟩:=S.own i pa ds W;refine⟨.ref b,h1,.inl ⟨rfl,xs,SqL.of h2⟩,S,?_⟩;rw[ee];intro u H1 t1 I;have q0:=h5.length;refine⟨b,xs,u,rfl,rfl,I.1 _ _ h2,?_,λ_=>?_⟩;rw[lA,BU] at q4;have:=rW;omega;exact mV S I.1 t1 W q2 h1 (((mU S I.1 W h1 h2).weak λc z=>z.imp id pW).append (.cons (aAX (I.rv S)) .nil)) q
theorem aOk{i:Nat}{c:E}{e a:As}(M:Mc X P Γ n)(hc:nY Γ i "extend" e=some [a])(ha:PE X a (WE X P n RT Y J Z c))(hp:aX a=true):PS X (.Expr e pos) (wS X RT Y J Z (ex P (call P n) Z (.ext i c))):=by
 obtain⟨x,p,ap,cp,rfl,hx,hl⟩:=pX hc;refine cU (mI (yH Cg PySem.F.slot_list_extend PySem.F.type_list_extend aDn (fJ M hx) (eX ha hZ (aB hp)) rfl (by rw[aB hp];rfl) hl (aB hp) rfl)) λD ZV H t ⟨S,h⟩=>?_;have h:=OE.from (show OE X.K RT Y J H (O.from Z (ev P (call P n) Z c) λv=>(match uB v with|some (v',ds')=>put Z i v' λds=>some (ds++ds')|none=>.bad)) D from h)
 obtain⟨v,ee,h⟩:=h.eq;unfold uB at h;cases U:v.fr with
 | false=>rw[U] at h;exact h.elim|true=>
  rw[U] at h;cases hd:v.d with
  | lst es=>rw[hd] at h;obtain⟨pa,ds,ds',q1,q2,q3,q4,q⟩:=wN h;cases q3;obtain⟨b,xs,h1,h2,h3,h4,h5⟩:=S.own i pa ds q1;refine⟨.ref b,h1,.inl ⟨rfl,xs,SqL.of h2⟩,S,?_⟩;rw[ee];intro u H1 t1 I;have hr:=I.2;rw[if_pos U] at hr;obtain⟨a',ys,q5,e1,e2,e3,e4,r⟩:=hr;rw[hd] at e2;cases e2;subst e1;have q0:=h5.length;have W:=r.length;refine⟨b,a',xs,ys,rfl,rfl,I.1 _ _ h2,e4,?_,λ_=>?_⟩;rw[lA] at q4;have:=rW;omega;exact mV S I.1 t1 q1 q2 h1 (((mU S I.1 q1 h1 h2).weak λc z=>z.imp id pW).append ((fX (r.weak λb z=>.inr z)).weak λc z=>z.imp id aCd)) q|_=>rw[hd] at h;exact h.elim
theorem aIs{i:Nat}{ck c:E}{x:Str}{p p2:CB}{ix v:As}(M:Mc X P Γ n)(hx:bY Γ i x=true)(hk:PE X ix (WE X P n RT Y J Z ck))(he:PE X v (WE X P n RT Y J Z c))(q0:aX ix=true):PS X (.Assign [.Subscript (.Name x p) ix p2] v pos) (wS X RT Y J Z (ex P (call P n) Z (.setIx i ck c))):=by
 refine cU (vK he (aEF (fJ M hx) hk aEV (by intro _;cases ix <;> first|rfl|cases q0)) (by cases v <;> rfl) (by cases v <;> rfl)) λD ZV H t ⟨S,h⟩=>?_;have h:=OE.from (show OE X.K RT Y J H (O.from Z (ev P (call P n) Z c) λv=>O.from Z (ev P (call P n) Z ck) λkv=>(match kv.d with
  | .int k=>put Z i v λds=>(match ixN ds.length k with|some j=>some (ds.set j v.d)|none=>none)
  | _=>.bad)) D from h)
 refine wE.one S h λv u H1 I t1 S1 r1=>?_;obtain⟨kv,ek,I⟩:=(OE.from I).eq;cases hd:kv.d with
 | int k=>
  rw[hd] at I;obtain⟨pa,ds,ds',q1,q2,W,q4,q⟩:=wN I;obtain⟨b,xs,h1,h2,h3,h4,h5⟩:=S.own i pa ds q1;cases hj:ixN ds.length k with
  | none=>rw[hj] at W;cases W|some j=>rw[hj] at W;cases W;refine⟨.ref b,h1,S1,?_⟩;rw[ek];intro uk H2 t2 U;refine⟨b,xs,k,j,rfl,(U.rv S1).int hd,U.1 _ _ (r1.1 _ _ h2),by rw[<-h5.length,<-oC];exact hj,λ_=>?_⟩;refine mV S (r1.1.trans U.1) t2 q1 q2 h1 (((mU S (r1.1.trans U.1) q1 h1 h2).weak λc z=>z.imp id pW).set j (aAX ((r1.rv S).grow U.1))) q
 | _=>rw[hd] at I;exact I.elim
theorem zO{i:Nat}{k:Option Int}{v:Vl}{Z':Sg}(h:mM Z i k=.ok (v,Z')):∃pa ds j d,Z[i]? = some (.own pa ds)/\ixN ds.length (k.getD (-1))=some j/\ds[j]? = some d/\v=Vl.sub ⟨.non,false,pa,[]⟩ d/\Z'=Z.set i (.own pa (ds.eraseIdx j)):=by
 unfold mM at h;cases q:lH Z i with
 | none=>rw[q] at h;cases h|some U=>
  obtain⟨pa,ds⟩:=U;rw[q] at h;cases k with
  | none=>
   have h:(match ixN ds.length (-1) with|some j=>(match ds[j]? with|some d=>R.ok (Vl.sub ⟨.non,false,pa,[]⟩ d,Z.set i (.own pa (ds.eraseIdx j)))|none=>.bad)|none=>.bad)=R.ok (v,Z'):=h;cases I:ixN ds.length (-1) with
   | none=>rw[I] at h;cases h|some j=>
    rw[I] at h;have h:(match ds[j]? with|some d=>R.ok (Vl.sub ⟨.non,false,pa,[]⟩ d,Z.set i (.own pa (ds.eraseIdx j)))|none=>.bad)=R.ok (v,Z'):=h;cases hd:ds[j]? with
    | none=>rw[hd] at h;cases h|some d=>rw[hd] at h;cases h;exact⟨pa,ds,j,d,rV q,I,hd,rfl,rfl⟩
  | some k=>
   have h:(match ixN ds.length k with|some j=>(match ds[j]? with|some d=>R.ok (Vl.sub ⟨.non,false,pa,[]⟩ d,Z.set i (.own pa (ds.eraseIdx j)))|none=>.bad)|none=>.bad)=R.ok (v,Z'):=h;cases I:ixN ds.length k with
   | none=>rw[I] at h;cases h|some j=>
    rw[I] at h;have h:(match ds[j]? with|some d=>R.ok (Vl.sub ⟨.non,false,pa,[]⟩ d,Z.set i (.own pa (ds.eraseIdx j)))|none=>.bad)=R.ok (v,Z'):=h;cases hd:ds[j]? with
    | none=>rw[hd] at h;cases h|some d=>rw[hd] at h;cases h;exact⟨pa,ds,j,d,rV q,I,hd,rfl,rfl⟩
theorem aFV{i:Nat}{pa:Bool}{ds:List D}{j:Nat}{d:D}{ZV:L2.St}{H H1:Hp}{b:Ah}{xs:List V}(S:Sx X.K RT Y J Z ZV H)(s1:aQ H H1)(t1:Tk X.K H1)(q1:Z[i]? = some (.own pa ds))(h1:ZV[i]? = some (some (.ref b)))(h2:H b=some (.lst xs))(hd:ds[j]? = some d) :
 ∃y,xs[j]? = some y/\Kp RT H (upd H1 b (.lst (xs.eraseIdx j)))/\Sx X.K RT Y J (Z.set i (.own pa (ds.eraseIdx j))) ZV (upd H1 b (.lst (xs.eraseIdx j))) /\
  Rep X.K (upd H1 b (.lst (xs.eraseIdx j))) (λa=>RT a\/exB Y J (Vl.sub ⟨.non,false,pa,[]⟩ d).pa a) (Vl.sub ⟨.non,false,pa,[]⟩ d).d y:=by
 have I:=S.grow s1 t1;obtain⟨b',xs',U,W,g3,g4,g5⟩:=I.own i pa ds q1;rw[h1] at U;cases U;rw[s1 _ _ h2] at W;cases W;obtain⟨y,hy,ry⟩:=g5.get hd;refine⟨y,hy,Kp.upd s1 g3,I.mut q1 h1 (g5.eraseIdx j),?_⟩;have q:Rep X.K (upd H1 b (.lst (xs.eraseIdx j))) (λa=>RT a\/exB Y J pa a) d y:=ry.keep λc o e hl _=>by rw[aO λz=>by subst z;rw[s1 _ _ h2] at e;grind];exact e
 unfold Vl.sub;by_cases hn:noL d=true;rw[if_pos hn];exact Rep.free d y hn q;simp_all
noncomputable def aQm(X:Cx)(P:Pg)(n:Nat)(RT Y J:Ah->Prop)(Z:Sg)(i:Nat)(k:Option E):TE:=λZV H Q=>Sx X.K RT Y J Z ZV H/\RE (yR (k.map λe=>ev P (call P n) Z e)) λk=>RE (mM Z i k) λr=>∀u H',Kp RT H H'->Sx X.K RT Y J r.2 ZV H'->Rep X.K H' (λa=>RT a\/exB Y J r.1.pa a) r.1.d u->Q u H'
theorem aLs{m:Nat}{k:Int}{j:Nat}(h:ixN m k=some j):j<m/\GQ k m=some j:=by rw[oC] at h;obtain⟨h1,h2,_⟩:=vN h;exact⟨h2,h1⟩
theorem aLt{i:Nat}{c:E}{e a:As}(M:Mc X P Γ n)(hc:nY Γ i "pop" e=some [a])(ha:PE X a (WE X P n RT Y J Z c))(I:aX a=true):PE X e (aQm X P n RT Y J Z i (some c)):=by
 obtain⟨x,p,ap,cp,rfl,hx,hl⟩:=pX hc;refine(yH Cg PySem.F.slot_list_pop PySem.F.type_list_pop aEW (fJ M hx) (eX ha hZ (aB I)) rfl (by rw[aB I];rfl) hl (aB I) rfl).imp λZV H Q t ⟨S,h⟩=>?_;have h:=RE.bind' (show RE (ev P (call P n) Z c >>= λv=>(match v.d with|.int k=>R.iff (aM k) (R.ok (some k))|_=>.bad)) _ from h);obtain⟨kv,ek,h⟩:=h.eq;cases q:kv.d with
 | int k=>rw[q] at h;obtain⟨hs,h⟩:=h.iff;obtain⟨⟨v,Z'⟩,ep,h⟩:=(show RE (mM Z i (some k)) _ from h).eq;obtain⟨pa,ds,j,d,W,hj,hd,e1,e2⟩:=zO ep;obtain⟨b,xs,h1,h2,h3,h4,h5⟩:=S.own i pa ds W;refine⟨.ref b,h1,.inl ⟨rfl,xs,SqL.of h2⟩,S,?_⟩;rw[ek];intro u H1 t1 U;obtain⟨y,hy,kp,S2,ry⟩:=aFV S U.1 t1 W h1 h2 hd;have hs:=eQ hs;obtain⟨g1,g2⟩:=aLs hj;refine⟨b,xs,k,j,y,rfl,by rw[(U.rv S).int q],U.1 _ _ h2,by omega,by omega,by rw[<-h5.length];exact g2,hy,λ_=>?_⟩;simp_all|_=>rw[q] at h;exact h.elim
theorem Sx.move{K:Fg}{ZV:L2.St}{H:Hp}(S:Sx K RT Y J Z ZV H){i j:Nat}{pa:Bool}{ds:List D}{a:Ah}(e:Z[j]? = some (.own pa ds))(q3:i≠j)(ha:ZV[j]? = some (some (.ref a))):Sx K RT Y J ((Z.set j .dead).set i (.own pa ds)) (ZV.set i (some (.ref a))) H where
 sh:=λk W d q=>by
  rcases set_some q with⟨_,z,_⟩|⟨I,q⟩
  cases z;rcases set_some q with⟨_,z,_⟩|⟨n2,q⟩
  cases z;obtain⟨v,g1,g2⟩:=S.sh k W d q;grind
 own:=λk W U q=>by
  rcases set_some q with⟨rfl,z,hl⟩|⟨I,q⟩
  cases z;obtain⟨b,xs,g1,g2,g3⟩:=S.own j pa ds e;rw[ha] at g1;cases g1;rw[Az] at hl;exact⟨a,xs,AE (by rw[<-S.len];exact hl),g2,g3⟩;rcases set_some q with⟨_,z,_⟩|⟨n2,q⟩
  cases z;obtain⟨b,xs,g1,g2⟩:=S.own k W U q;exact⟨b,xs,by rw[Ai I];exact g1,g2⟩
 trk:=S.trk
 yo:=S.yo
 tk:=S.tk
 rt:=S.rt
 inj:=λk k' W q4 U q0 b q1 q2 v1 v2=>by
  have get:∀{k:Nat} {W:Bool} {U:List D},((Z.set j .dead).set i (.own pa ds))[k]? = some (.own W U)->(ZV.set i (some (.ref a)))[k]? = some (some (.ref b))->(k=i/\b=a)\/(k≠i/\k≠j/\Z[k]? = some (.own W U)/\ZV[k]? = some (some (.ref b))):=λ{k W U} q v=>by
   rcases set_some q with⟨rfl,z,hl⟩|⟨I,q⟩
   rw[Az] at hl;rw[AE (by rw[<-S.len];exact hl)] at v;cases v;exact .inl ⟨rfl,rfl⟩;rcases set_some q with⟨_,z,_⟩|⟨n2,q⟩
   cases z;rw[Ai I] at v;exact .inr ⟨Dc I,Dc n2,q,v⟩
  rcases get q1 v1 with⟨e1,b1⟩|⟨I,m1,o1,w1⟩
  rcases get q2 v2 with⟨e2,_⟩|⟨n2,m2,o2,w2⟩
  rw[e1,e2];subst b1;exact absurd (S.inj k' j _ _ _ _ b o2 e w2 ha) m2;rcases get q2 v2 with⟨e2,b2⟩|⟨n2,m2,o2,w2⟩
  subst b2;exact absurd (S.inj k j _ _ _ _ b o1 e w1 ha) m1;exact S.inj k k' _ _ _ _ b o1 o2 w1 w2
 len:=by rw[Az,Az,Az];exact S.len
 dx:=S.dx.imp id (λk U q=>by
  rcases set_some q with⟨_,z,_⟩|⟨I,q⟩
  cases z;rcases set_some q with⟨_,z,_⟩|⟨n2,q⟩
  cases z;exact⟨q,Ai I⟩) (λ_ _ _ _ _ _ e=>e) (λ_ _ e z _=>⟨e,z⟩) (λ_ _ r=>r) (λk U q=>by
  rcases set_some q with⟨_,z,_⟩|⟨I,q⟩
  cases z;rcases set_some q with⟨_,z,_⟩|⟨n2,q⟩
  cases z;exact⟨q,Ai I⟩) (λ_ _ _ _ _ _ e=>e) λp xs q z=>⟨q,z.1,z.2.1,λk W U q w=>by
  rcases set_some q with⟨rfl,_,hl⟩|⟨I,q⟩
  rw[Az] at hl;rw[AE (by rw[<-S.len];exact hl)] at w;cases w;exact z.2.2 j pa ds e ha;rcases set_some q with⟨_,v,_⟩|⟨n2,q⟩
  cases v;rw[Ai I] at w;exact z.2.2 k W U q w⟩
theorem aOl{i j:Nat}{x y:Str}{p p2:CB}(M:Mc X P Γ n)(W:cD Γ i x=true)(hy:bY Γ j y=true):PS X (.Assign [.Name x p] (.Name y p2) pos) (wS X RT Y J Z (ex P (call P n) Z (.mov i j))):=by
 unfold cD at W;obtain⟨h1,h2,h3⟩:=gQ W;refine cU (qM M.nd (by rw[M.N];exact eq_of_beq h1) (M.loc h2) (fJ M hy) rfl (M.st x h2)) λD ZV H t ⟨S,h⟩=>?_;have h:OE X.K RT Y J H (match Z[j]? with
  | some (.own pa ds)=>if i=j then .bad else .next ((Z.set j .dead).set i (.own pa ds))|some (.sh pa d)=>.next (Z.set i (.sh (pa&&!noL d) d))|_=>.bad) D:=h
 cases e:Z[j]? with
 | none=>rw[e] at h;exact h.elim|some sl=>
  rw[e] at h;cases sl with
  | dead=>exact h.elim|dct _=>exact h.elim|two _=>exact h.elim|own pa ds=>by_cases q:i=j;have h:OE X.K RT Y J H (if i=j then .bad else .next ((Z.set j .dead).set i (.own pa ds))) D:=h;rw[if_pos q] at h;exact h.elim;have h:OE X.K RT Y J H (if i=j then .bad else .next ((Z.set j .dead).set i (.own pa ds))) D:=h;rw[if_neg q] at h;obtain⟨a,xs,I,U⟩:=S.own j pa ds e;exact⟨.ref a,I,λ_=>(h) RT _ H (Kp.refl RT H) bP (S.move e q I)⟩|sh pa d=>
   obtain⟨v,I,U⟩:=S.sh j pa d e;refine⟨v,I,λ_=>(h) RT _ H (Kp.refl RT H) bP (S.setSh ?_)⟩;cases hn:noL d with
   | true=>exact Rep.free d v hn U|false=>rw[DI,DV];exact U
theorem aOm{t:T}{it:Hp.It}{b:Ss}{tg q4:As}{body:List Ck}(M:Mc X P Γ n)(hx:pN Γ t tg=true)(hi:PI X tg q4 (wI X P n RT Y J Z it))(hb:∀RT Z,PSs X body (wS X RT Y J Z (exs P (call P n) Z b)))(hs:∀x,Cd q4 X.env x=pure x) :
 PS X (.For tg q4 body [] pos) (wS X RT Y J Z (ex P (call P n) Z (.for t it b))):=by
 refine cU (aKb (by rw[M.xe];exact Hu) M.calm hi (aIm M hx) (wL hb) hs) λD0 ZV H t0 ⟨S,h⟩=>?_;have h:=OE.tkE h;revert h;generalize tkE X.K D0=D;intro h
 let f:Sg->Vl->O:=λZ x=>O.from Z (cN Z x t) λZ'=>exs P (call P n) Z' b
 refine⟨S,(OE.from (show OE X.K RT Y J H (O.from Z (walk P (call P n) Z it) λxs=>eK f xs.1 (freeze Z xs.2)) D from h)).mono λxs hx J'' H1 t1 s1 ok=>?_⟩;refine⟨λi m q6 Hc=>m=xs.1.length-i/\i<=xs.1.length/\∃I U,Kp (rtF RT Z ZV xs.2) H1 Hc/\(∀b,I b->rtF RT Z ZV xs.2 b\/H1 b=none)/\Sx X.K I Y J U q6 Hc/\OE X.K I Y J Hc (eK f (xs.1.drop i) U) D,
  ⟨_,rfl,Bw _,rtF RT Z ZV xs.2,freeze Z xs.2,Kp.refl _ _,bP,((S.grow s1 t1).frz xs.2),OE.mono (Kp.same s1) (λb z=>.inl z.1) hx⟩,?_⟩
 rintro i m q6 Hc ⟨hm,hi,I,U,kp,q3,Sc,ho⟩;have q8:=ok.ok (rtF RT Z ZV xs.2) (λ_ z=>z) i Hc kp;by_cases q0:i<xs.1.length;refine .inr ⟨q8.1 q0,λZ' H'=>xs.1.length-(i+1)=xs.1.length-(i+1)/\i+1<=xs.1.length/\∃I U,Kp (rtF RT Z ZV xs.2) H1 H'/\(∀b,I b->rtF RT Z ZV xs.2 b\/H1 b=none)/\Sx X.K I Y J U Z' H'/\OE X.K I Y J H' (eK f (xs.1.drop (i+1)) U) D,
  λZ' H' hN=>⟨_,by omega,hN⟩,λx H' hy=>?_⟩
 obtain⟨sm,w3,rv⟩:=q8.2.2 x H' hy xs.1[i] (Ad q0);rw[BS q0] at ho;have rep:Rep X.K H' (λa=>I a\/exB Y J xs.1[i].pa a) xs.1[i].d x:=rv.weak λa z=>by rcases z with z|z;rcases q3 a z with q|q;exact .inl (.inl ⟨q.1,λw=>q.2 (w.mono (ok.sub _ (AK q0)))⟩);exact .inr ⟨q,Sc.tk a (Sc.trk a (.inl z))⟩;exact .inl (.inr z)
 have ho:OE X.K I Y J Hc (match f U xs.1[i] with
  | .next Z'=>eK f (xs.1.drop (i+1)) Z'|o=>o) D:=ho
 cases q2:cN U xs.1[i] t with
 | bad=>rw[show f U xs.1[i]=.bad by show O.from U (cN U xs.1[i] t) _=_;rw[q2];rfl] at ho;exact ho.elim|ok Z2=>
  rw[show f U xs.1[i]=exs P (call P n) Z2 b by show O.from U (cN U xs.1[i] t) _=_;rw[q2];rfl] at ho;refine aFJ (Sc.grow sm (w3 Sc.tk)) (ok.nofr _ (AK q0)) rep q2 λw4 S2 _=>⟨I,Z2,S2,?_⟩
  have kS:Kp I Hc H':=Kp.same sm;have q7:∀{Z':Sg} {q1:Ah->Prop} {q5:L2.St} {W:Hp},Kp I H' W->(∀b,q1 b->I b\/H' b=none)->Sx X.K q1 Y J Z' q5 W->OE X.K I Y J Hc (eK f (xs.1.drop (i+1)) Z') D ->
   (xs.1.length-(i+1)=xs.1.length-(i+1)/\i+1<=xs.1.length/\∃I U,Kp (rtF RT Z ZV xs.2) H1 W/\(∀b,I b->rtF RT Z ZV xs.2 b\/H1 b=none)/\Sx X.K I Y J U q5 W/\OE X.K I Y J W (eK f (xs.1.drop (i+1)) U) D):=λ{Z' q1 q5 W} k2 s2 S3 h3=>by exact⟨rfl,q0,q1,Z',kp.chain q3 (kS.chain bP k2),iL kp q3 (iL kS bP s2),S3,OE.mono (kS.chain bP k2) (iL kS bP s2) h3⟩
  cases q:exs P (call P n) Z2 b with
  | next Z'=>rw[q] at ho;exact λq1 q5 W k2 s2 S3=>q7 k2 s2 S3 ho|ret v=>rw[q] at ho;exact OE.mono kS bP ho|bad=>rw[q] at ho;exact ho.elim
 have q9:i=xs.1.length:=by omega
 subst q9;rw[Ha] at ho;exact .inl ⟨q8.2.1 (Ap _),(ho) I q6 Hc (Kp.refl _ _) bP Sc⟩
theorem aOn{c:E}{b:Ss}{e:As}{body:List Ck}(M:Mc X P Γ n)(hc:∀RT Z,PT X e (WT X P n RT Y J Z c))(hb:∀RT Z,PSs X body (wS X RT Y J Z (exs P (call P n) Z b))):PS X (.While e body [] pos) (wS X RT Y J Z (ex P (call P n) Z (.whl c b))):=by
 refine cU (aEG (by rw[M.xe];exact Hu) (tc:=λZV H Q=>∃RT Z,WT X P n RT Y J Z c ZV H Q) (λG s ZV H Q I ⟨RT,Z,hw⟩=>hc RT Z G s ZV H Q I hw) (wL hb)) λD0 ZV H t0 ⟨S,h⟩=>?_;have h:=OE.tkE h;revert h;generalize tkE X.K D0=D;intro h;refine⟨λm q0 Hc=>∃U W,Sx X.K U Y J W q0 Hc/\OE X.K U Y J Hc (jM (λZ=>tst P (call P n) Z c) (λZ=>exs P (call P n) Z b) m W) D,⟨pD,RT,Z,S,h⟩,?_⟩;rintro m q0 Hc ⟨U,W,Sc,ho⟩;cases m with
 | zero=>exact ho.elim|succ m=>
  have ho:=OE.from (show OE X.K U Y J Hc (O.from W (tst P (call P n) W c) λk=>if k=true then (match exs P (call P n) W b with
   | .next Z'=>jM (λZ=>tst P (call P n) Z c) (λZ=>exs P (call P n) Z b) m Z'|o=>o) else .next W) D from ho)
  refine⟨U,W,Sc,ho.mono λk hk H1 t1 s1=>?_⟩;have kS:Kp U Hc H1:=Kp.same s1;cases k with
  | false=>rw[if_neg bN] at hk;exact aKr ((hk) U q0 H1 kS bP (Sc.grow s1 t1))|true=>
   rw[if_pos rfl] at hk;refine aKs ⟨λq1 H'=>∃U W,Sx X.K U Y J W q1 H'/\OE X.K U Y J H' (jM (λZ=>tst P (call P n) Z c) (λZ=>exs P (call P n) Z b) m W) D,λZ' H' hN=>⟨m,CH m,hN⟩,U,W,(Sc.grow s1 t1),?_⟩;cases q:exs P (call P n) W b with
   | next Z'=>rw[q] at hk;exact λq2 q1 q3 k2 s2 S3=>⟨q2,Z',S3,OE.mono (kS.chain bP k2) (iL kS bP s2) hk⟩
   | ret v=>rw[q] at hk;exact OE.mono kS bP hk|bad=>rw[q] at hk;exact hk.elim
end
section
variable {X:Cx} {P:Pg} {Γ:Ct} {n:Nat} {RT Y J:Ah->Prop} {Z:Sg} {pos:CB} {l:Nat} {K:Fg} {H:Hp} {ZV:L2.St}
theorem Sx.putDct(S:Sx K RT Y J Z ZV H){p:Ah}(hn:H p=none){U:List NE}{ks0:List (NK×D)}(t:Tk K (upd H p (dR p U)))(q3:U.map pj=ks0.map kV)(q5:∀x∈U,dE K H x.1 x.2.1)(i:Nat):Sx K (λb=>RT b\/b=p) Y J (Z.set i (.dct ks0)) (ZV.set i (some (.ref p))) (upd H p (dR p U)):=by
 have s:aQ H (upd H p (dR p U)):=aQ.new hn;have hk:=t p (by rw[bD];simp);have w:∀{pa:Bool} b,(RT b\/b=p)\/exB Y J pa b->b=p\/RT b\/exB Y J pa b:=λ{pa} b z=>by grind
 exact {
  sh:=λj pa d e=>by
   rcases set_some e with⟨_,z,_⟩|⟨I,e⟩
   cases z;obtain⟨v,h1,h2⟩:=S.sh j pa d e;exact⟨v,by rw[Ai I];exact h1,((h2.out hn hk).grow s).weak w⟩
  own:=λj pa ds e=>by
   rcases set_some e with⟨_,z,_⟩|⟨I,e⟩
   cases z;obtain⟨b,ys,h1,h2,h3,h4,h5⟩:=S.own j pa ds e;exact⟨b,ys,by rw[Ai I];exact h1,s _ _ h2,.inl h3,h4,((h5.out hn hk).grow s).weak w⟩
  trk:=λb z q=>by rcases z with(z|z)|z;exact S.trk b (.inl z) (s.free q);rw[z,bD] at q;cases q;exact S.trk b (.inr z) (s.free q)
  yo:=S.yo
  tk:=t
  rt:=λb z=>by rcases z with z|z;exact(S.rt b z).grow s;rw[z];exact .inr ⟨U,bD⟩
  inj:=λj j' pa' q0 ds ds' a W e2 e3 e4=>by
   rcases set_some W with⟨_,e,_⟩|⟨n1,W⟩
   cases e;rcases set_some e2 with⟨_,e,_⟩|⟨n2,e2⟩
   cases e;rw[Ai n1] at e3;rw[Ai n2] at e4;exact S.inj j j' pa' q0 ds ds' a W e2 e3 e4
  len:=by rw[Az,Az];exact S.len
  dx:={
   at':=λj ds e=>by
    rcases set_some e with⟨rfl,z,hl⟩|⟨I,e⟩
    cases z;exact⟨p,U,AE (by rw[<-S.len];exact hl),bD,.inr rfl,λz=>S.trk p (.inr (.inr z)) hn,q3,λx hx=>dE.imp (λ_ _ r=>aQ.seqT s r) (q5 x hx)⟩;obtain⟨a,xs,h1,h2,h3,h4,h5,h6⟩:=S.dx.at' j ds e;exact⟨a,xs,by rw[Ai I];exact h1,s _ _ h2,.inl h3,h4,h5,λx hx=>dE.imp (λ_ _ r=>aQ.seqT s r) (h6 x hx)⟩
   inj:=λj j' ds ds' a W e2 e3 e4=>by
    have fr:∀{j:Nat} {ds:List (NK×D)},Z[j]? = some (.dct ds)->ZV[j]? = some (some (.ref p))->False:=λ{j ds} e q=>by obtain⟨a',xs',h1,h2,_⟩:=S.dx.at' j ds e;rw[q] at h1;grind
    rcases set_some W with⟨rfl,e,hl⟩|⟨n1,W⟩
    grind;rw[Ai n1] at e3;rcases set_some e2 with⟨rfl,e,hl⟩|⟨n2,e2⟩
    rw[AE (by rw[<-S.len];exact hl)] at e4;grind;rw[Ai n2] at e4;exact S.dx.inj j j' ds ds' a W e2 e3 e4
   at2:=λj q1 e=>by
    rcases set_some e with⟨_,z,_⟩|⟨I,e⟩
    cases z;obtain⟨a,b,c,xs,ys,h1,ht,hb,hc,pb,pc,q4,n1,r1,r2⟩:=S.dx.at2 j q1 e;have pt:∀{q:Ah},Pt RT J Z ZV q->Pt (λb=>RT b\/b=p) J (Z.set i (.dct ks0)) (ZV.set i (some (.ref p))) q:=λ⟨z1,z2,z3⟩=>⟨.inl z1,z2,λk pa dd w=>by
     rcases set_some w with⟨_,v,_⟩|⟨q2,w⟩
     cases v;rw[Ai q2];exact z3 k pa dd w⟩
    exact⟨a,b,c,xs,ys,by rw[Ai I];exact h1,aQ.seqT s ht,s _ _ hb,s _ _ hc,pt pb,pt pc,q4,n1,r1.grow s,r2.grow s⟩
   one:=λj j' ds ds' W e2=>by
    rcases set_some W with⟨_,z,_⟩|⟨_,W⟩
    cases z;rcases set_some e2 with⟨_,z,_⟩|⟨_,e2⟩
    cases z;exact S.dx.one j j' ds ds' W e2 } }
theorem Sx.mutD(S:Sx K RT Y J Z ZV H){i:Nat}{q5 kvs':List (NK×D)}{a:Ah}{xs xs':List NE}(e:Z[i]? = some (.dct q5))(ha:ZV[i]? = some (some (.ref a)))(q3:H a=some (dR a xs))(q0:RT a)(q8:¬ J a)(r1:xs'.map pj=kvs'.map kV)(r:∀x∈xs',dE K H x.1 x.2.1) :
 Sx K RT Y J (Z.set i (.dct kvs')) ZV (upd H a (dR a xs')):=by
 have kp:Kp (λb=>b=a) H (upd H a (dR a xs')):=λb o q n=>by rw[aO n];exact q
 have hR:∀b,b=a->RtO H b:=λb z=>.inr ⟨xs,by rw[z];exact q3⟩;have hl:∀{b:Ah} {ys:List V},H b=some (.lst ys)->b≠a:=λ{b ys} q z=>by rw[z,q3] at q;cases q
 exact {
  sh:=λj pb d q=>by
   rcases set_some q with⟨_,z,_⟩|⟨_,q⟩
   cases z;obtain⟨v,g1,g2⟩:=S.sh j pb d q;exact⟨v,g1,g2.kp kp hR λb z=>.inl (by rw[z];exact q0)⟩
  own:=λj pb U q=>by
   rcases set_some q with⟨_,z,_⟩|⟨_,q⟩
   cases z;obtain⟨b,ys,g1,g2,g3,g4,g5⟩:=S.own j pb U q;exact⟨b,ys,g1,kp b _ g2 (hl g2),g3,g4,g5.kp kp hR λb z=>.inl (by rw[z];exact q0)⟩
  trk:=λb z q=>by by_cases I:b=a;rw[I,bD] at q;cases q;rw[aO I] at q;exact S.trk b z q
  yo:=S.yo
  tk:=λb z=>by by_cases I:b=a;rw[I];exact S.tk a (by rw[q3];simp);rw[aO I] at z;exact S.tk b z
  rt:=λb z=>by by_cases I:b=a;rw[I];exact .inr ⟨xs',bD⟩;unfold RtO;rw[aO I];exact S.rt b z
  inj:=λj j' pa' q6 ds ds' b W e2 e3 e4=>by
   rcases set_some W with⟨_,e,_⟩|⟨n1,W⟩
   cases e;rcases set_some e2 with⟨_,e,_⟩|⟨n2,e2⟩
   cases e;exact S.inj j j' pa' q6 ds ds' b W e2 e3 e4
  len:=by rw[Az];exact S.len
  dx:={
   at':=λj ds q=>by
    rcases set_some q with⟨rfl,z,_⟩|⟨q4,q⟩
    cases z;exact⟨a,xs',ha,bD,q0,q8,r1,λx hx=>dE.imp (λ_ _ z=>kp.seqT hR z) (r x hx)⟩;obtain⟨b,ys,h1,h2,h3,h4,h5,h6⟩:=S.dx.at' j ds q;have I:b≠a:=λz=>by subst z;exact q4 (S.dx.inj i j q5 ds b e q ha h1)
    exact⟨b,ys,h1,kp b _ h2 I,h3,h4,h5,λx hx=>dE.imp (λ_ _ z=>kp.seqT hR z) (h6 x hx)⟩
   inj:=λj j' U w3 b q1 q2=>by
    have get:∀{j:Nat} {U:List (NK×D)},(Z.set i (.dct kvs'))[j]? = some (.dct U)->∃d2,Z[j]? = some (.dct d2):=λ{j U} q=>by grind
    obtain⟨_,z1⟩:=get q1;obtain⟨_,z2⟩:=get q2;exact S.dx.inj j j' _ _ b z1 z2
   at2:=λj q7 q=>by
    rcases set_some q with⟨_,z,_⟩|⟨q4,q⟩
    cases z;obtain⟨a',b,c,xs,ys,h1,ht,I,hc,pb,pc,q9,n1,r1,r2⟩:=S.dx.at2 j q7 q;have pt:∀{q:Ah},Pt RT J Z ZV q->Pt RT J (Z.set i (.dct kvs')) ZV q:=λ⟨z1,z2,z3⟩=>⟨z1,z2,λk pa U w=>by
     rcases set_some w with⟨_,v,_⟩|⟨_,w⟩
     cases v;exact z3 k pa U w⟩
    exact⟨a',b,c,xs,ys,h1,kp.seqT hR ht,kp _ _ I (hl I),kp _ _ hc (hl hc),pt pb,pt pc,q9,n1,Reps.noT (λ_ _ z=>kp.seqT hR z) _ _ n1.1 r1,Reps.noT (λ_ _ z=>kp.seqT hR z) _ _ n1.2 r2⟩
   one:=λj j' ds ds' W e2=>by
    rcases set_some W with⟨_,z,_⟩|⟨_,W⟩
    cases z;rcases set_some e2 with⟨_,z,_⟩|⟨_,e2⟩
    cases z;exact S.dx.one j j' ds ds' W e2 } }
noncomputable def aIt(ks:List (NK×V))(k:NK×V):List (NK×V):=if k.1∈ks.map (·.1) then ks.map (λx=>if x.1=k.1 then (x.1,k.2) else x) else ks++[k]
theorem aFW(xs:List NE)(k:NK)(b:Ah)(v:V):(qV xs k b v).map pj=aIt (xs.map pj) (k,v):=by
 have e:(xs.map pj).map (·.1)=xs.map (·.1):=by rw[Aw];rfl
 unfold qV aIt;rw[e];split;rw[Aw,Aw];refine AX λx _=>?_;grind;simp
theorem aLu(ks:List (NK×D))(k:NK×D):aIt (ks.map kV) (kV k)=(yQ ks k).map kV:=by
 have e:(ks.map kV).map (·.1)=ks.map (·.1):=by rw[Aw];rfl
 unfold aIt yQ;rw[e];split;rw[Aw,Aw];refine AX λx _=>?_;grind;grind
theorem putN_mem{xs:List NE}{k:NK}{b:Ah}{v:V}{x:NE}(h:x∈qV xs k b v):(∃y∈xs,y.1=x.1/\y.2.1=x.2.1)\/x=(k,b,v):=by unfold qV at h;grind
theorem aCe{ex:Ah->Prop}{d:D}{u:V}(h:vZ d=true)(r:Rep K H ex d u):u=dV d:=by cases d <;> first|exact r|cases h
theorem aOo{i:Nat}{c e:E}{x:Str}{p p2:CB}{ix v:As}(M:Mc X P Γ n)(I:bY Γ i x=true)(hk:PE X ix (WE X P n RT Y J Z c))(he:PE X v (WE X P n RT Y J Z e))(W:aX ix=true) :
 PS X (.Assign [.Subscript (.Name x p) ix p2] v pos) (wS X RT Y J Z (ex P (call P n) Z (.dpv i c e))):=by
 refine cU (vK he (aEF (fJ M I) hk (aKu (by have:=M.units;omega)) (by intro _;cases ix <;> first|rfl|cases W)) (by cases v <;> rfl) (by cases v <;> rfl)) λD ZV H t ⟨S,h⟩=>?_;have h:=OE.from (show OE X.K RT Y J H (O.from Z (ev P (call P n) Z e) λw=>O.from Z (ev P (call P n) Z c) λv=>(match Z[i]?,vY v.d with
  | some (.dct ks),some k=>if ks.length<lim/\vZ w.d=true then .next (Z.set i (.dct (yQ ks (k,w.d)))) else .bad|_,_=>.bad)) D from h)
 obtain⟨wv,ew,h⟩:=h.eq;obtain⟨kv,ek,h⟩:=(OE.from h).eq;refine⟨S,?_⟩;rw[ew];intro u H1 t1 r1;have S1:=S.grow r1.1 t1;split at h;rename_i ks k e1 e2;split at h;rename_i hl;obtain⟨ad,xs,g1,g2,g3,g4,g5,g6⟩:=S.dx.at' i ks e1;have hu:=aCe hl.2 (r1.rv S);subst hu;refine⟨.ref ad,g1,S1,?_⟩;rw[ek];intro uk H2 t2 r2;have s2:=r1.1.trans r2.1;obtain⟨b,rfl,hb⟩:=aAN e2 (r2.rv S1);have U:∀x∈xs,dE X.K H2 x.1 x.2.1:=λx I=>dE.imp (λ_ _ r=>aQ.seqT s2 r) (g6 x I);have q0:xs.length=ks.length:=by have:=congrArg Hi g5;rwa [lM,lM] at this
 refine⟨ad,b,xs,k,rfl,rfl,s2 _ _ g2,U,hb,by have:=rW;omega,λt3=>?_⟩;refine(h) RT _ _ (λb' o q nn=>by rw[aO λz=>nn (by rw[z];exact g3)];exact s2 _ _ q) bP ?_;refine(S.grow s2 t2).mutD e1 g1 (s2 _ _ g2) g3 g4 (by rw[aFW,g5];exact aLu ks (k,wv.d)) λx I=>?_;rcases putN_mem I with z|z;grind;rw[z];exact hb;exact h.elim;exact h.elim
noncomputable def aQn(K:Fg)(tk tv:TE):TE:=λZ H Q=>∀p,H p=none->Tk K (upd H p (dR p []))->tk Z (upd H p (dR p [])) λuk H1=>tv Z H1 λuv H2=>∃b k,uk=.ref b/\dE K H2 k b/\H2 p=some (dR p [])/\Q (.ref p) (upd H2 p (dR p [(k,b,uv)]))
theorem aLv{ek ev:As}{tk tv:TE}(hu:X.A.units+100<Cv)(hk:PE X ek tk)(hv:PE X ev tv):PE X (.Dict [some ek] [ev] pos) (aQn X.K tk tv):=λG s Z H Q I h=>by
 refine wpAny_Dict_any rfl rfl (λz=>nomatch z) (by decide:1<=15) (pairTrees_cons_walk ?_);have I1:=I.laid (o:=dR s.heap.objs.size []) (h':=s.heap.push { cls:=.type "dict",data:=.dict #[] }) (t':=s.toks) (λ_ _ q=>Ab _ q) (Ap _)
  ⟨⟨beq_eq_false_iff_ne.mpr (Dc (A8 I.big)),Bw _,_,#[],0,[],Aj _ rfl,⟨rfl,rfl,rfl⟩,rfl,rfl,.nil,List.nodup_nil⟩,⟨_,Aj _ rfl⟩,vW⟩
 refine thn (hk G _ Z _ _ I1 (h _ (I.hok.fresh (Ap _)) I1.tk)) λkv s1 ⟨uk,H1,I2,rk,q1⟩=>thn (hv G s1 Z H1 _ I2 q1) λvv s2 ⟨uv,H2,W,rv,b,k,e1,kb,e,q⟩=>pairTrees_nil_walk ?_;subst e1;cases rk;obtain⟨h1,h2,vs,hp,h3⟩:=vV W e (λx hx=>by cases hx);cases hp;unfold storeAll;rw[Eg];refine Aa (Aa (wpAny_dictSet_heap (show X.A.units+8<Cv by omega) (vT W kb) h3 λh' hm hs=>Af ?_));dsimp only;rw[E7];obtain⟨ob,es,ep,g1,g2,g3,g4,_,g6⟩:=hm;have U:=pA (k:=k) (b:=b) .nil rv;exact Af ⟨.ref s.heap.objs.size,_,W.write (o:=dR _ (qV [] k b uv)) (by rw[e];exact E3) (.inl rfl) (λc q hc z=>(hs.2 c hc).trans z) ⟨ob,g1⟩ ⟨⟨h1,(AL pB (by rw[Cb];exact(by decide:1<=16777216))),ob,es,ep,_,g1,g2,g3,g4,U,(by rw[<-kH U];exact g6)⟩,⟨ob,g1⟩,vW⟩,rfl,q⟩
theorem aOp{i:Nat}{c e:E}{x:Str}{p p2:CB}{xk xv:As}(M:Mc X P Γ n)(U:cD Γ i x=true)(hk:PE X xk (WE X P n RT Y J Z c))(hv:PE X xv (WE X P n RT Y J Z e)) :
 PS X (.Assign [.Name x p] (.Dict [some xk] [xv] p2) pos) (wS X RT Y J Z (ex P (call P n) Z (.dnw i c e))):=by
 unfold cD at U;obtain⟨h1,h2,h3⟩:=gQ U;refine cU (qM M.nd (by rw[M.N];exact eq_of_beq h1) (M.loc h2) (aLv (by have:=M.units;omega) hk hv) rfl (M.st x h2)) λD ZV H t ⟨S,h⟩=>?_;have h:=OE.from (show OE X.K RT Y J H (O.from Z (ev P (call P n) Z c) λv=>O.from Z (ev P (call P n) Z e) λw=>(match vY v.d with
  | some k=>if vZ w.d=true then .next (Z.set i (.dct [(k,w.d)])) else .bad|none=>.bad)) D from h)
 obtain⟨kv,ek,h⟩:=h.eq;obtain⟨wv,ew,h⟩:=(OE.from h).eq;intro q I t0;have W:=S.grow (aQ.new I) t0;split at h;rename_i k e1;split at h;rename_i im;refine⟨W,?_⟩;rw[ek];intro uk H1 t1 r1;refine⟨(W.grow r1.1 t1),?_⟩;rw[ew];intro uv H2 t2 r2;have hu:=aCe im (r2.rv (W.grow r1.1 t1));subst hu;obtain⟨b,rfl,hb⟩:=aAN e1 (r1.rv W);have hb:=dE.imp (λ_ _ r=>aQ.seqT r2.1 r) hb;have s2:=r1.1.trans r2.1;have s3:aQ H (upd H2 q (dR q [(k,b,dV wv.d)])):=λc o e=>by rw[aO (bS e I)];exact s2 _ _ ((aQ.new I) _ _ e)
 refine⟨b,k,rfl,hb,s2 _ _ bD,λt3=>?_⟩;by_cases hl:i<Z.length;have Sa:=(S.putDct (ks0:=[]) I t0 rfl (λx U=>by cases U) i).grow s2 t2;have Sb:=Sa.mutD (kvs':=[(k,wv.d)]) (xs':=[(k,b,dV wv.d)]) (AE hl) (AE (by rw[<-S.len];exact hl)) (s2 _ _ bD) (.inr rfl) (λz=>S.trk q (.inr (.inr z)) I) rfl λx U=>by cases A0.mp U;exact hb
 rw[List.set_set] at Sb;exact h (λb=>RT b\/b=q) _ _ (Kp.same s3) (λc z=>z.imp id λz=>by rw[z];exact I) Sb;rw[EL (by omega)] at h;rw[EL (by rw[<-S.len];omega)];exact h RT _ _ (Kp.same s3) bP (S.grow s3 t3);exact h.elim;exact h.elim
end
section
variable {X:Cx} {P:Pg} {Γ:Ct} {n:Nat} {RT Y J:Ah->Prop} {Z:Sg} {pos:CB} {K:Fg} {H H':Hp} {ZV:L2.St}
theorem rX(h:qW Z=true){j:Nat}{ab:List D×List D}(e:Z[j]? = some (.two ab)):False:=by have:=B7.mp h _ (mG e);cases this
theorem Sx.putTwo(S:Sx K RT Y J Z ZV H)(s:aQ H H')(t:Tk K H'){a b c:Ah}{xs ys:List V}{as bs:List D}(nb:H b=none)(nc:H c=none)(hn:b≠c)(ht:SqT K H' a [.ref b,.ref c])(hb:H' b=some (.lst xs))(hc:H' c=some (.lst ys))(n1:noLs as=true/\noLs bs=true)
 (r1:Reps K H' (λ_=>False) as xs) (r2:Reps K H' (λ_=>False) bs ys) (np:qW Z=true) (i:Nat):Sx K (λq=>RT q\/q=b\/q=c) Y J (Z.set i (.two (as,bs))) (ZV.set i (some (.ref a))) H':=by
 have kb:=t b (by rw[hb];simp);have kc:=t c (by rw[hc];simp);have w:∀{pa:Bool} q,(RT q\/q=b\/q=c)\/exB Y J pa q->q=c\/q=b\/RT q\/exB Y J pa q:=λ{pa} q z=>by grind
 have pt:∀{p:Ah},H p=none->p=b\/p=c->Pt (λq=>RT q\/q=b\/q=c) J (Z.set i (.two (as,bs))) (ZV.set i (some (.ref a))) p:=λ{p} np z=>⟨.inr z,λo=>S.trk p (.inr (.inr o)) np,λk pa dd e v=>by
  rcases set_some e with⟨_,f,_⟩|⟨q2,e⟩
  cases f;rw[Ai q2] at v;obtain⟨b',_,h1,h2,_⟩:=S.own k pa dd e;rw[v] at h1;cases h1;rw[np] at h2;cases h2⟩
 exact {
  sh:=λj pa d e=>by
   rcases set_some e with⟨_,z,_⟩|⟨I,e⟩
   cases z;obtain⟨v,h1,h2⟩:=S.sh j pa d e;exact⟨v,by rw[Ai I];exact h1,(((h2.out nb kb).out nc kc).grow s).weak w⟩
  own:=λj pa dd e=>by
   rcases set_some e with⟨_,z,_⟩|⟨I,e⟩
   cases z;obtain⟨b',zs,h1,h2,h3,h4,h5⟩:=S.own j pa dd e;exact⟨b',zs,by rw[Ai I];exact h1,s _ _ h2,.inl h3,h4,(((h5.out nb kb).out nc kc).grow s).weak w⟩
  trk:=λq z f=>by rcases z with(z|z|z)|z;exact S.trk q (.inl z) (s.free f);rw[z,hb] at f;cases f;rw[z,hc] at f;cases f;exact S.trk q (.inr z) (s.free f)
  yo:=S.yo
  tk:=t
  rt:=λq z=>by rcases z with z|z|z;exact(S.rt q z).grow s;rw[z];exact .inl ⟨xs,hb⟩;rw[z];exact .inl ⟨ys,hc⟩
  inj:=λj j' pa' q1 dd q0 q U W e3 e4=>by
   rcases set_some U with⟨_,e,_⟩|⟨n1,U⟩
   cases e;rcases set_some W with⟨_,e,_⟩|⟨n2,W⟩
   cases e;rw[Ai n1] at e3;rw[Ai n2] at e4;exact S.inj j j' pa' q1 dd q0 q U W e3 e4
  len:=by rw[Az,Az];exact S.len
  dx:={
   at':=λj dd e=>by
    rcases set_some e with⟨_,z,_⟩|⟨I,e⟩
    cases z;obtain⟨q,zs,h1,h2,h3,h4,h5,h6⟩:=S.dx.at' j dd e;exact⟨q,zs,by rw[Ai I];exact h1,s _ _ h2,.inl h3,h4,h5,λx hx=>dE.imp (λ_ _ r=>aQ.seqT s r) (h6 x hx)⟩
   inj:=λj j' dd q0 q U W e3 e4=>by
    rcases set_some U with⟨_,e,_⟩|⟨n1,U⟩
    cases e;rcases set_some W with⟨_,e,_⟩|⟨n2,W⟩
    cases e;rw[Ai n1] at e3;rw[Ai n2] at e4;exact S.dx.inj j j' dd q0 q U W e3 e4
   at2:=λj ab e=>by
    rcases set_some e with⟨rfl,z,hl⟩|⟨I,e⟩
    cases z;exact⟨a,b,c,xs,ys,AE (by rw[<-S.len];exact hl),ht,hb,hc,pt nb (.inl rfl),pt nc (.inr rfl),hn,n1,r1,r2⟩;exact(rX np e).elim
   one:=λj j' ab ab' U W=>by
    rcases set_some U with⟨h1,_,_⟩|⟨_,U⟩
    rcases set_some W with⟨h2,_,_⟩|⟨_,W⟩
    exact h1.symm.trans h2;exact(rX np W).elim;exact(rX np U).elim } }
theorem Sx.mutT(S:Sx K RT Y J Z ZV H){i:Nat}{ab ab':List D×List D}{p:Ah}{q1 xs':List V}(e:Z[i]? = some (.two ab))(hp:H p=some (.lst q1))(pp:Pt RT J Z ZV p)
 (hw:∃a b c xs ys,ZV[i]? = some (some (.ref a))/\SqT K H a [.ref b,.ref c]/\(upd H p (.lst xs')) b=some (.lst xs)/\(upd H p (.lst xs')) c=some (.lst ys)/\Pt RT J Z ZV b/\Pt RT J Z ZV c/\b≠c/\(noLs ab'.1=true/\noLs ab'.2=true)/\Reps K H (λ_=>False) ab'.1 xs/\Reps K H (λ_=>False) ab'.2 ys) :
 Sx K RT Y J (Z.set i (.two ab')) ZV (upd H p (.lst xs')):=by
 have kp:Kp (λb=>b=p) H (upd H p (.lst xs')):=λb o q n=>by rw[aO n];exact q
 have hR:∀b,b=p->RtO H b:=λb z=>.inl ⟨q1,by rw[z];exact hp⟩;have pt:∀{q:Ah},Pt RT J Z ZV q->Pt RT J (Z.set i (.two ab')) ZV q:=λ{q} z=>⟨z.1,z.2.1,λk pa I w=>by
  rcases set_some w with⟨_,v,_⟩|⟨_,w⟩
  cases v;exact z.2.2 k pa I w⟩
 have hd:∀{b:Ah} {ys:List NE},H b=some (dR b ys)->b≠p:=λ{b ys} q z=>by rw[z,hp] at q;cases q
 have par:∀{j:Nat} {I:List D×List D},(Z.set i (.two ab'))[j]? = some (.two I)->j=i:=λ{j I} q=>by
  rcases set_some q with⟨z,_,_⟩|⟨_,q⟩
  exact z.symm;exact S.dx.one j i _ _ q e
 exact {
  sh:=λj pb d q=>by
   rcases set_some q with⟨_,z,_⟩|⟨_,q⟩
   cases z;obtain⟨v,g1,g2⟩:=S.sh j pb d q;exact⟨v,g1,g2.kp kp hR λb z=>.inl (by rw[z];exact pp.1)⟩
  own:=λj pb I q=>by
   rcases set_some q with⟨_,z,_⟩|⟨_,q⟩
   cases z;obtain⟨b,ys,g1,g2,g3,g4,g5⟩:=S.own j pb I q;exact⟨b,ys,g1,kp b _ g2 (λz=>pp.2.2 j pb I q (by rw[<-z];exact g1)),g3,g4,g5.kp kp hR λb z=>.inl (by rw[z];exact pp.1)⟩
  trk:=λb z q=>by by_cases U:b=p;rw[U,bD] at q;cases q;rw[aO U] at q;exact S.trk b z q
  yo:=S.yo
  tk:=λb z=>by by_cases U:b=p;rw[U];exact S.tk p (by rw[hp];simp);rw[aO U] at z;exact S.tk b z
  rt:=λb z=>by by_cases U:b=p;rw[U];exact .inl ⟨xs',bD⟩;unfold RtO;rw[aO U];exact S.rt b z
  inj:=λj j' pa' q0 I W b e1 e2 e3 e4=>by
   rcases set_some e1 with⟨_,e,_⟩|⟨n1,e1⟩
   cases e;rcases set_some e2 with⟨_,e,_⟩|⟨n2,e2⟩
   cases e;exact S.inj j j' pa' q0 I W b e1 e2 e3 e4
  len:=by rw[Az];exact S.len
  dx:={
   at':=λj I q=>by
    rcases set_some q with⟨_,z,_⟩|⟨_,q⟩
    cases z;obtain⟨b,ys,h1,h2,h3,h4,h5,h6⟩:=S.dx.at' j I q;exact⟨b,ys,h1,kp b _ h2 (hd h2),h3,h4,h5,λx hx=>dE.imp (λ_ _ z=>kp.seqT hR z) (h6 x hx)⟩
   inj:=λj j' I W b e1 e2=>by
    rcases set_some e1 with⟨_,e,_⟩|⟨n1,e1⟩
    cases e;rcases set_some e2 with⟨_,e,_⟩|⟨n2,e2⟩
    cases e;exact S.dx.inj j j' I W b e1 e2
   at2:=λj I q=>by
    have hj:=par q;subst hj;rcases set_some q with⟨_,z,_⟩|⟨q2,_⟩
    cases z;obtain⟨a,b,c,xs,ys,g1,ht,U,hc,pb,pc,hn,n1,r1,r2⟩:=hw;exact⟨a,b,c,xs,ys,g1,kp.seqT hR ht,U,hc,pt pb,pt pc,hn,n1,Reps.noT (λ_ _ z=>kp.seqT hR z) _ _ n1.1 r1,Reps.noT (λ_ _ z=>kp.seqT hR z) _ _ n1.2 r2⟩;exact absurd rfl q2
   one:=λj j' I W e1 e2=>(par e1).trans (par e2).symm } }
theorem oH:∀{ds:List D} {d:D},noLs ds=true->noL d=true->noLs (ds++[d])=true
 | [],d,_,h=>by simp[noLs,h]|e::ds,d,h,h2=>by simp only[noLs,bA,EX] at h ⊢;exact⟨h.1,oH h.2 h2⟩
theorem aOq{i f:Nat}{cs:Es}{x y:Str}{p p2 p3:CB}{e:As}{es:List As}(M:Mc X P Γ n)(hx:cD Γ i x=true)(hf:Γ.fns[f]? = some y)(hg:dN Γ y=true)(ho:dO y=true)(ha:PA X (e::es) (WA X P n RT Y J Z cs))(hp:(e::es).all aX=true) :
 PS X (.Assign [.Name x p] (.Call (.Name y p2) (e::es) [] p3) pos) (wS X RT Y J Z (ex P (call P n) Z (.tld i f cs))):=by
 obtain⟨fa,fd,ps,h1,h2,h3,h4⟩:=M.md.fn f y hf;unfold cD at hx;obtain⟨x1,x2,x3⟩:=gQ hx;have I:aX e=true/\es.all aX=true:=by simpa using hp
 refine cU (qM M.nd (by rw[M.N];exact eq_of_beq x1) (M.loc x2) (aBI h4 M.room (M.gl hg) h1 h2 h3 .nil aEY ha (bH ho) (aB I.1) (gJ I.2)) rfl (M.st x x2)) λD ZV H t ⟨S,h⟩=>?_;have h:=OE.from (show OE X.K RT Y J H (O.from Z (evs P (call P n) Z cs) λvs=>O.from Z (call P n f (vs.map (·.d))) λr=>match r with
  | (.tup [.lst as,.lst bs],true,false)=>if qW Z=true then .next (Z.set i (.two (as,bs))) else .bad|_=>.bad) D from h)
 refine⟨S,h.mono λvs hv us H1 t1 s1 W=>?_⟩;refine⟨vs.map (·.d),λb=>H1 b≠none/\exV RT Y J Z ZV (dS vs) (bT vs) b,λa z=>z.1,by rw[AO];exact W.all.weak λa z=>z.2,(OE.from hv).mono λr U u H' t' s' rr _=>?_⟩;split at U;rename_i as bs;split at U;rename_i np;unfold Rr at rr;rw[if_pos rfl] at rr;rcases rr with⟨_,_,_,_,z,_⟩|⟨a,b,c,xs,ys,q0,q1,rfl,z,nb,nc,hn,ht,hb,hc,n1,W,r2⟩
 cases z;cases z;exact(U) (λq=>RT q\/q=b\/q=c) _ _ (Kp.same (s1.trans s')) (λq w=>w.imp id λw=>by rcases w with w|w <;> rw[w] <;> exact s1.free ((λz=>DK.mp z) (by assumption)))
  ((S.grow s1 t1).putTwo s' t' ((λz=>DK.mp z) nb) ((λz=>DK.mp z) nc) hn ht hb hc n1 W r2 np i)
 exact U.elim;exact U.elim
theorem aLw{i k:Nat}{c:E}{x:Str}{p p1 ap cp:CB}{ix a:As}(M:Mc X P Γ n)(hx:bY Γ i x=true)(hk:PE X ix (WE X P n RT Y J Z (.c (.int k))))(q0:aX ix=true)(ha:PE X a (WE X P n RT Y J Z c))(hp:aX a=true)(hl:(ap.endLine==cp.line)=true) :
 PS X (.Expr (.Call (.Attribute (.Subscript (.Name x p) ix p1) "append" ap) [a] [] cp) pos) (wS X RT Y J Z (ex P (call P n) Z (.appP i k c))):=by
 refine cU (mI (yH Cg D2 D3 nU (aBL aEU (fJ M hx) hk (iY q0)) (eX ha hZ (aB hp)) rfl (by rw[aB hp];rfl) hl (aB hp) rfl)) λD ZV H t ⟨S,h⟩=>?_;have h:=OE.from (show OE X.K RT Y J H (O.from Z (ev P (call P n) Z c) λv=>(match Z[i]?,noL v.d with
  | some (.two (as,bs)),true=>if k=0/\as.length<lim then .next (Z.set i (.two (as++[v.d],bs))) else if k=1/\bs.length<lim then .next (Z.set i (.two (as,bs++[v.d]))) else .bad|_,_=>.bad)) D from h)
 obtain⟨v,ee,h⟩:=h.eq;split at h;rename_i as bs e1 e2;obtain⟨qa,b,W,xs,ys,g1,ht,hb,hc,pb,pc,hn,⟨n1,n2⟩,r1,r2⟩:=S.dx.at2 i _ e1;have l1:=r1.length;have l2:=r2.length;have q1:=rW;refine⟨.ref qa,g1,?_⟩;refine wE.one S rfl λw u H1 hw t1 U rr=>?_;subst hw;have hu:=(rr.rv S)
 subst hu;split at h;rename_i I;obtain⟨k0,I⟩:=I;refine⟨qa,[.ref b,.ref W],(k:Int),.ref b,rfl,rfl,aQ.seqT rr.1 ht,by rw[k0];rfl,?_⟩;refine⟨.inl ⟨rfl,xs,SqL.of (rr.1 _ _ hb)⟩,U,?_⟩;rw[ee];intro u H2 t2 rv;have s2:=rr.1.trans rv.1;refine⟨b,xs,u,rfl,rfl,s2 _ _ hb,by simp only at l1;omega,λ_=>?_⟩;exact(h) RT _ _ (λb' o q nn=>by rw[aO λw=>nn (by rw[w];exact pb.1)];exact s2 _ _ q) bP ((U.grow rv.1 t2).mutT e1 (s2 _ _ hb) pb ⟨qa,b,W,_,ys,g1,aQ.seqT s2 ht,bD,by rw[aO (Dc hn)];exact s2 _ _ hc,pb,pc,hn,⟨oH n1 e2,n2⟩,(r1.grow s2).append ⟨u,[],rfl,Rep.free _ _ e2 (rv.rv U),rfl⟩,r2.grow s2⟩);split at h;rename_i I;obtain⟨k0,I⟩:=I;refine⟨qa,[.ref b,.ref W],(k:Int),.ref W,rfl,rfl,aQ.seqT rr.1 ht,by rw[k0];rfl,?_⟩;refine⟨.inl ⟨rfl,ys,SqL.of (rr.1 _ _ hc)⟩,U,?_⟩;rw[ee];intro u H2 t2 rv;have s2:=rr.1.trans rv.1;refine⟨W,ys,u,rfl,rfl,s2 _ _ hc,by simp only at l2;omega,λ_=>?_⟩;exact(h) RT _ _ (λb' o q nn=>by rw[aO λw=>nn (by rw[w];exact pc.1)];exact s2 _ _ q) bP ((U.grow rv.1 t2).mutT e1 (s2 _ _ hc) pc ⟨qa,b,W,xs,_,g1,aQ.seqT s2 ht,by rw[aO hn];exact s2 _ _ hb,bD,pb,pc,hn,⟨n1,oH n2 e2⟩,r1.grow s2,(r2.grow s2).append ⟨u,[],rfl,Rep.free _ _ e2 (rv.rv U),rfl⟩⟩);exact h.elim;exact h.elim
theorem aLx{i j k:Nat}{x y:Str}{p1 p2 p3:CB}(M:Mc X P Γ n)(hx:bY Γ i x=true)(hy:bY Γ j y=true):PS X (.Return (some (.Tuple [.Name x p1,.Name y p2] k p3)) pos) (wS X RT Y J Z (ex P (call P n) Z (.retP i j))):=by
 refine cU (aAw (aEM (eX (fJ M hx) (eX (fJ M hy) hZ (aB rfl)) (aB rfl)))) λD ZV H t ⟨S,h⟩=>?_;have h:OE X.K RT Y J H (match Z[i]?,Z[j]? with
  | some (.own false as),some (.own false bs)=>if i≠j/\noLs as=true/\noLs bs=true then .ret ⟨.tup [.lst as,.lst bs],true,false,[]⟩ else .bad|_,_=>.bad) D:=h
 split at h;rename_i as bs U W;split at h;rename_i hh;obtain⟨I,n1,n2⟩:=hh;obtain⟨b,xs,g1,g2,g3,g4,g5⟩:=S.own i _ _ U;obtain⟨c,ys,k1,k2,k3,k4,k5⟩:=S.own j _ _ W;refine⟨.ref b,g1,.ref c,k1,by rw[Cb];exact(by decide:2<=16777216),λq hq t'=>?_⟩;have s:aQ H (upd H q (.tup [.ref b,.ref c])):=aQ.new hq;refine(h) (.ref q) _ (Kp.same s) t' ?_;unfold Rtv;rw[if_pos rfl];exact .inr ⟨q,b,c,xs,ys,as,bs,rfl,rfl,g4,k4,(λz=>I (S.inj i j _ _ _ _ b U W g1 (by rw[z];exact k1))),SqT.of bD,s _ _ g2,s _ _ k2,⟨n1,n2⟩,Reps.free _ _ n1 (g5.grow s),Reps.free _ _ n2 (k5.grow s)⟩;exact h.elim;exact h.elim
end
end Hp
end
namespace Hp
open PySem PySem.Spec PyProof.Rows L2
section
variable {prog:Ay} {w:AJ} {A:Bf} {E:Ac->Ae->Prop} {s:Ae}
theorem uR{it l:Ah}{items:Array Ac}(W:l≠it):∀(n i:Nat) (s:Ae) (Q:List Ac->Ae->Prop),s.heap.IsListIter it l i->s.heap.IsList l items->i+n<=items.size ->
 (∀h',Heap.IsListIter h' it l (i+n)->C6 it s.heap h'->Q ((items.toList.drop i).take n) { s with heap:=h' })->Av (AC prog w) A (draw (.ref it) n) Q E s
 | 0,i,s,Q,hit,_,_,hQ=>by exact Af (by simpa using hQ s.heap hit (GI ..))|n+1,i,s,Q,hit,hl,hle,hQ=>by
  have U:i<items.size:=by omega
  refine Aa (CK hit hl (x:=items[i]) (by simp[U]) λh1 q q0=>?_);refine Aa (AY (uR W n (i+1) _ _ q (hl.extBut q0.extBut W) (by omega) λh2 I q1=>Af ?_));have hd:items.toList.drop i=items[i]::items.toList.drop (i+1):=by simp[BS,U]
  have:=hQ h2 (by rw[show i+(n+1)=i+1+n by omega];exact I) (q0.trans q1);rw[hd,List.take_succ_cons] at this;exact this
theorem oI{l:Ah}{items:Array Ac}{Q:List Ac->Ae->Prop}(hh:A.handled=none)(I:s.heap.IsList l items)
 (hQ:∀h',DZ s.heap.objs.size s.heap h'->Q items.toList { s with heap:=h' }):Av (AC prog w) A (Jx (.ref l) items.size none) Q E s:=by
 have U:l≠s.heap.objs.size:=by obtain⟨o,ho,_⟩:=I;exact A8 (An ho)
 unfold Jx;refine Aa ?_;unfold notIterableAtAll;refine Aa (CQ I.typeIs slot_list_iter.lookup ?_);refine Af ?_;simp only[ if_false];refine Aa (AY (BO I ?_));refine Aa (AY (uR U items.size 0 _ _ ⟨_,Aj _ rfl,rfl,rfl⟩ (I.push _) (by omega) λh1 q W=>?_));rw[show List.take items.size (List.drop 0 items.toList)=items.toList by rw[FG];exact Bz (by simp)];rw[if_neg (by simp)];refine Aa (AY (DN hh q ((I.push _).extBut W.extBut U) (by simp) λh2 q0=>?_));simp only[ if_false];exact Af (hQ h2 λb o hb e=>q0 b o hb (W.extBut b o hb (Ab _ e)))
end
noncomputable def aQo(K:Aq)(n:Nat)(t:TGs):TG:=λv Z H Q=>∃a xs,v=.ref a/\SqL K H a xs/\xs.length=n/\t xs Z H Q
section
variable {X:Cx} {pos:CB}
theorem aLy{es:List As}{k:Nat}{t:TGs}{n:Nat}(hc:X.calm=true)(h:PGs X es t)
 (hn:(Ch es X.env).length=n) (U:(Ch es X.env).findIdx? (·.1)=none):PG X (.Tuple es k pos) (aQo X.K n t):=by
 intro G s Z H v u Q I r W;obtain⟨a,xs,e1,hq,hl,W⟩:=W;subst e1;cases r;obtain⟨q,rv,pl,hz⟩:=I.list hq;have hx:∀h',DZ s.heap.objs.size s.heap h'->Av (AC X.prog X.w) X.A (Ix ((Ch es X.env).map (·.2)) q) (λ_ s'=>∃Z' H',Inv X G Z' H' s'/\Q Z' H') X.xe { s with heap:=h' }:=λh' hx=>by exact h G _ Z H xs _ Q (I.kept λb o e=>hx b o (A8 (An e)) e) rv W
 rw[assign_Tuple];refine Aa (EF ?_);unfold unpack;rw[hn,U,show n=q.toArray.size by rw[<-hl,rv.length];simp];exact Aa (AY (oI (I.ok.hd hc) pl.isList λh' q0=>by simpa using hx h' q0))
end
section
variable {X:Cx} {P:Pg} {Γ:Ct} {n:Nat} {RT Y J:Ah->Prop} {Z:Sg} {tg:As} {pos:CB}
theorem aLz{c:E}{e:As}{is:List Nat}{es:List As}{k:Nat}{p:CB}(M:Mc X P Γ n)(U:pN Γ (.t is) (.Tuple es k p)=true)(he:PE X e (WE X P n RT Y J Z c))(hs:nX e=false):PS X (.Assign [.Tuple es k p] e pos) (wS X RT Y J Z (ex P (call P n) Z (.setU is c))):=by
 have U:(is.length==es.length&&(is.zip es).all λp=>match p.2 with|.Name x _=>cD Γ p.1 x|_=>false)=true:=U;rw[bA,beq_iff_eq] at U;obtain⟨h1,h2,h3⟩:=rO M U.1 U.2;refine cU (vK he (aLy M.calm h1 h2 h3) (by cases e <;> rfl) (by cases e <;> first|rfl|cases hs)) λD ZV H t ⟨S,h⟩=>?_;have h:=OE.from (show OE X.K RT Y J H (O.from Z (ev P (call P n) Z c) λv=>match v.d with
  | .lst ds=>if ds.length=is.length/\noLs ds=true then .next ((is.zip ds).foldl (λZ p=>Z.set p.1 (v.sub p.2).slot) Z) else .bad|_=>.bad) D from h)
 refine wE.one S h λv u H1 I t1 S1 r1=>?_;split at I;rename_i ds hd;split at I;rename_i W;obtain⟨a,xs,e1,q,_,r⟩:=(r1.rv S).lst hd;exact⟨a,xs,e1,q,by rw[<-r.length];exact W.1,aFF (by rw[<-r.length];exact W.1.symm) ((OE.tkE I) RT _ H1 (Kp.same r1.1) (λb z=>.inl z) (S1.setAll (Reps.free ds xs W.2 r)))⟩;exact I.elim;exact I.elim
end
end Hp
noncomputable section
set_option maxHeartbeats 4000000
namespace Hp
open PySem PySem.Spec PyProof.Rows L2
section
variable {K:Fg}
theorem aFX{ds:List D}{vs:List V}{H:Hp}{Y:Ah->Prop}{m:Nat}(hY:∀a,Y a->H a≠none)(t:Tk K H)(r:Reps K H Y ds vs):Sx K (λ_=>False) Y (λb=>H b≠none) ((ds.map λd=>Sl.sh true d)++Al m Sl.dead) (vs.map some++Al m none) H:=by
 have len:=r.length;have get:∀{i:Nat} {s:Sl},((ds.map λd=>Sl.sh true d)++Al m Sl.dead)[i]? = some s->s=.dead\/∃d,s=.sh true d/\ds[i]? = some d:=λ{i s} e=>by grind
 exact {
  sh:=λi pa d e=>by
   rcases get e with z|⟨d',z,q⟩
   cases z;cases z;obtain⟨v,W,rv⟩:=r.get q;refine⟨v,?_,rv.weak λa z=>?_⟩;rw[Be (by simpa using ((Ao.mp W).1)),A7,W];rfl;rcases z with z|z|⟨z,_⟩
   exact z.elim;exact z;cases z
  own:=λi pa ds' e=>by grind
  trk:=λa z=>by grind
  yo:=hY
  tk:=t
  rt:=λ_ z=>z.elim
  inj:=λi j pa pa' I U a e=>by grind
  len:=by rw[lA,lA,lM,lM,AQ,AQ,len]
  dx:={
   at':=λi ds' e=>by grind
   inj:=λi j I U a e=>by grind
   at2:=λi ds' e=>by grind
   one:=λi j I U e=>by
    grind } }
end
section
variable {X:Cx} {P:Pg} {Γ:Ct} {n:Nat} {RT Y J:Ah->Prop} {Z:Sg} {pos:CB}
theorem aFY(M:Mc X P Γ n){i j k:Nat}{c:E}{e a b:As}{kc:JW}{kk:Nat}{q p2:CB}(hc:nY Γ i "append" e=some [.Subscript a (.Constant kc kk q) p2])(hk:eqC (.int k) kc=true)(hj:nY Γ j "pop" a=some [b])(hb:PE X b (WE X P n RT Y J Z c))(hp:aX b=true)(q0:i≠j):PS X (.Expr e pos) (wS X RT Y J Z (ex P (call P n) Z (.appPop i j c k))):=by
 obtain⟨x,p',ap,cp,rfl,hx,hl⟩:=pX hc;have q5:kc=.int k:=by cases kc <;> simp_all [eqC]
 subst q5;refine cU (mI (yH Cg D2 D3 nU (fJ M hx) (eX (aBL aAC (aLt M hj hb hp) aEz (iY rfl)) hZ (aB rfl)) rfl (by rw[aB rfl];rfl) hl (aB rfl) rfl)) λD ZV H t ⟨S,h⟩=>?_;have h:=OE.from (show OE X.K RT Y J H (O.from Z (yR ((some c).map λe=>ev P (call P n) Z e)) λm=>O.from Z (mM Z j m) λ(v,Z')=>O.from Z' (aBN v k) λw=>put Z' i w λds=>some (ds++[w.d])) D from h)
 obtain⟨m,ek,h⟩:=h.eq;obtain⟨⟨v,Z'⟩,ep,h⟩:=(OE.from h).eq;obtain⟨w3,q8,mj,d,q1,hm,hd,e1,e2⟩:=zO ep;have h:=h;unfold aBN at h;cases hv:v.d with
 | tup W=>
  simp only[hv] at h;cases hk:W[k]? with
  | none=>simp only[hk] at h;exact h.elim|some d0=>
   simp only[hk] at h;have h:OE X.K RT Y J H (put Z' i (v.sub d0) λds=>some (ds++[(v.sub d0).d])) D:=h;obtain⟨pa,ds,ds',I,q2,q3,q4,U⟩:=wN h;cases q3;obtain⟨b',xs,g1,g2,g3,g4,g5⟩:=S.own i pa ds (by rw[e2,Ai (Dc q0)] at I;exact I);refine⟨.ref b',g1,.inl ⟨rfl,xs,SqL.of g2⟩,S,?_⟩;rw[ek];show RE (mM Z j m) _;rw[ep];intro u H1 kp S1 ru;rw[hv] at ru;obtain⟨a',ys,rfl,hT,rr⟩:=ru;obtain⟨y,hy,ry⟩:=rr.get hk;obtain⟨b2,xs',k1,k2,k3,k4,k5⟩:=S1.own i pa ds I;rw[g1] at k1;cases k1;have q7:=k5.length;have q6:v.al=[]:=by rw[e1];unfold Vl.sub;split <;> rfl
   have q9:=(Ao.mp hy).1;refine .inr (.inl ⟨a',ys,k,y,rfl,rfl,hT,?_,b',xs',y,rfl,rfl,k2,?_,λ_=>?_⟩);unfold atI L2.ixN;rw[if_pos (by omega),if_pos (by omega)];simpa using hy;rw[lA,BU] at q4;have:=rW;omega;exact mV S1 (aQ.refl H1) S1.tk I q2 g1 (((mU S1 (aQ.refl H1) I g1 k2).weak λc z=>z.imp id pW).append (.cons (aAX (Rv.sub (ds:=W) (xs:=ys) (j:=k) (ry.weak λc z=>by rw[q6] at z;exact z.imp (·.1) id))) .nil)) (U.mono kp bP)
 | _=>simp only[hv] at h;exact h.elim
end
section
variable {P:Pg} {n:Nat} {Y J:Ah->Prop}
theorem zP{Γ:Ct}{is:List Nat}{tg:As}(h:pN Γ (.t is) tg=true):∃es k p,tg=.Tuple es k p:=by
 cases tg with
 | Tuple es k p=>grind|_=>cases h
theorem aDS{Γ:Ct}{i:Nat}{tg:As}(h:pN Γ (.n i) tg=true):∃x p,tg=.Name x p/\cD Γ i x=true:=by
 cases tg with
 | Name x p=>exact⟨x,p,rfl,h⟩|_=>cases h
theorem aDT{Γ:Ct}{c:E}{e:As}(h:aW Γ c e=true)(q:rA e=true):∃k caps t it cond elt,c=.comp k caps t it cond elt:=by
 cases c with
 | comp k caps t it cond elt=>grind|c d=>rcases(BG _ _).mp (h) with h|h;obtain⟨_,⟨_,_,rfl⟩,_⟩:=aG h;cases q;obtain⟨_,⟨_,rfl⟩,_⟩:=aG h;cases q
 | v i=>obtain⟨_,⟨_,rfl⟩,_⟩:=aG h;cases q|op o a b=>obtain⟨_,⟨_,rfl⟩,_⟩:=aG h;cases q|neg a=>obtain⟨_,⟨_,rfl⟩,_⟩:=aG h;cases q|nt a=>obtain⟨_,⟨_,rfl⟩,_⟩:=aG h;cases q|an a b=>obtain⟨_,rfl,_⟩:=aG h;cases q|orr a b=>obtain⟨_,rfl,_⟩:=aG h;cases q|ife t a b=>obtain⟨_,⟨_,rfl⟩,_⟩:=aG h;cases q|cmp o a b=>obtain⟨_,⟨_,rfl⟩,_⟩:=aG h;cases q|dnin a j=>obtain⟨_,⟨_,rfl⟩,_⟩:=aG h;cases q|row i a=>obtain⟨_,⟨_,rfl⟩,_⟩:=aG h;cases q|hid i a=>have h:=(eJ h).1;cases e <;> first|exact nf h|cases q
 | sset a=>obtain⟨_,⟨_,_,rfl⟩,_⟩:=aG h;cases q|cmp2 I U a b c=>obtain⟨_,⟨_,rfl⟩,_⟩:=aG h;cases q|idx a b=>obtain⟨_,⟨_,rfl⟩,_⟩:=aG h;cases q|sli a lo hi=>obtain⟨_,⟨_,rfl⟩,_⟩:=aG h;cases q|tup es=>obtain⟨_,⟨_,_,rfl⟩,_⟩:=aG h;cases q|lst es=>obtain⟨_,⟨_,rfl⟩,_⟩:=aG h;cases q|call f es=>obtain⟨_,⟨_,_,rfl⟩,_⟩:=aG h;cases q|bi b es=>obtain⟨_,⟨_,_,rfl⟩,_⟩:=aG h;cases q|isi a cs=>obtain⟨_,⟨_,_,rfl⟩,_⟩:=aG h;cases q|numset a=>obtain⟨_,⟨_,_,rfl⟩,_⟩:=aG h;cases q|tget i a=>obtain⟨_,⟨_,_,rfl,_⟩,_⟩:=aG h;cases q
theorem m1{Γ:Ct}{i:Nat}{m:Str}{c:As}{f:As->Bool}(h:(match nY Γ i m c with|some [a]=>f a|_=>false)=true):∃a,nY Γ i m c=some [a]/\f a=true:=by split at h;rename_i a q;exact⟨a,q,h⟩;cases h
abbrev QS(P:Pg)(n:Nat)(Y J:Ah->Prop)(c:S):Prop:=∀{X:Cx} {Γ:Ct},Mc X P Γ n->∀{st:Ck},iD Γ c st=true->∀(RT:Ah->Prop) (Z:Sg),PS X st (wS X RT Y J Z (ex P (call P n) Z c))
abbrev QSs(P:Pg)(n:Nat)(Y J:Ah->Prop)(c:Ss):Prop:=∀{X:Cx} {Γ:Ct},Mc X P Γ n->∀{st:List Ck},chkSs Γ c st=true->∀(RT:Ah->Prop) (Z:Sg),PSs X st (wS X RT Y J Z (exs P (call P n) Z c))
theorem aOr{t:T}{e:E}:QS P n Y J (.set t e):=λ{X Γ} M {st} h RT Z=>by
 unfold iD at h;obtain⟨⟨tg,v⟩,⟨p,rfl⟩,g⟩:=aG h;clear h;obtain⟨h1,h2,h3⟩:=gQ g;clear g;cases t with
 | n i=>
  obtain⟨x,p,U,hx⟩:=aDS h1;subst U;cases hc:rA v with
  | false=>exact aLq M hx (sE e M h2 RT Y J Z) hc|true=>obtain⟨k,caps,t,it,cond,elt,rfl⟩:=aDT h2 hc;obtain⟨el,tg,q0,q1,scope,W,e2,O,g1,g2,g3,g4,g5⟩:=aCa h2;subst e2;refine aDR M hx (O.scope M) O.ndc O.tk (sI it M g3 RT Y J Z) (λC s₀ H₀ ex=>?_) (oD (lX g3));have q:=O.mc M C s₀ H₀ ex;exact⟨aIm q g2,λRT Y J I=>sTs cond q g1 g4 RT Y J I,λRT Y J I=>sE elt q g5 RT Y J I⟩
 | t is=>obtain⟨es,k,p,U⟩:=zP h1;subst U;refine aLr M h1 (sE e M h2 RT Y J Z) ?_;have:(false||!nX v)=true:=h3;grind
theorem aOs{i j:Nat}:QS P n Y J (.mov i j):=λ{X Γ} M {st} h RT Z=>by unfold iD at h;obtain⟨⟨tg,v⟩,⟨p,rfl⟩,g⟩:=aG h;clear h;obtain⟨x,⟨U,q⟩,g⟩:=aG g;obtain⟨y,⟨W,I⟩,g⟩:=aG g;subst q I;obtain⟨h1,h2⟩:=eJ g;exact aOl M h1 h2
theorem aOt{i:Nat}{k e:E}:QS P n Y J (.dpv i k e):=λ{X Γ} M {st} h RT Z=>by
 delta iD at h
 obtain⟨⟨tg,v⟩,⟨p,rfl⟩,g⟩:=aG h;clear h;obtain⟨⟨o,ix⟩,⟨p1,q⟩,g⟩:=aG g;obtain⟨x,⟨p2,I⟩,g⟩:=aG g;subst q I;obtain⟨h1,h2,U,W⟩:=aIr g;exact aOo M h1 (sE k M h2 RT Y J Z) (sE e M U RT Y J Z) (aP h2)
theorem aIu{i:Nat}{k e:E}:QS P n Y J (.setIx i k e):=λ{X Γ} M {st} h RT Z=>by unfold iD at h;obtain⟨⟨tg,v⟩,⟨p,rfl⟩,g⟩:=aG h;clear h;obtain⟨⟨o,ix⟩,⟨W,q⟩,g⟩:=aG g;obtain⟨x,⟨p2,I⟩,g⟩:=aG g;subst q I;obtain⟨h1,h2,U⟩:=gQ g;exact aIs M h1 (sE k M h2 RT Y J Z) (sE e M U RT Y J Z) (aP h2)
theorem aOu{i:Nat}{e:E}:QS P n Y J (.app i e):=λ{X Γ} M {st} h RT Z=>by unfold iD at h;obtain⟨c,⟨p,rfl⟩,g⟩:=aG h;obtain⟨a,h1,h2⟩:=m1 g;exact aOj M h1 (sE e M h2 RT Y J Z) (aP h2)
theorem aOv{i:Nat}{e:E}:QS P n Y J (.ext i e):=λ{X Γ} M {st} h RT Z=>by unfold iD at h;obtain⟨c,⟨p,rfl⟩,g⟩:=aG h;obtain⟨a,h1,h2⟩:=m1 g;exact aOk M h1 (sE e M h2 RT Y J Z) (aP h2)
theorem aOw{e:E}:QS P n Y J (.ret e):=λ{X Γ} M {st} h RT Z=>by unfold iD at h;obtain⟨r,⟨p,rfl⟩,g⟩:=aG h;clear h;obtain⟨v,q,g⟩:=aBX g;subst q;exact aOi (sE e M g RT Y J Z)
theorem aLA{i:Nat}:QS P n Y J (.retv i):=λ{X Γ} M {st} h RT Z=>by unfold iD at h;obtain⟨r,⟨p,rfl⟩,g⟩:=aG h;clear h;obtain⟨v,q,g⟩:=aBX g;subst q;obtain⟨x,⟨U,I⟩,g⟩:=aG g;subst I;exact aLp M g
theorem aOx{c:E}{a b:Ss}(I:QSs P n Y J a)(U:QSs P n Y J b):QS P n Y J (.iff c a b):=λ{X Γ} M {st} h RT Z=>by unfold iD at h;obtain⟨⟨t,x,y⟩,⟨p,rfl⟩,g⟩:=aG h;obtain⟨h1,h2,q⟩:=gQ g;exact aQl (sT c M h1 RT Y J Z) (I M h2) (U M q)
theorem aOy{t:T}{it:Hp.It}{b:Ss}(U:QSs P n Y J b):QS P n Y J (.for t it b):=λ{X Γ} M {st} h RT Z=>by unfold iD at h;obtain⟨⟨tg,q,body⟩,⟨p,rfl⟩,g⟩:=aG h;obtain⟨h1,h2,I⟩:=gQ g;exact aOm M h1 (sI it M h2 RT Y J Z) (U M I) (oD (lX h2))
theorem aOz{c:E}{b:Ss}(q:QSs P n Y J b):QS P n Y J (.whl c b):=λ{X Γ} M {st} h RT Z=>by unfold iD at h;obtain⟨⟨t,body⟩,⟨p,rfl⟩,g⟩:=aG h;obtain⟨h1,h2⟩:=eJ g;exact aOn M (λRT Z=>sT c M h1 RT Y J Z) (q M h2)
theorem aQp{e:E}:QS P n Y J (.ex e):=λ{X Γ} M {st} h RT Z=>by unfold iD at h;obtain⟨v,⟨p,rfl⟩,g⟩:=aG h;obtain⟨h1,h2⟩:=eJ g;exact aQk (sE e M h1 RT Y J Z) (by grind)
theorem aOA{c:Nat}{k:Bool}{es:Es}:QS P n Y J (.rse c k es):=by intro X Γ M st h RT Z;exact aOh
theorem aLB{X:Cx}{Γ:Ct}{RT:Ah->Prop}{Z:Sg}{pos:CB}{b:Ss}{body:List Ck}{U:IH}{hs:List IH}(M:Mc X P Γ n)(W:PSs X body (wS X RT Y J Z (exs P (call P n) Z b))) :
 PS X (.Try body (U::hs) [] [] pos) (wS X RT Y J Z (ex P (call P n) Z (.tryN b))):=by
 intro G s ZV H D I h;refine wpAny_Try_except (CJ (W G s ZV H D I h) (λf s1 q=>?_) λe s1 q=>?_);cases f with
 | next=>exact Eb q|_=>exact q
 rw[M.xe] at q;exact q.elim
theorem aLC{b:Ss}(q:QSs P n Y J b):QS P n Y J (.tryN b):=λ{X Γ} M {st} h RT Z=>by unfold iD at h;obtain⟨r,⟨hd,hs,p,rfl⟩,g⟩:=aG h;exact aLB M (q M g RT Z)
theorem aFZ{i j k:Nat}{c:E}:QS P n Y J (.appPop i j c k):=λ{X Γ} M {st} h RT Z=>by unfold iD at h;obtain⟨s,⟨p,rfl⟩,g⟩:=aG h;obtain⟨a,h1,h2⟩:=m1 g;obtain⟨⟨u1,u2⟩,⟨p2,rfl⟩,g2⟩:=aG h2;obtain⟨h6,I⟩:=eJ g2;obtain⟨kc,⟨kk,q,W⟩,h9⟩:=aG h6;subst W;obtain⟨b,h8,I⟩:=m1 I;obtain⟨I,U⟩:=eJ I;exact aFY M h1 h9 h8 (sE c M I RT Y J Z) (aP I) (by simpa using U)
theorem aOB{i:Nat}{k e:E}:QS P n Y J (.dnw i k e):=λ{X Γ} M {st} h RT Z=>by unfold iD at h;obtain⟨⟨tg,v⟩,⟨p,rfl⟩,g⟩:=aG h;clear h;obtain⟨x,⟨W,q⟩,g⟩:=aG g;subst q;obtain⟨h1,g⟩:=eJ g;obtain⟨⟨a,b⟩,⟨p2,I⟩,g⟩:=aG g;subst I;obtain⟨h2,U⟩:=eJ g;exact aOp M h1 (sE k M h2 RT Y J Z) (sE e M U RT Y J Z)
theorem aLD{is:List Nat}{e:E}:QS P n Y J (.setU is e):=λ{X Γ} M {st} h RT Z=>by unfold iD at h;obtain⟨⟨tg,v⟩,⟨p,rfl⟩,g⟩:=aG h;clear h;obtain⟨h1,h2,I⟩:=gQ g;obtain⟨es,k,p,q⟩:=zP h1;subst q;exact aLz M h1 (sE e M h2 RT Y J Z) (by simpa using I)
theorem aLE{i j:Nat}:QS P n Y J (.retP i j):=λ{X Γ} M {st} h RT Z=>by
 unfold iD at h;obtain⟨r,⟨p,rfl⟩,g⟩:=aG h;clear h;obtain⟨v,W,U⟩:=aBX g;clear g;subst W;obtain⟨l,⟨k,p1,e2⟩,g⟩:=aG U;clear U;subst e2;rcases l with _|⟨x,_|⟨y,_|⟨_,_⟩⟩⟩
 cases g;cases g;obtain⟨q,I⟩:=eJ g;obtain⟨x,⟨p2,rfl⟩,q⟩:=aG q;obtain⟨y,⟨p3,rfl⟩,I⟩:=aG I;exact aLx M q I;cases g
theorem aOC{i f:Nat}{es:Es}:QS P n Y J (.tld i f es):=λ{X Γ} M {st} h RT Z=>by
 unfold iD at h;obtain⟨⟨tg,v⟩,⟨p,rfl⟩,g⟩:=aG h;clear h;obtain⟨x,⟨p1,I⟩,g⟩:=aG g;obtain⟨⟨y,xs⟩,⟨p2,p3,U⟩,g⟩:=aG g;subst I U;obtain⟨g,q⟩:=eJ g;obtain⟨h1,h2,W,h4,h5⟩:=aAW g;cases xs with
 | nil=>cases h5|cons z ys=>exact aOq M h1 (eq_of_beq h2) W h4 ((qA es).a M q RT Y J Z) (gX q)
theorem aLF{i k:Nat}{e:E}:QS P n Y J (.appP i k e):=λ{X Γ} M {st} h RT Z=>by
 unfold iD at h;obtain⟨c,⟨p,rfl⟩,g⟩:=aG h;clear h;obtain⟨⟨o,m,xs,l⟩,⟨ap,cp,U,hl⟩,g⟩:=aG g;obtain⟨⟨b,ix⟩,⟨p1,W⟩,g⟩:=aG g;obtain⟨x,⟨p2,e3⟩,g⟩:=aG g;subst U W e3;obtain⟨h1,h2,I,h4,q⟩:=aAW g;have I:=eq_of_beq I;subst I;rcases xs with _|⟨a,_|⟨_,_⟩⟩
 cases q;exact aLw M h1 (sE (.c (.int k)) M h2 RT Y J Z) (aP h2) (sE e M q RT Y J Z) (aP q) h4;cases q
theorem aOD:QSs P n Y J .nil:=λ{X Γ} M {st} h RT Z=>by
 cases st with
 | nil=>exact aOg|cons _ _=>exact nf h
theorem aLG{c:S}{cs:Ss}(q:QS P n Y J c)(hs:QSs P n Y J cs):QSs P n Y J (.cons c cs):=λ{X Γ} M {st} h RT Z=>by
 cases st with
 | nil=>exact nf h|cons x xs=>obtain⟨h1,h2⟩:=eJ h;exact aLo (q M h1) (hs M h2)
mutual
theorem sS:(c:S)->QS P n Y J c
 | .set _ _=>aOr|.mov _ _=>aOs|.setIx _ _ _=>aIu|.dpv _ _ _=>aOt|.app _ _=>aOu|.ext _ _=>aOv|.ret _=>aOw|.retv _=>aLA|.iff _ a b=>aOx (sSs a) (sSs b)|.for _ _ b=>aOy (sSs b)|.whl _ b=>aOz (sSs b)|.ex _=>aQp|.rse _ _ _=>aOA|.tryN b=>aLC (sSs b)|.appPop _ _ _ _=>aFZ|.dnw _ _ _=>aOB|.setU _ _=>aLD|.retP _ _=>aLE|.tld _ _ _=>aOC|.appP _ _ _=>aLF
theorem sSs:(c:Ss)->QSs P n Y J c
 | .nil=>aOD|.cons c cs=>aLG (sS c) (sSs cs)
end
end
structure Tx where
 x:Str
 qual:Str
 st:Ck
 N:List Str
noncomputable def aCf(Γ:Ct)(F:Fn)(t:Tx):Bool:=
 t.N.length==F.ns&&decide (F.np<=F.ns)&&decide t.N.Nodup&&(cG t.st).kind==.function&&!(cG t.st).isCoroutine&&!(cG t.st).isGenerator &&
 ((t.N.take F.np).all λx=>(cG t.st).names.lookup x==some .local||(cG t.st).names.lookup x==some .cell)&&((cG t.st).names.all λp=>p.2 != .free) &&
 chkSs { Γ with N:=t.N,sc:=(cG t.st).names,fn:=true } F.body (kG t.st)
noncomputable def oJ(Γ:Ct):List Fn->List Tx->Bool
 | [],[]=>true|F::Fs,t::ts=>aCf Γ F t&&oJ Γ Fs ts|_,_=>false
theorem iZ{Γ:Ct}:∀{Fs:List Fn} {ts:List Tx},oJ Γ Fs ts=true->∀{f:Nat} {t:Tx},ts[f]? = some t->∃F,Fs[f]? = some F/\aCf Γ F t=true
 | [],[],_,_,_,e=>by simp at e|[],_::_,h,_,_,_=>by cases h|_::_,[],h,_,_,_=>by cases h|F::Fs,t::ts,h,0,t',e=>by obtain⟨h1,h2⟩:=eJ (h);grind|F::Fs,t::ts,h,f+1,t',e=>by obtain⟨h1,h2⟩:=eJ (h);obtain⟨q,I,U⟩:=iZ h2 (by simpa using e);grind
section
variable {prog:Ay} {w:AJ} {K:Fg} {mg:Str->Option Ac} {base:Heap} {P:Pg} {Γ:Ct} {txs:List Tx}
structure Top (prog:Ay) (w:AJ) (K:Fg) (mg:Str->Option Ac) (P:Pg) (Γ:Ct) (txs:List Tx):Prop where
 fn:∀(f:Nat) (t:Tx),txs[f]? = some t->∃fa fd,mg t.x=some (.ref fa)/\Fun K t.x t.qual t.st fa fd/\∀F,P.fns[f]? = some F->lG K fd (t.N.take F.np) []
 fns:∀(f:Nat) (x:Str),Γ.fns[f]? = some x->∃t,txs[f]? = some t/\t.x=x
 blt:∀x∈bltNames,mg x=none
 cns:∀(x:Str) (d:D),Γ.cns.lookup x=some d->∃u v,mg x=some u/\bZ v u/\∀H ex,Rep K H ex d v
 tab:∀(i:Nat) (x:Str),Γ.tbs[i]? = some x->∃a t,mg x=some (.ref a)/\P.tabs[i]? = some t/\uD prog w K a t
 chk:oJ Γ P.fns txs=true
theorem aCg{k f:Nat}{F:Fn}(q:P.fns[f]? = some F){vs:List V}{H:Hp}{Q:VK}{E:XK}(h:spF K P (k+1) f vs H Q E):vs.length=F.np:=by obtain⟨ds,Y,_,r,U⟩:=h;obtain⟨x,e,_⟩:=U.eq;have e:wB P (call P k) f ds=.ok x:=e;unfold wB at e;rw[q] at e;have e:(if ds.length=F.np then _ else R.bad)=R.ok x:=e;split at e;rename_i I;rw[<-r.length];exact I;cases e
theorem aCh{k f:Nat}{t:Tx}{F:Fn}{fa:Ah}{fd:Df}(q4:∀(f:Nat) (x:Str),Γ.fns[f]? = some x->∃fa fd ps,mg x=some (.ref fa)/\Dg K (.ref fa)=true/\lG K fd ps []/\pL prog w K mg base CX0 k fa fd ps (spF K P k f))
 (W:∀x∈bltNames,mg x=none) (q0:∀(x:Str) (d:D),Γ.cns.lookup x=some d->∃u v,mg x=some u/\bZ v u/\∀H ex,Rep K H ex d v) (q2:∀(i:Nat) (x:Str),Γ.tbs[i]? = some x->∃a t,mg x=some (.ref a)/\P.tabs[i]? = some t/\uD prog w K a t) (h2:Fun K t.x t.qual t.st fa fd) (hF:P.fns[f]? = some F) (hc:aCf Γ F t=true) :
 pL prog w K mg base CX0 (k+1) fa fd (t.N.take F.np) (spF K P (k+1) f):=by
 unfold aCf at hc;simp only[bA,beq_iff_eq,AR,GN,B7,BG,bne_iff_ne,ne_eq] at hc;obtain⟨⟨⟨⟨⟨⟨⟨⟨c1,c2⟩,c3⟩,c4⟩,c5⟩,c6⟩,c7⟩,c8⟩,c9⟩:=hc;have lt:(t.N.take F.np).length=F.np:=by rw[A9];omega
 have sc:pT t.N (t.N.take F.np) (cG t.st):=⟨c4,c5,c6,c3,by rw[lt],c7,c8⟩
 refine h2.ok sc (λvs H Q E h=>by rw[lt];exact aCg hF h) λcdv A outer s H vs Q E hr h=>?_;have U:=aCg hF h;obtain⟨ds,Y,hY,r,hq⟩:=h;have M:Mc (aDj CX0 prog w K mg base t.N t.qual (cG t.st) fa cdv A outer s H E).nox P { Γ with N:=t.N,sc:=(cG t.st).names,fn:=true } k:={
  md:=⟨q4,W,q0,q2⟩
  N:=rfl
  nd:=c3
  sc:=rfl
  calm:=rfl
  room:=hr
  xe:=rfl
  st:=λ_ _=>.inl rfl
  fk:=c4 }
 obtain⟨q3,I,hq⟩:=hq.eq;have I:wB P (call P k) f ds=.ok q3:=I;unfold wB at I;rw[hF] at I;have I:(if ds.length=F.np then (match exs P (call P k) ((ds.map λd=>Sl.sh true d)++Al (F.ns-F.np) Sl.dead) F.body with
  | .ret v=>R.ok (v.d,v.fr,v.pa)|.next _=>R.ok (.non,false,false)|_=>R.bad) else R.bad)=R.ok q3:=I
 rw[if_pos (by rw[r.length];exact U)] at I;refine⟨_,wK (t':=λD ZV H'=>Tk K H'->wS _ (λ_=>False) Y (λb=>H b≠none) ((ds.map λd=>Sl.sh true d)++Al (F.ns-F.np) Sl.dead) (exs P (call P k) ((ds.map λd=>Sl.sh true d)++Al (F.ns-F.np) Sl.dead) F.body) D ZV H') (sSs F.body M c9 (λ_=>False) ((ds.map λd=>Sl.sh true d)++Al (F.ns-F.np) Sl.dead)) (λD ZV H' tk hw=>⟨(hw tk).1,OE.tkE (hw tk).2⟩),λtk=>⟨?_,?_⟩⟩;have e:L2.start t.N vs=vs.map some++Al (F.ns-F.np) none:=by unfold L2.start;rw[U,c1]
 rw[e];exact aFX hY tk r;have same:∀{H':Hp},Kp (λ_=>False) H H'->aQ H H':=λk b o e=>k b o e id;cases q:exs P (call P k) ((ds.map λd=>Sl.sh true d)++Al (F.ns-F.np) Sl.dead) F.body with
 | next Z'=>rw[q] at I;cases(I);exact λq6 q7 H' kp sub S'=>hq .non H' S'.tk (same kp) (aKr rfl)|ret v=>
  rw[q] at I;cases(I);refine λu H' kp q5 rt=>hq u H' q5 (same kp) ?_;unfold Rr;unfold Rtv at rt;cases q1:v.fr with
  | true=>rw[q1,if_pos rfl] at rt;rcases rt with⟨a,xs,ds',e1,e2,e3,e4,rr⟩|rt;exact aKs (.inl ⟨a,xs,ds',e1,e2,DK.mp e3,e4,rr⟩);exact aKs (.inr rt)
  | false=>rw[q1,if_neg bN] at rt;exact aKr rt
 | bad=>rw[q] at I;cases I
theorem aGa(T:Top prog w K mg P Γ txs):∀(k f:Nat) (x:Str),Γ.fns[f]? = some x->∃fa fd ps,mg x=some (.ref fa)/\Dg K (.ref fa)=true/\lG K fd ps []/\pL prog w K mg base CX0 k fa fd ps (spF K P k f)
 | 0,f,x,q=>by
  obtain⟨t,I,rfl⟩:=T.fns f x q;obtain⟨fa,fd,h1,h2,W⟩:=T.fn f t I;obtain⟨F,U,_⟩:=iZ T.chk I;have no:∀vs H Q E,¬ spF K P 0 f vs H Q E:=λvs H Q E h=>by obtain⟨ds,Y,_,r,hr⟩:=h;exact hr
  exact⟨fa,fd,_,h1,h2.kp,W F U,λvs H Q E h=>absurd h (no vs H Q E),λA outer s H args us vs Q E _ _ _ _ h=>absurd h (no vs H Q E)⟩
 | k+1,f,x,q=>by obtain⟨t,I,rfl⟩:=T.fns f x q;obtain⟨fa,fd,h1,h2,W⟩:=T.fn f t I;obtain⟨F,U,hc⟩:=iZ T.chk I;exact⟨fa,fd,_,h1,h2.kp,W F U,aCh (λf x q=>aGa T k f x q) T.blt T.cns T.tab h2 U hc⟩
theorem aLH(T:Top prog w K mg P Γ txs){f:Nat}{t:Tx}{F:Fn}{fa:Ah}{fd:Df}(W:txs[f]? = some t)(I:P.fns[f]? = some F)(h2:Fun K t.x t.qual t.st fa fd)(k:Nat):pL prog w K mg base CX0 (k+1) fa fd (t.N.take F.np) (spF K P (k+1) f):=by obtain⟨F',q,U⟩:=iZ T.chk W;rw[I] at q;cases q;exact aCh (aGa T k) T.blt T.cns T.tab h2 I U
theorem aLI{k f:Nat}{K:Fg}{H:Hp}{a:Ah}{ns:List Int}(W:aHQ H)(q:SqL K H a (ns.map V.int))(h:∃fr pa,call P k f [.lst (ns.map D.int)]=.ok (.bl true,fr,pa)) :
 spF K P k f [.ref a] H (λv _=>v=.bl true) λ_ _ _=>False:=by
 obtain⟨fr,pa,e⟩:=h;have U:∀(ns:List Int),Reps K H (λ_=>False) (ns.map D.int) (ns.map V.int):=by
  intro ns
  induction ns with
  | nil=>exact .nil|cons i ns I=>exact .cons rfl I
 refine⟨[.lst (ns.map D.int)],λ_=>False,λ_ z=>z.elim,.cons ⟨a,_,rfl,q,id,U ns⟩ .nil,?_⟩;rw[e];intro u H' _ _ rr;unfold Rr at rr;cases fr with
 | true=>rw[if_pos rfl] at rr;rcases rr with⟨_,_,_,_,z,_⟩|⟨_,_,_,_,_,_,_,_,z,_⟩ <;> cases z
 | false=>rw[if_neg bN] at rr;exact rr
end
end Hp
end
namespace Hp
open PySem PySem.Spec PyProof.Rows L2
noncomputable def ER(w:AJ)(K:Fg)(e:DR)(p:Str×D):Prop:=e.hash=JI w p.1/\(∃tk,e.key=.str p.1 tk)/\∃v,bZ v e.val/\∀(H:Hp) (ex:Ah->Prop),Rep K H ex p.2 v
theorem uS{K:Fg}{H:Hp}{ex:Ah->Prop}:∀xs:List Str,Reps K H ex (xs.map D.str) (xs.map V.str)
 | []=>rfl|x::xs=>⟨.str x,xs.map V.str,rfl,rfl,uS xs⟩
theorem aGb{K:Fg}{b:Ah}{od:Option Ah}{q:Array Ac}{n:Nat}{sl:Array (Option Ac)}(h:K.lookup b=some ⟨.type "tuple",od,.seq q n,sl⟩)(xs:List Str)(U:q.size<=1000)(I:bC (xs.map V.str) q.toList) :
 ∀(H:Hp) (ex:Ah->Prop),Rep K H ex (.tup (xs.map D.str)) (.ref b):=λH ex=>
 ⟨b,xs.map V.str,rfl,.inr ⟨_,q,n,h,rfl,rfl,AL U (by rw[Cb];decide),I⟩,uS xs⟩
theorem aGc{prog:Ay}{w:AJ}{K:Fg}:∀{es:List DR} {t:List (Str×D)},Cp (ER w K) es t->∃vs:List (Key×Ac),(∀e∈es,∃k:Key,(cF prog w).is k e.key=true/\e.hash=(cF prog w).hash k) /\
 Pairs (cF prog w) es vs/\vs.map (·.1)=t.map (λp=>(Co p.1:Key)) /\
 ∀k:Str,(t.lookup k=none/\Fm vs (Co k:Key)=none)\/∃d u v,t.lookup k=some d/\Fm vs (Co k:Key)=some u/\bZ v u/\∀(H:Hp) (ex:Ah->Prop),Rep K H ex d v
 | _,_,.nil=>⟨[],λe q=>absurd q (by simp),.nil,rfl,λk=>.inl ⟨rfl,rfl⟩⟩
 | e::es,p::t,.cons ⟨h1,⟨tk,h2⟩,v,h3,h4⟩ r=>by
  obtain⟨vs,W,g2,g3,g4⟩:=aGc r;refine⟨(Co p.1,e.val)::vs,λU q=>?_,.cons (by rw[h2];exact kE p.1 tk) rfl g2,by rw[mC,mC,g3],λk=>?_⟩;rcases AA.mp q with rfl|q;exact⟨Co p.1,(by rw[h2];exact kE p.1 tk),h1⟩;exact W U q;by_cases I:k=p.1;subst I;refine .inr ⟨p.2,e.val,v,?_,?_,h3,h4⟩;grind;simp[Fm];have n1:(p::t).lookup k=t.lookup k:=by grind
  have n2:Fm ((Co p.1,e.val)::vs) (Co k:Key)=Fm vs (Co k:Key):=by unfold Fm;have:decide ((Co p.1:Key)=Co k)=false:=A5 λz=>I (Sum.inr.inj z).symm;rw[Ho];simp only[this]
  rw[n1,n2];exact g4 k
theorem aLJ{prog:Ay}{w:AJ}{K:Fg}{a:Ah}{es:Array DR}{ep:Nat}{t:List (Str×D)}(hs:(a==E1)=false)(h:K.lookup a=some ⟨.type "dict",none,.dict es ep,#[]⟩)(hp:Cp (ER w K) es.toList t)(hn:(t.map (·.1)).Nodup):uD prog w K a t:=by obtain⟨vs,q,I,U,W⟩:=aGc hp;refine⟨hs,vs,λhh X=>⟨_,es,ep,X a _ h,⟨rfl,rfl,rfl⟩,rfl,λe he=>q e (by grind),I,?_⟩,W⟩;rw[U];grind
end Hp
namespace Hh
open PySem PySem.W PySem.Calls PyProof.Rows
noncomputable def go(st:FT->Ik->Option (FT×Ik))(ok:Ik->Bool)(n:Nat):FT->Ik->Option FT:=
 @Nat.rec (λ_=>FT->Ik->Option FT) (λ_ _=>none) (λ_ ih s t=>match JN t with
  | true=>some s|false=>match ok t with
   | false=>none|true=>match st s t with
    | some (s',t')=>ih s' t'|none=>none) n
theorem oY{W:String->Option Cz}{p:Ay}{w:AJ}{q:Nat}{I:Option Ac}:∀(n:Nat) (s U:FT) (t:Ik),go (JO (Jg W) p w) (Jh q I) n s t=some U->topRun W p w q I n s.abs t=some U.abs
 | 0,_,_,_,h=>by cases h|n+1,s,U,t,h=>by
  have h:(match JN t with
   | true=>some s|false=>match Jh q I t with
    | false=>none|true=>match JO (Jg W) p w s t with
     | some (U,t')=>go (JO (Jg W) p w) (Jh q I) n U t'|none=>none)=some U:=h
  unfold topRun;cases ht:JN t with
  | true=>rw[ht] at h;cases h;rfl|false=>
   rw[ht] at h;cases hk:Jh q I t with
   | false=>rw[hk] at h;cases h|true=>
    rw[hk] at h;cases hs:JO (Jg W) p w s t with
    | none=>rw[hs] at h;cases h|some r=>obtain⟨q0,q1⟩:=r;rw[hs] at h;rw[stepT_spec hs];exact oY n _ _ _ h
noncomputable def bt(l:List Obj)(n:Nat):Nat->Nat->BT:=
 @Nat.rec (λ_=>Nat->Nat->BT) (λ_ _=>.nil) (λ_ ih a b=>match l[b]? with
  | some o=>.node o (ih (2*a) (a+b)) (ih (2*a) (2*a+b))|none=>.nil) n
noncomputable def aGd{α:Type}(p q:Ay)(loose:List Str)(Xt:Ae->Bool)(Yf:Ae->α)(h0:Heap)(s:Ae):=
 ((IT (F0 p.main.body) h0 s.heap&&Il p s.heap&&Jy s&&Jz h0 s.heap),openSeen q loose (F0 p.main.body) Xt true s,Yf s)
theorem aIv{p q:Ay}{U:List Str}{Xt:Ae->Bool}{α:Type}{Yf:Ae->α}{Ya:AJ->α}{N I:Nat}{q1:Option Ac}{W:HV->BT}{q0:Life}(e:opening p=plainProg p.main.scope.names)(hN:Nat.ble 600 N=true)(f:∀s,II p s=some s)
 (hb:∀P,absHeap (W P) I q0=BX P) (hz:∀P:HV,((BX P).isNs B2,(BX P).objs.size,(BX P).nsMap B2 "__annotations__")=(true,I,q1))
 (h:∀(w:AJ) (os:HD),(go (JO (Jg Hb) p w) (Jh I q1) N ⟨W w.params,I,q0,Im [],Gv,Hd,os⟩ (JP p)).map (λs=>aGd p q U Xt Yf (BX w.params) s.abs)=some (true,J0 q U,Ya w)):JZ p q U Xt Yf Ya N:=λw=>by
 obtain⟨⟨hh,gs,d,k,os⟩,e1,e2⟩:=Bx.mp (boot_open e hN f w);simp only[Cr] at e2;obtain⟨rfl,rfl,rfl,rfl⟩:=e2;obtain⟨s,g1,g2⟩:=Bx.mp (h w os);have r:=oY N _ _ _ g1;have r:topRun Hb p w I q1 N ⟨BX w.params,Im [],Gv,Hd,os⟩ (JP p)=some s.abs:=by rw[<-hb];exact r
 have z:=hz w.params;simp only[Cr] at z;obtain⟨z1,z2,z3⟩:=z;unfold aGd at g2;simp only[Cr] at g2;obtain⟨l1,l2,l3⟩:=g2;have t:JQ Hb p w N ⟨BX w.params,Im [],Gv,Hd,os⟩=some s.abs:=by unfold JQ;dsimp only;rw[z1,z2,z3,r];show(match IT (F0 p.main.body) (BX w.params) s.abs.heap&&Il p s.abs.heap&&Jy s.abs&&Jz (BX w.params) s.abs.heap with|true=>_|false=>_)=_;rw[l1]
 unfold openEnds;rw[e1];show(JQ Hb p w N _).map _=_;rw[t];exact congrArg some (JV l2 l3)
noncomputable def T0(P:HV):BT:=bt (BX P).objs.toList 5 1 0
theorem aLK:∀P,absHeap (T0 P) 11 {}=BX P:=λP=>by kernel_rfl
theorem aIw:∀P:HV,((BX P).isNs B2,(BX P).objs.size,(BX P).nsMap B2 "__annotations__")=(true,11,some (.ref 6)):=λP=>by kernel_rfl
abbrev aOE:=@PySem.W.Fast.tw10156331382660048174
abbrev qOk:=@PySem.W.Fast.tw6613529449190102663
abbrev aQq:=@PySem.W.Fast.tw11892475500146522536
abbrev aQr:=@PySem.W.Fast.tw14364793385576792824
abbrev aOF:=@PySem.W.Fast.tw4187177175401517315
abbrev aOG:=@PySem.W.Fast.tw5923862056798008813
noncomputable def aOH{α:Type}(p q:Ay)(loose:List Str)(Yf:Ae->α)(N:Nat)(w:AJ)(os:HD):=
 (go (aOE (aQq aQr) p w) (qOk 11 (some (.ref 6))) N ⟨T0 w.params,11,{},Im [],Gv,Hd,os⟩ (JP p)).map λs=>((IT (aOG p.main.body) (BX w.params) s.abs.heap&&Il p s.abs.heap&&Jy s.abs&&Jz (BX w.params) s.abs.heap),aOF q loose (aOG p.main.body) (λ_=>true) true s.abs,Yf s.abs)
theorem aLL{p q:Ay}{I:List Str}{α:Type}{W:Ae->α}{U:AJ->α}{N:Nat}(e:opening p=plainProg p.main.scope.names)(hN:Nat.ble 600 N=true)(f:∀s,II p s=some s)
 (h:∀w os,aOH p q I W N w os=some (true,J0 q I,U w)):JZ p q I (λ_=>true) W U N:=by refine aIv e hN f aLK aIw λw os=>?_;unfold aGd;rw[Gc,Gw,Gd,Ge,Gx,Gy];exact h w os
end Hh
namespace Hh
open PySem PySem.W PySem.Calls PyProof.Rows L2 Hp
noncomputable def lY(h:Heap):Aq:=(Ar h.objs.size).filterMap λa=>(h.get? a).map λo=>(a,o)
theorem rY{α:Type}(f:Nat->Option α)(a:Nat):∀n,((Ar n).filterMap λi=>(f i).map λo=>(i,o)).lookup a=if a<n then f a else none
 | 0=>rfl|n+1=>by
  rw[Hv,Db,List.lookup_append,rY f a n];by_cases h:a<n;rw[if_pos h,if_pos (Cf h)];cases q:f a with
  | some o=>rfl|none=>
   cases I:f n with
   | none=>simp[I]|some o=>simp[I,Hl,(beq_eq_false_iff_ne.mpr (A8 h))]
  rw[if_neg h];by_cases e:a=n;subst e;rw[if_pos (CH _)];cases q:f a with
  | none=>simp[q]|some o=>simp[q]
  rw[if_neg (by omega)];cases I:f n with
  | none=>simp[I]|some o=>simp[I,Hl,(beq_eq_false_iff_ne.mpr e)]
theorem dY(h:Heap)(a:Ah):(lY h).lookup a=h.get? a:=by
 unfold lY;rw[rY];by_cases q:a<h.objs.size;rw[if_pos q];rw[if_neg q];cases e:h.get? a with
 | none=>rfl|some o=>exact absurd (An e) q
theorem aCi{h h':Heap}(k:∀b o,h.get? b=some o->h'.get? b=some o):(lY h).In h':=λa o e=>k a o (by rw[<-dY];exact e)
noncomputable def oK(h:Heap)(x:Str):Option (Option Ac):=match h.get? B2 with
 | some ⟨_,_,.dict es _,_⟩=>(match es.toList.find? (λe=>match e.key with|.str y _=>GO y x|_=>false) with
  | some e=>some (some e.val)|none=>if es.toList.any (·.refKey) then none else some none)
 | _=>none
theorem aGe(v:Ac)(x:Str):v.isStr x=(match v with|.str y _=>GO y x|_=>false):=by
 cases v with
 | str y t=>show(y==x)=GO y x;rw[C5,beq_iff_eq,Ji]|_=>rfl
theorem jA(h:Heap)(x:Str):nsIn (lY h) B2 x=oK h x:=by unfold nsIn oK;rw[dY];simp only[aGe];rfl
noncomputable def rZ(h:Heap)(cd:Ac):Option Str:=match cd with
 | .ref c=>(match h.get? c with
  | some ⟨_,_,.fields vs,_⟩=>(match vs.toList with|_::.str n _::_=>some n|_=>none)
  | _=>none)
 | _=>none
theorem aDU{h:Heap}{I:Ac}{q:Str}(e:rZ h I=some q):codeIn (lY h) I q=true:=by unfold rZ at e;unfold codeIn;split at e;rename_i c;simp only[dY];split at e;rename_i vs _ U;rw[U];split at e;rename_i a n t r W;cases e;simp only[W,beq_self_eq_true];cases e;cases e;cases e
abbrev Pin:=Str×Str×FP×FuncBody×De×Ah×List (Str×Ah)×Ac×Ah×Option Str
noncomputable def aAY(h:Heap)(x:Str):Option Pin:=match oK h x with
 | some (some (.ref a))=>(match h.get? a with
  | some ⟨_,_,.func fd,_⟩=>some (fd.name,fd.qualname,fd.params,fd.body,fd.scope,fd.globals,fd.closure,fd.defaults,fd.builtins,rZ h fd.code)|_=>none)
 | _=>none
noncomputable def dT(s:Ck):Str:=match s with|.FunctionDef x _ _ _ _ _ _ _ _ _=>x|_=>⟨#[]⟩
noncomputable def aGf(st:Ck):Pin:=(dT st,dT st,kF st,.stmts (kG st),cG st,B2,[],.none,Gg,some (dT st))
theorem aIx{h:Heap}{st:Ck}(e:aAY h (dT st)=some (aGf st)):∃fa fd,nsIn (lY h) B2 (dT st)=some (some (.ref fa))/\Fun (lY h) (dT st) (dT st) st fa fd:=by unfold aAY at e;split at e;rename_i a hn;split at e;rename_i c d fd sl q;obtain⟨n,qn,ps,b,sc,g,W,df,kd,doc,pm,an,I,ct,bn⟩:=fd;unfold aGf at e;simp only[C7,Cr] at e;obtain⟨rfl,rfl,rfl,rfl,rfl,rfl,rfl,rfl,rfl,U⟩:=e;refine⟨a,_,by rw[jA];exact hn,⟨⟨c,d,kd,doc,pm,an,I,ct,sl,rfl,by rw[dY];exact q,aDU U⟩,?_⟩⟩;unfold keepIn;simp only[dY,q];cases e;cases e
theorem sA{α:Type}{x:Str}{u:α}:∀{ps:List Str} {us:List α},ps.Nodup->ps.length=us.length->(x,u)∈ps.zip us->(ps.zip us).lookup x=some u
 | [],_,_,_,h=>by simp at h|p::ps,[],_,h,_=>by simp at h|p::ps,v::us,hn,hl,h=>by rw[AV] at h ⊢;obtain⟨h1,h2⟩:=C4.mp hn;rcases AA.mp h with h|h;grind;have q:=(Ed h).1;have:(x==p)=false:=beq_eq_false_iff_ne.mpr λz=>h1 (z▸q);simp only[Hl,this];exact sA h2 (by simpa using hl) h
theorem aGg{α:Type}(L:List (Str×α)):∀{ps:List Str} {us:List α},ps.length=us.length->(∀p∈ps.zip us,L.lookup p.1=some p.2)->(ps.filterMap λn=>(L.lookup n).map (n,·))=ps.zip us
 | [],_,_,_=>by simp|p::ps,[],h,_=>by simp at h|p::ps,v::us,hl,h=>by rw[AV,Dt,h (p,v) (by simp),aGg L (by simpa using hl) λq I=>h q (by rw[AV];grind)];rfl
theorem aGh{α:Type}(L:List (Str×α)):∀{ps:List Str} {us:List α},ps.length=us.length->(∀p∈ps.zip us,L.lookup p.1=some p.2)->(ps.filter λn=>(L.lookup n).isNone)=[]
 | [],_,_,_=>by simp|p::ps,[],h,_=>by simp at h|p::ps,v::us,hl,h=>by rw[List.filter_cons,h (p,v) (by simp),aGh L (by simpa using hl) λq I=>h q (by rw[AV];grind)];rfl
noncomputable def kP(a:FP)(ps:List Str):Bool:=match a with|⟨[],as,none,[],[],none,[]⟩=>decide (as.map (·.arg)=ps)&&decide ps.Nodup|_=>false
theorem sB{x q:Str}{a:FP}{b:List Ck}{sc:De}{kV doc pm:Ac}{an:Option Ah}{cdv ct:Ac}{ps:List Str}{us:List Ac}(h:kP a ps=true)(I:us.length=ps.length) :
 HJ (fnOf x q a b sc .none kV doc pm an cdv ct) ⟨us,[]⟩=pure (ps.zip us):=by
 unfold kP at h;split at h;rename_i as;obtain⟨h1,h2⟩:=Bool.and_eq_true_iff.mp h;have h2:=of_decide_eq_true h2;unfold HJ;have W:∀s:Ac,s=.none->(IR s)=pure none:=λs e=>by subst e;rfl
 simp only[mN,Ee,(of_decide_eq_true h1),W,E7,pure_bind,I,B1,decide_false,HG,Option.getD_none,lN,List.drop_nil,Fo,BJ,(aGh (ps.zip us) I.symm (λp U=>sA h2 I.symm U)),DU,BK,Gj,AO,(aGg (ps.zip us) I.symm (λp U=>sA h2 I.symm U)),if_false,bF];cases h
noncomputable def zQ(s:Ck):Bool:=match s with|.FunctionDef _ _ _ _ _ _ _ _ _ _=>true|_=>false
noncomputable def aGi:D->Ac->Bool
 | .int i,.int j _=>decide (i=j)|.str a,.str b _=>GO a b|.non,.none=>true|.bl a,.bool b=>a==b|_,_=>false
noncomputable def aAZ(h:Heap)(c:Str×D):Bool:=match oK h c.1 with|some (some u)=>aGi c.2 u|_=>false
noncomputable def mW:Ac->Option Str
 | .str x _=>some x|_=>none
abbrev aGj:=Int×Option Str×Option (Ac×List (Option Str))
noncomputable def pY(h:Heap)(e:DR):aGj:=(e.hash,mW e.key,match e.val with
 | .ref b=>(match h.get? b with
  | some ⟨c,_,.seq its _,_⟩=>some (c,its.toList.map mW)|_=>none)
 | _=>none)
noncomputable def wP(h:Heap)(x:Str):Option (Bool×Ac×Option Ah×Array (Option Ac)×List aGj):=match oK h x with
 | some (some (.ref a))=>(match h.get? a with
  | some ⟨c,d,.dict es _,sl⟩=>some (a==E1,c,d,sl,es.toList.map (pY h))|_=>none)
 | _=>none
noncomputable def wQ(w:AJ)(p:Str×List Str):aGj:=(JI w p.1,some p.1,some (.type "tuple",p.2.map some))
noncomputable def aBa(w:AJ)(t:List (Str×List Str)):Option (Bool×Ac×Option Ah×Array (Option Ac)×List aGj):=some (false,.type "dict",none,#[],t.map (wQ w))
noncomputable def aDV(t:List (Str×List Str)):List (Str×D):=t.map λp=>(p.1,.tup (p.2.map D.str))
theorem aCj:∀{us:List Ac} {xs:List Str},us.map mW=xs.map some->bC (xs.map V.str) us
 | [],[],_=>.nil|[],_::_,h=>by cases h|_::_,[],h=>by cases h|u::us,x::xs,h=>by rw[mC,mC] at h;obtain⟨h1,h2⟩:=IJ h;refine .cons ?_ (aCj h2);unfold mW at h1;split at h1;cases h1;exact⟨_,rfl⟩;cases h1
theorem aLM{h:Heap}{w:AJ}{e:DR}{p:Str×List Str}(q:pY h e=wQ w p)(hl:p.2.length<=1000):ER w (lY h) e (p.1,.tup (p.2.map D.str)):=by unfold pY wQ at q;simp only[Cr] at q;obtain⟨q1,q2,I⟩:=q;refine⟨q1,?_,?_⟩;unfold mW at q2;grind;split at I;rename_i b he;split at I;rename_i c d q0 n sl ho;have I:=AF I;simp only[Cr] at I;obtain⟨e1,U⟩:=I;subst e1;have W:=congrArg Hi U;rw[lM,lM] at W;exact⟨.ref b,by rw[he];rfl,aGb (by rw[dY];exact ho) p.2 (by rw[<-B3,W];exact hl) (aCj U)⟩;cases I;cases I
theorem uT{h:Heap}{w:AJ}:∀{es:List DR} {t:List (Str×List Str)},es.map (pY h)=t.map (wQ w)->(∀p∈t,p.2.length<=1000)->Cp (ER w (lY h)) es (aDV t)
 | [],[],_,_=>.nil|[],_::_,q,_=>by cases q|_::_,[],q,_=>by cases q|e::es,p::t,q,hl=>by rw[mC,mC] at q;obtain⟨h1,h2⟩:=IJ q;exact .cons (aLM h1 (hl p (A3 ..))) (uT h2 λU I=>hl U (Au _ I))
noncomputable def aCk(t:List (Str×List Str)):Bool:=(t.all λp=>decide (p.2.length<=1000))&&decide (t.map (·.1)).Nodup
theorem aGk{prog:Ay}{h:Heap}{w:AJ}{x:Str}{t:List (Str×List Str)}(e:wP h x=aBa w t)(ok:aCk t=true):∃a,nsIn (lY h) B2 x=some (some (.ref a))/\uD prog w (lY h) a (aDV t):=by unfold aCk at ok;rw[bA,B7] at ok;unfold wP aBa at e;split at e;rename_i a U;split at e;rename_i c d es ep sl W;have e:=AF e;simp only[Cr] at e;obtain⟨q,rfl,rfl,rfl,I⟩:=e;refine⟨a,(jA h x).trans U,aLJ q (by rw[dY];exact W) (uT I λp hp=>of_decide_eq_true (ok.1 p hp)) ?_⟩;unfold aDV;rw[Aw];exact of_decide_eq_true ok.2;cases e;cases e
structure Sn where
 cns:List (Str×D)
 tbs:List (Str×List (Str×List Str))
abbrev aJy:=List (Option Pin)×List (Option (Option Ac))×Bool×List (Option (Bool×Ac×Option Ah×Array (Option Ac)×List aGj))
noncomputable def kQ(p:Ay)(n:Sn)(h:Heap):aJy:=
 ((p.main.body.filter zQ).map (λst=>aAY h (dT st)),bltNames.map (oK h),n.cns.all (aAZ h),n.tbs.map (λq=>wP h q.1))
noncomputable def oM(p:Ay)(n:Sn)(w:AJ):aJy:=
 ((p.main.body.filter zQ).map (λst=>some (aGf st)),bltNames.map (λ_=>some none),true,n.tbs.map (λq=>aBa w q.2))
noncomputable def zR(p:Ay)(i:Nat):Ck:=p.main.body.getD i (.Pass ⟨0,0,0,0⟩)
noncomputable def pQ(p:Ay)(c:Nat×List Str):Tx:=⟨dT (zR p c.1),dT (zR p c.1),zR p c.1,c.2⟩
theorem aLN{p:Ay}{i:Nat}(h:zQ (zR p i)=true):zR p i∈p.main.body:=by
 unfold zR at h ⊢;rw[Ag] at h ⊢;cases e:p.main.body[i]? with
 | none=>rw[e] at h;cases h|some s=>exact mG e
theorem aIy{h:Heap}{c:Str×D}(e:aAZ h c=true):∃u v,nsIn (lY h) B2 c.1=some (some u)/\bZ v u/\∀H ex,Rep (lY h) H ex c.2 v:=by unfold aAZ at e;split at e;rename_i u q;obtain⟨x,d⟩:=c;have e:aGi d u=true:=e;unfold aGi at e;split at e;cases of_decide_eq_true e;exact⟨_,.int _,(jA _ _).trans q,⟨_,rfl⟩,λ_ _=>rfl⟩;cases Ji.mp e;exact⟨_,.str _,(jA _ _).trans q,⟨_,rfl⟩,λ_ _=>rfl⟩;exact⟨_,.non,(jA _ _).trans q,rfl,λ_ _=>rfl⟩;cases eq_of_beq e;exact⟨_,.bl _,(jA _ _).trans q,rfl,λ_ _=>rfl⟩;cases e;cases e
theorem aLO{prog p:Ay}{w:AJ}{h0 h:Heap}{mg:Str->Option Ac}{P:Pg}{Γ:Ct}{ix:List (Nat×List Str)}{n:Sn}(S:kQ p n h0=oM p n w)(k:∀b o,h0.get? b=some o->h.get? b=some o)(G':h.Ns B2 mg)
 (hi:(ix.all λc=>zQ (zR p c.1))=true) (h1:Γ.fns=(ix.map (pQ p)).map (·.x)) (h2:Γ.cns=n.cns) (h3:Γ.tbs=n.tbs.map (·.1)) (h4:P.tabs=n.tbs.map λq=>aDV q.2) (h5:(n.tbs.all λq=>aCk q.2)=true)
 (hb:((P.fns.zip (ix.map (pQ p))).all λq=>kP (kF q.2.st) (q.2.N.take q.1.np))=true) (chk:oJ Γ P.fns (ix.map (pQ p))=true) :
 Top prog w (lY h0) mg P Γ (ix.map (pQ p)):=by
 unfold kQ oM at S;simp only[Cr] at S;obtain⟨s1,s2,s3,s4⟩:=S;have X:=aCi k;exact {
  fn:=λf t ht=>by rw[A7] at ht;obtain⟨c,hc,rfl⟩:=Bx.mp ht;have hd:=B7.mp hi c (mG hc);obtain⟨fa,fd,W,U⟩:=aIx (EE.mp s1 _ (CP.mpr ⟨aLN hd,hd⟩));refine⟨fa,fd,mg_of X G' W,U,λF hF=>U.binds λkV doc pm an cdv ct us hl=>sB (B7.mp hb (F,pQ p c) (mG (i:=f) ?_)) hl⟩;rw[Ds];grind
  fns:=λf x I=>by rw[h1,A7] at I;grind
  blt:=λx I=>mg_none_of X G' ((jA h0 x).trans (EE.mp s2 x I))
  cns:=λx d I=>by rw[h2] at I;obtain⟨u,v,W,U⟩:=aIy (B7.mp s3 _ (BA I));exact⟨u,v,mg_of X G' W,U⟩
  tab:=λi x I=>by rw[h3,A7] at I;obtain⟨q,hq,rfl⟩:=Bx.mp I;have hm:=mG hq;obtain⟨a,W,U⟩:=aGk (EE.mp s4 q hm) (B7.mp h5 q hm);exact⟨a,aDV q.2,mg_of X G' W,by rw[h4,A7,hq];rfl,U⟩
  chk:=chk }
theorem aGl{l:Hw}{n k:Nat}{q:Ay}{W:List Str}{XP:(Str->Option Ac)->Heap->Prop}{YP:AJ->Heap->Prop}{d:DefRec}{sp:Aq->Sp}{x:Str}(hn:l.most=some n)(q3:n<=sizeLine)(q1:d.params.defaults=[])(hr:lP k FR)
 (F:∀(w:AJ) (mg:Str->Option Ac) (fa:Ah) (h:Heap),YP w h->h.Ns B2 mg->mg d.name=some (.ref fa)->∃K:Aq,K.In h/\∃fd:Df,(∀(s:Ae) (u:Ac),IU s fd ⟨[u],[]⟩ [(x,u)])/\∀base:Heap,K.In base->base.Ns B2 mg->pL l.prog w K mg base CX0 k fa fd [x] (sp K))
 (q4:∀(K:Aq) (H:Hp) (a:Ah) (ns:List Int),ns.length<=n->aHQ H->SqL K H a (ns.map V.int)->sp K [.ref a] H (λv _=>v=.bl true) λ_ _ _=>False):PySem.W.WalkO q W XP YP l.row.toRowW d [] (λf vs=>HW f vs):=by refine Att.attach_call hn q1 λw s₀ q5 mg mb fa o pm cd doc a vs ns G' Y ho hd q6 q2 q0 U I hg=>?_;obtain⟨K,KX,fd,hb,hF⟩:=F w mg fa _ Y G'.T.g q2;exact aEX KX G'.T.g G'.T.b G'.T.builtins G'.T.nolimit hg q0 U (AL I q3) hr hF hb (λH hO hS=>q4 K H a ns I hO hS) λ_ _ _ z=>z
noncomputable def lst(p:Ay):Ck:=p.main.body.getLastD (.Pass ⟨0,0,0,0⟩)
noncomputable def uU(p:Ay):Ay:={ p with main:={ p.main with body:=[lst p] } }
noncomputable def wR(p:Ay):List Str:=(p.main.scope.names.map (·.1)).filter λx=>!(GO x (dT (lst p)))
noncomputable def aLP(s:Ck):CB:=match s with|.FunctionDef _ _ _ _ _ _ _ _ _ p=>p|_=>⟨0,0,0,0⟩
noncomputable def mB(p:Ay):DefRec:=⟨dT (lst p),kF (lst p),kG (lst p),cG (lst p),aLP (lst p)⟩
theorem aLQ{l:Hw}{P:Pg}{n:Sn}{ix:List (Nat×List Str)}{k f N:Nat}{x:Str}{sl:List Str}(q1:l.row.wellSaid=true)(left:JZ l.prog (uU l.prog) (wR l.prog) (λ_=>true) (λs=>kQ l.prog n s.heap) (λw=>oM l.prog n w) N)
 (q0:defOf (uU l.prog) l.name=some (mB l.prog,[])) (hp:l.prog.theDef l.name=some ((mB l.prog).params,(mB l.prog).body,(mB l.prog).scope)) (hk:kwWritten? (mB l.prog).params.kwonlyargs (mB l.prog).params.kw_defaults=some []) (q5:(!l.writes||([]:WRecords).isEmpty)=true)
 (ok:(chainsOk (uU l.prog)&&opensWell l.prog&&(frees l.row.toRowW&&l.row.within.isEmpty))=true) (hb:l.prog.bare) (hw:l.row.toRowW.promised) (hn:l.most=some 63) (q2:(mB l.prog).params.defaults=[])
 (hi:(ix.all λc=>zQ (zR l.prog c.1))=true) (W:((P.fns.zip (ix.map (pQ l.prog))).all λq=>kP (kF q.2.st) (q.2.N.take q.1.np))=true) (chk:oJ ⟨[],[],(ix.map (pQ l.prog)).map (·.x),n.cns,true,n.tbs.map (·.1)⟩ P.fns (ix.map (pQ l.prog))=true)
 (h4:P.tabs=n.tbs.map λq=>aDV q.2) (h5:(n.tbs.all λq=>aCk q.2)=true) (hr:lP (k+1) FR) (hx:(ix.map (pQ l.prog))[f]? = some ⟨dT (lst l.prog),dT (lst l.prog),lst l.prog,x::sl⟩) (q4:(P.fns[f]?).map (·.np)=some 1)
 (pure:∀ns:List Int,ns.length<=63->∃fr pa,Hp.call P (k+1) f [.lst (ns.map D.int)]=.ok (.bl true,fr,pa)):l.row.Holds:=by refine holds_open (YP:=λw h=>∃I,kQ l.prog n I=oM l.prog n w/\∀b o,I.get? b=some o->h.get? b=some o) left (λw s e=>⟨s.heap,e,λ_ _ z=>z⟩) (λw h h' ⟨I,e,k⟩ k'=>⟨I,e,λb o z=>k' b o (k b o z)⟩) (λ_ _=>trivial) (λ_ _ _ _ _=>trivial) q0 hp hk (λ_ _=>recFacts_nil rfl) q5 q1 ok hb hw ?_;obtain⟨F,hF,U⟩:=Bx.mp q4;refine aGl (x:=x) hn (by decide) q2 hr (λw mg fa h ⟨I,e,kk⟩ G' q3=>?_) λK H a ns hl hO hS=>aLI hO hS (pure ns hl);have T:=aLO (prog:=l.prog) (Γ:=⟨[],[],(ix.map (pQ l.prog)).map (·.x),n.cns,true,n.tbs.map (·.1)⟩) e kk G' hi rfl rfl rfl h4 h5 W chk;obtain⟨q6,fd,g1,g2,g3⟩:=T.fn f _ hx;cases(q3.symm.trans g1);refine⟨lY I,aCi kk,fd,λs u=>?_,λbase _ _=>?_⟩;obtain⟨oc,od,kV,doc,pm,an,cdv,ct,osl,rfl,lk,q7⟩:=g2.ex;refine .of_eq ((sB (ps:=[x]) ?_ rfl).trans rfl);have:=B7.mp W (F,_) (mG (Ds.mpr ⟨hF,hx⟩));rw[U] at this;exact this;have:=aLH (base:=base) T hx hF g2 k;rw[U] at this;exact this
end Hh
namespace Hp
open PySem (Str Operator CmpOp)
section
variable {P:Pg} {W:Caller} {Z:Sg}
@[simp] theorem aA {α q:Type} (a:α) (f:α->R q):((R.ok a:R α) >>= f)=f a:=id rfl
@[simp] theorem lK {α:Type} (x:R α):R.iff true x=x:=id rfl
@[simp] theorem aRc {α:Type} (x:α):R.of (some x)=.ok x:=id rfl
@[simp] theorem cA {α:Type} (a:α) (f:α->O):O.from Z (.ok a) f=f a:=id rfl
@[simp] theorem aLR (f:Sg->O):(O.next Z).on f=f Z:=id rfl
@[simp] theorem aGm (v:Vl) (f:Sg->O):(O.ret v).on f=.ret v:=id rfl
@[simp] theorem aC (d:D):ev P W Z (.c d)=.ok (.cl d):=id rfl
@[simp] theorem zS (i:Nat):ev P W Z (.v i)=cX Z i:=id rfl
@[simp] theorem aOI (o:Operator) (a b:E):ev P W Z (.op o a b)=(ev P W Z a >>= λx=>ev P W Z b >>= λy=>opD o x y):=id rfl
@[simp] theorem aLS (a:E):ev P W Z (.neg a)=(ev P W Z a >>= λx=>match x.d with|.int i=>.ok (.cl (.int (-i)))|_=>.bad):=id rfl
@[simp] theorem aOJ (a:E):ev P W Z (.nt a)=(ev P W Z a >>= λx=>jL x >>= λk=>.ok (.cl (.bl (!k)))):=id rfl
@[simp] theorem aOK (a b:E):ev P W Z (.an a b)=(ev P W Z a >>= λx=>match x.d with|.bl true=>ev P W Z b|.bl false=>.ok (.cl (.bl false))|_=>.bad):=id rfl
@[simp] theorem aLT (a b:E):ev P W Z (.orr a b)=(ev P W Z a >>= λx=>match x.d with|.bl true=>.ok (.cl (.bl true))|.bl false=>ev P W Z b|_=>.bad):=id rfl
@[simp] theorem aLU (t a b:E):ev P W Z (.ife t a b)=(tst P W Z t >>= λx=>if x then ev P W Z a else ev P W Z b):=id rfl
@[simp] theorem aLV (o:CmpOp) (a b:E):ev P W Z (.cmp o a b)=(ev P W Z a >>= λx=>ev P W Z b >>= λy=>match dJ o x.d y.d with|some k=>.ok (.cl (.bl k))|none=>.bad):=id rfl
@[simp] theorem aPp (o o':CmpOp) (a b c:E):ev P W Z (.cmp2 o o' a b c)=(ev P W Z a >>= λx=>ev P W Z b >>= λy=>match dJ o x.d y.d with
 | some true=>ev P W Z c >>= λz=>(match dJ o' y.d z.d with|some k=>.ok (.cl (.bl k))|none=>.bad)
 | some false=>.ok (.cl (.bl false))|none=>.bad):=id rfl
@[simp] theorem sC (a b:E):ev P W Z (.idx a b)=(ev P W Z a >>= λx=>ev P W Z b >>= λy=>eT x y):=id rfl
@[simp] theorem sD (es:Es):ev P W Z (.tup es)=(evs P W Z es >>= λvs=>.ok (aBM vs)):=id rfl
@[simp] theorem aGn (es:Es):ev P W Z (.lst es)=(evs P W Z es >>= λvs=>.ok (yO vs)):=id rfl
@[simp] theorem eY (f:Nat) (es:Es):ev P W Z (.call f es)=(evs P W Z es >>= λvs=>W f (vs.map (·.d)) >>= λr=>.ok (iW vs r)):=id rfl
@[simp] theorem aJz (b:Bi) (es:Es):ev P W Z (.bi b es)=(evs P W Z es >>= λvs=>biD b vs):=id rfl
@[simp] theorem aQs (a:E) (cs:List Cl):ev P W Z (.isi a cs)=(ev P W Z a >>= λx=>match isI cs P x.d with|some k=>.ok (.cl (.bl k))|none=>.bad):=id rfl
@[simp] theorem wU (a:E) (h:E):ev P W Z (.sli a .nil (.cons h .nil))=(ev P W Z a >>= λx=>ev P W Z h >>= λh=>match h.d with|.int h=>.iff (aM h) (eU x none (some h))|_=>.bad):=by
 show(ev P W Z a >>= λx=>evs P W Z .nil >>= λl=>evs P W Z (.cons h .nil) >>= λh=>_)=_;cases ev P W Z a with
 | ok x=>show((ev P W Z h >>= λx=>evs P W Z .nil >>= λxs=>R.ok (x::xs)) >>= λh=>_)=_;cases ev P W Z h <;> rfl|bad=>rfl
theorem mX(k:Nat)(caps:List Nat)(t:T)(it:It)(cond:Es)(elt:E):ev P W Z (.comp k caps t it cond elt)=(walk P W Z it >>= λxs=>
 fS (λx=>cN (Al k .dead++caps.map λi=>((freeze Z xs.2)[i]?).getD .dead) x t >>= λq=>tsts P W q cond >>= λk=>if k then (ev P W q elt >>= λy=>.ok (some y)) else .ok none) xs.1 >>= λvs=>
 .iff (decide (vs.length<=lim)) (.ok (fV k caps xs.2 vs))):=rfl
@[simp] theorem aMG (a:E):ev P W Z (.numset a)=(ev P W Z a >>= λx=>match x.d with
 | .lst ds=>(match iB ds with|some ks=>.iff (decide (ds.length<=1000)) (.ok (.cl (.int (aAG ks).length)))|none=>.bad)
 | _=>.bad):=id rfl
@[simp] theorem cB:evs P W Z .nil=.ok []:=id rfl
@[simp] theorem aJ (e:E) (es:Es):evs P W Z (.cons e es)=(ev P W Z e >>= λx=>evs P W Z es >>= λxs=>.ok (x::xs)):=id rfl
@[simp] theorem sF (a:E):tst P W Z (.nt a)=(tst P W Z a >>= λx=>.ok (!x)):=id rfl
@[simp] theorem aGo (a b:E):tst P W Z (.an a b)=(tst P W Z a >>= λx=>if x then tst P W Z b else .ok false):=id rfl
@[simp] theorem aCl (a b:E):tst P W Z (.orr a b)=(tst P W Z a >>= λx=>if x then .ok true else tst P W Z b):=id rfl
@[simp] theorem aRa (d:D):tst P W Z (.c d)=jL (.cl d):=id rfl
@[simp] theorem aOL (i:Nat):tst P W Z (.v i)=(cX Z i >>= λx=>jL x):=id rfl
@[simp] theorem aCm (o:CmpOp) (a b:E):tst P W Z (.cmp o a b)=(ev P W Z a >>= λx=>ev P W Z b >>= λy=>match dJ o x.d y.d with|some k=>.ok k|none=>.bad):=id rfl
@[simp] theorem sG (o o':CmpOp) (a b c:E):tst P W Z (.cmp2 o o' a b c)=(ev P W Z a >>= λx=>ev P W Z b >>= λy=>match dJ o x.d y.d with
 | some true=>ev P W Z c >>= λz=>(match dJ o' y.d z.d with|some k=>.ok k|none=>.bad)
 | some false=>.ok false|none=>.bad):=id rfl
@[simp] theorem iM (f:Nat) (es:Es):tst P W Z (.call f es)=(evs P W Z es >>= λvs=>W f (vs.map (·.d)) >>= λr=>jL (iW vs r)):=id rfl
@[simp] theorem aPq (a:E) (cs:List Cl):tst P W Z (.isi a cs)=(ev P W Z a >>= λx=>match isI cs P x.d with|some k=>.ok k|none=>.bad):=id rfl
@[simp] theorem aPr (a b:E):tst P W Z (.idx a b)=(ev P W Z a >>= λx=>ev P W Z b >>= λy=>eT x y >>= λz=>jL z):=id rfl
@[simp] theorem aGp:tsts P W Z .nil=.ok true:=id rfl
@[simp] theorem uV (e:E) (es:Es):tsts P W Z (.cons e es)=(tst P W Z e >>= λx=>if x then tsts P W Z es else .ok false):=id rfl
@[simp] theorem aGq (a:E):walk P W Z (.dwn a)=(ev P W Z a >>= λx=>match x.d with
 | .int i=>.iff (aM i) (.ok ((pC i).map .cl,[]))|_=>.bad):=id rfl
@[simp] theorem aDW (i j:Nat) (e:E) (k:Nat):ex P W Z (.appPop i j e k)=O.from Z (yR (some (ev P W Z e))) λm=>O.from Z (mM Z j m) λ(v,Z')=>O.from Z' (aBN v k) λw=>aFe Z' i w:=id rfl
@[simp] theorem sH (a b:E):walk P W Z (.rng a b)=(ev P W Z a >>= λx=>ev P W Z b >>= λy=>match x.d,y.d with|.int i,.int j=>.iff (aM i&&aM j) (.ok ((gI i j).map .cl,[]))|_,_=>.bad):=id rfl
@[simp] theorem bQ (e:E):walk P W Z (.seq e)=(ev P W Z e >>= λx=>match x.d with
 | .lst ds=>.ok (items x ds,x.al)|.tup ds=>.ok (items x ds,x.al)|.str a=>.iff (decide (a.length<=lim)) (.ok (a.cps.toList.map λn=>.cl (.str ⟨#[n]⟩),[]))|_=>.bad):=id rfl
@[simp] theorem jT (a b:E):walk P W Z (.zip a b)=(ev P W Z a >>= λx=>ev P W Z b >>= λy=>match yP x.d,yP y.d with
 | some as,some bs=>.ok (items ⟨.non,false,x.pa||y.pa,x.al++y.al⟩ (fR as bs),x.al++y.al)|_,_=>.bad):=id rfl
@[simp] theorem jU (t:T) (e:E):ex P W Z (.set t e)=O.from Z (ev P W Z e) λv=>O.from Z (cN (freeze Z v.al) v t) .next:=id rfl
@[simp] theorem aLW (i:Nat) (e:E):ex P W Z (.app i e)=O.from Z (ev P W Z e) λv=>put Z i v λds=>some (ds++[v.d]):=id rfl
@[simp] theorem aGr (i:Nat) (e:E):ex P W Z (.ext i e)=O.from Z (ev P W Z e) λv=>match uB v with|some (v',ds')=>put Z i v' λds=>some (ds++ds')|none=>.bad:=id rfl
@[simp] theorem aGs (i:Nat) (k e:E):ex P W Z (.setIx i k e)=O.from Z (ev P W Z e) λv=>O.from Z (ev P W Z k) λq=>match q.d with
 | .int k=>put Z i v λds=>(match ixN ds.length k with|some j=>some (ds.set j v.d)|none=>none)
 | _=>.bad:=id rfl
@[simp] theorem wV (e:E):ex P W Z (.ret e)=O.from Z (ev P W Z e) .ret:=id rfl
@[simp] theorem jV (c:E) (a b:Ss):ex P W Z (.iff c a b)=O.from Z (tst P W Z c) λk=>if k then exs P W Z a else exs P W Z b:=id rfl
theorem aBb(t:T)(it:It)(b:Ss):ex P W Z (.for t it b)=O.from Z (walk P W Z it) λxs=>eK (λZ x=>O.from Z (cN Z x t) λZ'=>exs P W Z' b) xs.1 (freeze Z xs.2):=rfl
@[simp] theorem aQt (i j:Nat):ex P W Z (.mov i j)=(match Z[j]? with
 | some (.own pa ds)=>if i=j then .bad else .next ((Z.set j .dead).set i (.own pa ds))|some (.sh pa d)=>.next (Z.set i (.sh (pa&&!noL d) d))|_=>.bad):=id rfl
@[simp] theorem aPs (i:Nat):ex P W Z (.retv i)=(match Z[i]? with|some (.own pa ds)=>.ret ⟨.lst ds,true,pa,[]⟩|_=>O.from Z (cX Z i) .ret):=id rfl
@[simp] theorem aCn:exs P W Z .nil=.next Z:=id rfl
@[simp] theorem dZ (s:S) (ss:Ss):exs P W Z (.cons s ss)=(ex P W Z s).on λZ'=>exs P W Z' ss:=id rfl
end
theorem aH{P:Pg}{W:Caller}{f:Nat}{F:Fn}{ds:List D}(q:P.fns[f]? = some F)(I:ds.length=F.np){v:Vl}
 (h:exs P W ((ds.map λd=>Sl.sh true d)++Al (F.ns-F.np) Sl.dead) F.body=.ret v):wB P W f ds=.ok (v.d,v.fr,v.pa):=by unfold wB;rw[q];simp only[I,if_true,h]
theorem zT{f:Sg->Vl->O}:∀(xs:List Vl) (I:Nat->Sg->Prop) (Z:Sg),I 0 Z->(∀(i:Nat) (h:i<xs.length) (Z:Sg),I i Z->∃Z',f Z xs[i]=.next Z'/\I (i+1) Z')->∃Z',eK f xs Z=.next Z'/\I xs.length Z'
 | [],I,Z,h0,_=>⟨Z,rfl,h0⟩
 | x::xs,I,Z,h0,hs=>by
  obtain⟨U,q,h1⟩:=hs 0 (by simp) Z h0;obtain⟨W,e2,h2⟩:=zT xs (λi=>I (i+1)) U h1 λi h Z hI=>by have:=hs (i+1) (by simpa using h) Z hI;simpa using this
  refine⟨W,?_,by simpa using h2⟩;have q:f Z x=.next U:=by simpa using q
  unfold eK;rw[q];exact e2
theorem sJ{f:Vl->R (Option Vl)}{g:Vl->Vl}:∀{xs:List Vl},(∀x∈xs,f x=.ok (some (g x)))->fS f xs=.ok (xs.map g)
 | [],_=>rfl|x::xs,h=>by show(f x >>= λy=>fS f xs >>= λys=>(match y with|some y=>R.ok (y::ys)|none=>R.ok ys))=_;rw[(h x A3),(sJ λy q=>h y (Au _ q))];rfl
theorem aLX(n:Nat):(gI 0 (n:Int)).map Vl.cl=(Ar n).map λ(k:Nat)=>Vl.cl (.int (k:Int)):=by unfold gI;rw[Aw];simp
theorem mY{P:Pg}{W:Caller}{Z:Sg}{k:Nat}{caps:List Nat}{t:T}{it:It}{elt:E}{xs:List Vl}{al:List Nat}(g:Vl->Vl)(hw:walk P W Z it=.ok (xs,al))(U:xs.length<=lim)
 (I:∀x∈xs,∃q,cN (Al k .dead++caps.map λi=>((freeze Z al)[i]?).getD .dead) x t=.ok q/\ev P W q elt=.ok (g x)):ev P W Z (.comp k caps t it .nil elt)=.ok (fV k caps al (xs.map g)):=by
 rw[mX,hw,aA,sJ (g:=g) λx hx=>by
  obtain⟨q,e1,e2⟩:=I x hx;simp_all]
 rw[aA,(Am (by rw[lM];exact U)),lK]
theorem cS{P:Pg}{W:Caller}{Z:Sg}{t:T}{it:It}{b:Ss}{xs:List Vl}{al:List Nat}(I:Nat->Sg->Prop)(hw:walk P W Z it=.ok (xs,al))(U:I 0 (freeze Z al))
 (hs:∀(i:Nat) (h:i<xs.length) (Z:Sg),I i Z->∃q Z',cN Z xs[i] t=.ok q/\exs P W q b=.next Z'/\I (i+1) Z'):∃Z',ex P W Z (.for t it b)=.next Z'/\I xs.length Z':=by rw[aBb,hw];refine zT xs I _ U λi h Z hI=>?_;obtain⟨q,Z',e1,e2,h'⟩:=hs i h Z hI;simp_all
theorem aCo:aM 0=true:=by decide
theorem fY{n:Nat}(q:n<=1000000):aM (n:Int)=true:=by unfold aM;rw[bA,AR,AR];grind
theorem cH{P:Pg}{W:Caller}{Z:Sg}{a:E}{v:Vl}{n:Nat}(h:ev P W Z a=.ok v)(hd:v.d=.int n)(q:n<=1000000):walk P W Z (.rng (.c (.int 0)) a)=.ok ((Ar n).map λ(k:Nat)=>Vl.cl (.int (k:Int)),[]):=by rw[sH,h,aC,aA,aA,hd,<-aLX];show R.iff (aM 0&&aM (n:Int)) _=_;rw[aCo,fY q];rfl
theorem uW{k:Nat}{caps al:List Nat}{vs:List Vl}(h:noLs (vs.map (·.d))=true):fV k caps al vs=⟨.lst (vs.map (·.d)),true,false,[]⟩:=by unfold fV;rw[if_pos h]
end Hp
namespace HpS
open Hp PySem
noncomputable def box(b:Str×Int):D:=.tup [.str b.1,.int b.2]
noncomputable def aE(bs:List (Str×Int)):List D:=bs.map box
noncomputable def aS(is:List Int):D:=.tup (is.map D.int)
structure aIz (bs:List (Str×Int)):Prop where
 few:bs.length<=5
 one:∀b∈bs,1<=b.2/\b.2<=7
 room:(bs.map λb=>b.2+1).foldl (·*·) 1<=24
noncomputable def jK(bs:List (Str×Int)):Int:=(bs.map λb=>b.2+1).foldl (·*·) 1
theorem mZ:∀is:List Int,noLs (is.map D.int)=true
 | []=>rfl|i::is=>by simp[noLs,noL,mZ is]
@[simp] theorem aU (is:List Int):noL (aS is)=true:=by simp[aS,noL,mZ]
@[simp] theorem nA (b:Str×Int):noL (box b)=true:=by simp[box,noL,noLs]
theorem jW:∀ss:List (List Int),noLs (ss.map aS)=true
 | []=>rfl|s::ss=>by simp[noLs,jW ss]
theorem zU{v:Vl}(bs:List (Str×Int)):items v (aE bs)=bs.map λb=>Vl.cl (box b):=by simp[items,aE,Vl.sub]
theorem wW:∀(xs:List Int) (a:Int),1<=a->(∀x∈xs,1<=x)->a<=xs.foldl (·*·) a
 | [],a,_,_=>Int.le_refl _|x::xs,a,ha,h=>by
  have h1:a<=a*x:=by have:=Int.mul_le_mul_of_nonneg_left (h x A3) (show 0<=a by omega);omega
  exact Ft h1 (wW xs (a*x) (by omega) λy q=>h y (Au _ q))
theorem wX(bs:List (Str×Int))(h:∀b∈bs,1<=b.2)(i:Nat):1<=jK (bs.take i)/\jK (bs.take i)<=jK bs:=by
 have pos:∀(l:List (Str×Int)),(∀b∈l,1<=b.2)->∀x∈l.map (λb=>b.2+1),1<=x:=λl I x U=>by grind
 have h1:1<=jK (bs.take i):=wW _ 1 (by omega) (pos _ λb q=>h b (Dm q));refine⟨h1,?_⟩;have:jK bs=((bs.drop i).map λb=>b.2+1).foldl (·*·) (jK (bs.take i)):=by
  unfold jK
  conv=>lhs;rw[((DP i bs).symm),Ax,Dd]
 rw[this];exact wW _ _ h1 (pos _ λb q=>h b (List.mem_of_mem_drop q))
theorem aDX{bs:List (Str×Int)}{i:Nat}(h:i<bs.length):jK (bs.take (i+1))=jK (bs.take i)*(bs[i].2+1):=by rw[BP h];unfold jK;rw[Ax,Dd];rfl
noncomputable def aCp:Fn:=⟨1,6,
 (.cons (.set (.n 1) (.lst (.cons (.tup .nil) .nil)))
 (.cons (.for (.t [2,3]) (.seq (.v 0))
  (.cons (.set (.n 4) (.lst .nil))
  (.cons (.for (.n 5) (.seq (.v 1))
   (.cons (.ext 4 (.comp 1 [5] (.n 0) (.rng (.c (.int 0)) (.op .Add (.v 3) (.c (.int 1)))) .nil (.op .Add (.v 1) (.tup (.cons (.v 0) .nil)))))
   .nil))
  (.cons (.mov 1 4)
  .nil))))
 (.cons (.retv 1)
 .nil)))⟩
noncomputable def eZ(b:List Int)(top:Int):List (List Int):=(Ar (top+1).toNat).map λ(h:Nat)=>b++[(h:Int)]
noncomputable def jX(found:List (List Int))(top:Int):List (List Int):=found.flatMap λb=>eZ b top
noncomputable def standsL(bs:List (Str×Int)):List (List Int):=bs.foldl (λfound b=>jX found b.2) [[]]
theorem fZ{bs:List (Str×Int)}{i:Nat}(h:i<bs.length):standsL (bs.take (i+1))=jX (standsL (bs.take i)) bs[i].2:=by rw[BP h];unfold standsL;rw[Dd];rfl
theorem aBc(found:List (List Int))(top:Int):(jX found top).length=found.length*(top+1).toNat:=by
 induction found with
 | nil=>simp[jX]|cons b r q=>unfold jX at q ⊢;rw[DL,lA,q,lC,Nat.succ_mul];simp[eZ];omega
theorem aBd{bs:List (Str×Int)}(h:aIz bs):∀i,i<=bs.length->((standsL (bs.take i)).length:Int)=jK (bs.take i)/\∀s∈standsL (bs.take i),s.length=i
 | 0,_=>by simp[standsL,jK]|i+1,hi=>by obtain⟨h1,h2⟩:=aBd h i (by omega);obtain⟨I,U⟩:=h.one bs[i] (AK (by omega));rw[fZ (by omega),aDX (by omega),aBc];refine⟨?_,λs hs=>?_⟩;rw[Int.natCast_mul,h1,CF (by omega)];obtain⟨b,q,hs⟩:=DS.mp hs;obtain⟨k,_,rfl⟩:=AH.mp hs;rw[lA,h2 b q];rfl
theorem aJA{bs:List (Str×Int)}(h:aIz bs)(i:Nat)(hi:i<=bs.length):(standsL (bs.take i)).length<=24:=by have h1:=(aBd h i hi).1;have h2:=(wX bs (λb q=>(h.one b q).1) i).2;have I:jK bs<=24:=h.room;omega
theorem pH{found:List (List Int)}{top:Int}{j:Nat}(h:j<found.length):(found.take (j+1)).flatMap (λb=>eZ b top)=(found.take j).flatMap (λb=>eZ b top)++eZ found[j] top:=by rw[BP h,FX];simp
theorem pZ{found:List (List Int)}{top:Int}(j:Nat):((found.take j).flatMap λb=>eZ b top).length<=(jX found top).length:=by
 unfold jX
 conv=>rhs;rw[((DP j found).symm),FX,lA]
 omega
theorem wY{v:Vl}(ss:List (List Int)):items v (ss.map aS)=ss.map λs=>Vl.cl (aS s):=by simp[items,Vl.sub]
theorem aGt{P:Pg}(n:Nat){s0 s1 s2 q:Sl}{b:List Int}{top:Int}(ht:1<=top)(U:top<=7)(hb:b.length<=10) :
 ev P (call P n) [s0,s1,s2,.sh false (.int top),q,.sh false (aS b)] (.comp 1 [5] (.n 0) (.rng (.c (.int 0)) (.op .Add (.v 3) (.c (.int 1)))) .nil (.op .Add (.v 1) (.tup (.cons (.v 0) .nil))))=.ok ⟨.lst ((eZ b top).map aS),true,false,[]⟩:=by
 have W:walk P (call P n) [s0,s1,s2,.sh false (.int top),q,.sh false (aS b)] (.rng (.c (.int 0)) (.op .Add (.v 3) (.c (.int 1))))=.ok ((Ar (top+1).toNat).map λ(k:Nat)=>Vl.cl (.int (k:Int)),[]):=by refine cH (v:=.cl (.int (top+1))) ?_ ?_ (by omega);simp[cX,Sl.val,opD,Vl.cl];show D.int (top+1)=D.int ((top+1).toNat:Int);rw[CF (by omega)]
 rw[mY (λv=>match v.d with|.int k=>.cl (aS (b++[k]))|_=>.cl .non) W];have e:(((Ar (top+1).toNat).map λ(k:Nat)=>Vl.cl (.int (k:Int))).map λv=>(match v.d with|.int k=>Vl.cl (aS (b++[k]))|_=>Vl.cl .non)).map (·.d)=(eZ b top).map aS:=by simp[eZ,Vl.cl]
 rw[uW (by rw[e];exact jW _),e];simp only[lM,AS];unfold lim;omega;intro y hy;obtain⟨k,hk,rfl⟩:=AH.mp hy;have I:b.length+1<=lim:=by unfold lim;omega
 refine⟨[.sh false (.int k),.sh false (aS b)],?_,?_⟩;simp[cN,Vl.cl,Vl.slot,freeze];simp[cX,Sl.val,Vl.cl,opD,aBM,dS,bT,aS,I]
theorem aDY{P:Pg}{f:Nat}(hF:P.fns[f]? = some aCp)(n:Nat){bs:List (Str×Int)}(h:aIz bs):call P (n+1) f [.lst (aE bs)]=.ok (.lst ((standsL bs).map aS),true,false):=by
 obtain⟨Z',e,hI⟩:=cS (P:=P) (W:=call P n) (Z:=[.sh true (.lst (aE bs)),.own false [.tup []],.dead,.dead,.dead,.dead]) (t:=.t [2,3]) (it:=.seq (.v 0))
  (b:=.cons (.set (.n 4) (.lst .nil)) (.cons (.for (.n 5) (.seq (.v 1)) (.cons (.ext 4 (.comp 1 [5] (.n 0) (.rng (.c (.int 0)) (.op .Add (.v 3) (.c (.int 1)))) .nil (.op .Add (.v 1) (.tup (.cons (.v 0) .nil))))) .nil)) (.cons (.mov 1 4) .nil)))
  (xs:=bs.map λb=>Vl.cl (box b)) (al:=[])
  (λi Z=>∃s2 s3 s4 I,Z=[.sh true (.lst (aE bs)),.own false ((standsL (bs.take i)).map aS),s2,s3,s4,I])
  (by simp[cX,Sl.val,zU]) ⟨_,_,_,_,rfl⟩ (λi hi Z q0=>by
   obtain⟨s2,s3,s4,I,rfl⟩:=q0;have q:i<bs.length:=by simpa using hi
   obtain⟨g2,g3⟩:=h.one bs[i] (AK q);have q1:=aJA h (i+1) q;rw[fZ q] at q1;obtain⟨_,q2⟩:=aBd h i (by omega);have q6:=h.few;obtain⟨Z2,e2,hJ⟩:=cS (P:=P) (Z:=[.sh true (.lst (aE bs)),.own false ((standsL (bs.take i)).map aS),.sh false (.str bs[i].1),.sh false (.int bs[i].2),.own false [],I]) (t:=.n 5) (it:=.seq (.v 1))
    (b:=.cons (.ext 4 (.comp 1 [5] (.n 0) (.rng (.c (.int 0)) (.op .Add (.v 3) (.c (.int 1)))) .nil (.op .Add (.v 1) (.tup (.cons (.v 0) .nil))))) .nil)
    (xs:=(standsL (bs.take i)).map λs=>Vl.cl (aS s)) (al:=[1])
    (λj Z=>∃I,Z=[.sh true (.lst (aE bs)),.sh false (.lst ((standsL (bs.take i)).map aS)),.sh false (.str bs[i].1),.sh false (.int bs[i].2),.own false ((((standsL (bs.take i)).take j).flatMap λb=>eZ b bs[i].2).map aS),I])
    (by simp[cX,Sl.val,wY]) ⟨_,by simp[freeze,Sl.freeze];rfl⟩ (λj hj Z q0=>by
     obtain⟨I,rfl⟩:=q0;have U:j<(standsL (bs.take i)).length:=by simpa using hj
     have q4:=pZ (found:=standsL (bs.take i)) (top:=bs[i].2) (j+1);rw[pH U,lA] at q4;have q3:((((standsL (bs.take i)).take j).flatMap λb=>eZ b bs[i].2).map aS++(eZ (standsL (bs.take i))[j] bs[i].2).map aS).length<=lim:=by rw[lA,lM,lM];unfold lim;omega
     refine⟨[.sh true (.lst (aE bs)),.sh false (.lst ((standsL (bs.take i)).map aS)),.sh false (.str bs[i].1),.sh false (.int bs[i].2),.own false ((((standsL (bs.take i)).take j).flatMap λb=>eZ b bs[i].2).map aS),.sh false (aS (standsL (bs.take i))[j])],
      [.sh true (.lst (aE bs)),.sh false (.lst ((standsL (bs.take i)).map aS)),.sh false (.str bs[i].1),.sh false (.int bs[i].2),.own false ((((standsL (bs.take i)).take (j+1)).flatMap λb=>eZ b bs[i].2).map aS),.sh false (aS (standsL (bs.take i))[j])],?_,?_,⟨_,rfl⟩⟩
     simp[cN,Vl.cl,Vl.slot];rw[dZ,aGr,(aGt n g2 g3 (by rw[q2 _ (AK U)];omega)),cA];simp only[uB,jW,if_true];unfold put;simp only[freeze,lH,gS,gZ];rw[if_pos q3];simp[pH U])
   obtain⟨q5,rfl⟩:=hJ;refine⟨[.sh true (.lst (aE bs)),.own false ((standsL (bs.take i)).map aS),.sh false (.str bs[i].1),.sh false (.int bs[i].2),s4,I],[.sh true (.lst (aE bs)),.own false ((standsL (bs.take (i+1))).map aS),.sh false (.str bs[i].1),.sh false (.int bs[i].2),.dead,q5],?_,?_,⟨_,_,_,_,rfl⟩⟩;simp[cN,box,Vl.cl,Vl.sub,Vl.slot];have et:(standsL (bs.take i)).take ((standsL (bs.take i)).map λs=>Vl.cl (aS s)).length=standsL (bs.take i):=by simp
   rw[et] at e2;simp[yO,dS,bT,cN,freeze,Vl.slot,e2,fZ q,jX])
 obtain⟨s2,s3,s4,I,rfl⟩:=hI;have et:bs.take (bs.map λb=>Vl.cl (box b)).length=bs:=by simp
 rw[et] at e;refine aH hF rfl (v:=⟨.lst ((standsL bs).map aS),true,false,[]⟩) ?_;simp[aCp,yO,aBM,dS,bT,cN,freeze,Vl.slot,e]
end HpS
namespace Hp
open PySem (Str)
@[simp] theorem aPt (d:D):(⟨d,false,false,[]⟩:Vl)=.cl d:=id rfl
@[simp] theorem jB (d:D):(Vl.cl d).d=d:=id rfl
@[simp] theorem aRb (d:D):(Vl.cl d).fr=false:=id rfl
@[simp] theorem aOM (d:D):(Vl.cl d).pa=false:=id rfl
@[simp] theorem uX (d:D):(Vl.cl d).al=[]:=id rfl
@[simp] theorem hG (d:D):(Vl.cl d).slot=.sh false d:=by cases d <;> rfl
@[simp] theorem aIA (ds:List D) (pa:Bool) (al:List Nat):(⟨.lst ds,true,pa,al⟩:Vl).slot=.own pa ds:=id rfl
@[simp] theorem dU (i:Nat) (d:D):Sl.val i (.sh false d)=.ok (.cl d):=id rfl
@[simp] theorem aCq (i:Nat) (pa:Bool) (k:Int):Sl.val i (.sh pa (.int k))=.ok (.cl (.int k)):=by cases pa <;> rfl
@[simp] theorem aPu (i:Nat) (pa:Bool) (k:Str):Sl.val i (.sh pa (.str k))=.ok (.cl (.str k)):=by cases pa <;> rfl
@[simp] theorem aQu (i:Nat) (pa:Bool) (k:Bool):Sl.val i (.sh pa (.bl k))=.ok (.cl (.bl k)):=by cases pa <;> rfl
@[simp] theorem aPv (i:Nat) (pa:Bool):Sl.val i (.sh pa .non)=.ok (.cl .non):=by cases pa <;> rfl
@[simp] theorem aIB (i:Nat) (ds:List D):Sl.val i (.sh true (.lst ds))=.ok ⟨.lst ds,false,true,[]⟩:=id rfl
theorem hU(i:Nat)(pa:Bool){d:D}(h:noL d=true):Sl.val i (.sh pa d)=.ok (.cl d):=by unfold Sl.val;simp[h]
@[simp] theorem aCr (i:Nat) (pa:Bool) (ds:List D):Sl.val i (.own pa ds)=.ok ⟨.lst ds,false,pa,[i]⟩:=id rfl
@[simp] theorem aCs (Z:Sg) (v:Vl) (i:Nat):cN Z v (.n i)=.ok (Z.set i v.slot):=id rfl
@[simp] theorem jC (Z:Sg):freeze Z []=Z:=id rfl
@[simp] theorem aGu (b:Bool):jL (.cl (.bl b))=.ok b:=id rfl
@[simp] theorem aBe (args:List Vl) (d:D):iW args (d,false,false)=.cl d:=id rfl
@[simp] theorem aQv (args:List Vl) (ds:List D):iW args (.lst ds,true,false)=⟨.lst ds,true,false,[]⟩:=id rfl
@[simp] theorem aLY (a b:D):dJ .Eq a b=eqD a b:=id rfl
@[simp] theorem aGv (a b:D):dJ .NotEq a b=(eqD a b).map (!·):=id rfl
@[simp] theorem aQw (a b:Int):dJ .Lt (.int a) (.int b)=some (decide (a<b)):=id rfl
@[simp] theorem aQx (a b:Int):dJ .Gt (.int a) (.int b)=some (decide (b<a)):=id rfl
@[simp] theorem aLZ (a b:Int):dJ .LtE (.int a) (.int b)=some (decide (a<=b)):=id rfl
@[simp] theorem aCt (a b:Int):eqD (.int a) (.int b)=some (a==b):=id rfl
@[simp] theorem aIC (a b:Str):eqD (.str a) (.str b)=some (a==b):=id rfl
@[simp] theorem aQy (a b:Bool):eqD (.bl a) (.bl b)=some (a==b):=id rfl
@[simp] theorem aPw (P:Pg) (k:Int):isI [.tInt] P (.int k)=some true:=id rfl
@[simp] theorem aON (P:Pg) (k:Int):isI [.tBool] P (.int k)=some false:=id rfl
@[simp] theorem aPx (P:Pg) (k:Str):isI [.tStr] P (.str k)=some true:=id rfl
@[simp] theorem aPy (P:Pg) (k:List D):isI [.tTuple] P (.tup k)=some true:=id rfl
@[simp] theorem aPz (P:Pg) (k:List D):isI [.tList] P (.lst k)=some true:=id rfl
@[simp] theorem aQz (P:Pg) (k:Bool):isI [.tBool] P (.bl k)=some true:=id rfl
@[simp] theorem add_int (i j:Int):opD .Add (.cl (.int i)) (.cl (.int j))=.ok (.cl (.int (i+j))):=id rfl
@[simp] theorem sub_int (i j:Int):opD .Sub (.cl (.int i)) (.cl (.int j))=.ok (.cl (.int (i-j))):=id rfl
theorem mul_int{i j:Int}(h:gH i j=true):opD .Mult (.cl (.int i)) (.cl (.int j))=.ok (.cl (.int (i*j))):=by show R.iff (gH i j) _=_;rw[h];rfl
theorem qB{i j:Int}(h:yM j=true):opD .FloorDiv (.cl (.int i)) (.cl (.int j))=.ok (.cl (.int (i / j))):=by show R.iff (yM j) _=_;rw[h];rfl
theorem aCu{i j:Int}(h:0<j):opD .Mod (.cl (.int i)) (.cl (.int j))=.ok (.cl (.int (i % j))):=by show R.iff (decide (0<j)) _=_;rw[Am h];rfl
@[simp] theorem kR (ds:List D) (fr pa:Bool) (al:List Nat):biD .len [⟨.lst ds,fr,pa,al⟩]=.ok (.cl (.int ds.length)):=id rfl
@[simp] theorem kT (ds:List D):biD .len [.cl (.tup ds)]=.ok (.cl (.int ds.length)):=id rfl
@[simp] theorem aOO (ds:List D):biD .len [.cl (.lst ds)]=.ok (.cl (.int ds.length)):=id rfl
end Hp
namespace HpS
open Hp PySem
section
variable {P:Pg} {W:Caller} {Z Z':Sg}
theorem cs{s:S}{ss:Ss}{o:O}(h:ex P W Z s=.next Z')(r:exs P W Z' ss=o):exs P W Z (.cons s ss)=o:=by rw[dZ,h,aLR,r]
theorem aT{i:Nat}{e:E}{d:D}(h:ev P W Z e=.ok (.cl d)):ex P W Z (.set (.n i) e)=.next (Z.set i (.sh false d)):=by rw[jU,h,cA,uX,jC,aCs,cA,hG]
theorem bE{e:E}{ss:Ss}{v:Vl}(h:ev P W Z e=.ok v):exs P W Z (.cons (.ret e) ss)=.ret v:=by rw[dZ,wV,h];rfl
theorem bJ{c:E}{a:Ss}(h:tst P W Z c=.ok false):ex P W Z (.iff c a .nil)=.next Z:=by rw[jV,h];rfl
theorem gK{c:E}{a b ss:Ss}{v:Vl}(h:tst P W Z c=.ok true)(r:exs P W Z a=.ret v):exs P W Z (.cons (.iff c a b) ss)=.ret v:=by rw[dZ,jV,h,cA,if_pos rfl,r];rfl
theorem aZ{a b:E}{x y z:Vl}(h:ev P W Z a=.ok x)(k:ev P W Z b=.ok y)(e:eT x y=.ok z):ev P W Z (.idx a b)=.ok z:=by rw[sC,h,aA,k,aA,e]
theorem cI{a:E}{w x:Str}{b:Bool}(h:ev P W Z a=.ok (.cl (.str w)))(q:(w==x)=b):tst P W Z (.cmp .Eq a (.c (.str x)))=.ok b:=by rw[aCm,h,aA,aC,aA,jB,jB,aLY,aIC,q]
theorem bX{f:Nat}{a b c:E}{x y z:Vl}{d:D}(h1:ev P W Z a=.ok x)(h2:ev P W Z b=.ok y)(q:ev P W Z c=.ok z)(I:W f [x.d,y.d,z.d]=.ok (d,false,false)):ev P W Z (.call f (.cons a (.cons b (.cons c .nil))))=.ok (.cl d):=by simp_all
theorem v0_{d:D}{r:Sg}(h:noL d=true):ev P W (.sh true d::r) (.v 0)=.ok (.cl d):=hU 0 true h
theorem v1_{s:Sl}{d:D}{r:Sg}(h:noL d=true):ev P W (s::.sh true d::r) (.v 1)=.ok (.cl d):=hU 1 true h
theorem v2_{s t:Sl}{d:D}{r:Sg}(h:noL d=true):ev P W (s::t::.sh true d::r) (.v 2)=.ok (.cl d):=hU 2 true h
theorem uY{t a b:E}{k:Bool}{v:Vl}(h:tst P W Z t=.ok k)(r:(if k then ev P W Z a else ev P W Z b)=.ok v):ev P W Z (.ife t a b)=.ok v:=by rw[aLU,h,aA,r]
theorem aMa{a:E}{k:Bool}(h:ev P W Z a=.ok (.cl (.bl k))):ev P W Z (.nt a)=.ok (.cl (.bl !k)):=by rw[aOJ,h];rfl
theorem aGw{a b:E}{x y:Bool}(h1:ev P W Z a=.ok (.cl (.bl x)))(h2:ev P W Z b=.ok (.cl (.bl y))):ev P W Z (.an a b)=.ok (.cl (.bl (x&&y))):=by rw[aOK,h1,aA];cases x;rfl;exact h2
theorem aOP{a b:E}{x y:Bool}(h1:ev P W Z a=.ok (.cl (.bl x)))(h2:ev P W Z b=.ok (.cl (.bl y))):ev P W Z (.orr a b)=.ok (.cl (.bl (x||y))):=by rw[aLT,h1,aA];cases x;exact h2;rfl
theorem dI{o:Operator}{a b:E}{x y z:Vl}(h:ev P W Z a=.ok x)(k:ev P W Z b=.ok y)(e:opD o x y=.ok z):ev P W Z (.op o a b)=.ok z:=by rw[aOI,h,aA,k,aA,e]
theorem nB{o:CmpOp}{a b:E}{x y:Vl}{k:Bool}(h:ev P W Z a=.ok x)(g:ev P W Z b=.ok y)(e:dJ o x.d y.d=some k):ev P W Z (.cmp o a b)=.ok (.cl (.bl k)):=by rw[aLV,h,aA,g,aA,e]
theorem dA{b:Bi}{a:E}{x z:Vl}(h:ev P W Z a=.ok x)(e:biD b [x]=.ok z):ev P W Z (.bi b (.cons a .nil))=.ok z:=by simp_all
end
end HpS
namespace Hp
open PySem (Str Operator CmpOp)
section
variable {P:Pg} {W:Caller} {Z:Sg}
@[simp] theorem aPA (a l:E):ev P W Z (.sli a (.cons l .nil) .nil)=(ev P W Z a >>= λx=>ev P W Z l >>= λl=>match l.d with|.int l=>.iff (aM l) (eU x (some l) none)|_=>.bad):=by
 show(ev P W Z a >>= λx=>evs P W Z (.cons l .nil) >>= λl=>evs P W Z .nil >>= λh=>_)=_;cases ev P W Z a with
 | ok x=>
  show((ev P W Z l >>= λx=>evs P W Z .nil >>= λxs=>R.ok (x::xs)) >>= λl=>_)=(ev P W Z l >>= λl=>_)
  cases ev P W Z l <;> rfl
 | bad=>rfl
@[simp] theorem aPB (a l h:E):ev P W Z (.sli a (.cons l .nil) (.cons h .nil))=(ev P W Z a >>= λx=>ev P W Z l >>= λl=>ev P W Z h >>= λh=>match l.d,h.d with|.int l,.int h=>.iff (aM l&&aM h) (eU x (some l) (some h))|_,_=>.bad):=by
 show(ev P W Z a >>= λx=>evs P W Z (.cons l .nil) >>= λl=>evs P W Z (.cons h .nil) >>= λh=>_)=_;cases ev P W Z a with
 | ok x=>
  show((ev P W Z l >>= λx=>evs P W Z .nil >>= λxs=>R.ok (x::xs)) >>= λl=>_)=(ev P W Z l >>= λl=>_)
  cases ev P W Z l with
  | ok l=>
   show((ev P W Z h >>= λx=>evs P W Z .nil >>= λxs=>R.ok (x::xs)) >>= λh=>_)=(ev P W Z h >>= λh=>_)
   cases ev P W Z h <;> rfl
  | bad=>rfl
 | bad=>rfl
end
theorem eR:∀is:List Int,noLs (is.map D.int)=true
 | []=>rfl|i::is=>by simp[noLs,noL,eR is]
theorem gA{n k:Nat}(h:k<n):ixN n (k:Int)=some k:=by unfold ixN;rw[if_pos (Int.natCast_nonneg k),if_pos (by omega)];simp
theorem aID{v:Vl}{is:List Int}{k:Nat}(I:v.d=.lst (is.map D.int))(h:k<is.length):eT v (.cl (.int (k:Int)))=.ok (.cl (.int (is.getD k 0))):=by
 unfold eT;rw[I];have q:(is.map D.int).length=is.length:=by simp
 have e:(is.map D.int)[k]? = some (.int (is.getD k 0)):=by simp[h]
 simp only[jB,q,gA h,e,Vl.sub,noL,if_true]
noncomputable def aCv:Fn:=⟨2,5,
 (.cons (.set (.n 2) (.lst .nil))
 (.cons (.set (.n 3) (.op .Add (.op .Mod (.v 0) (.c (.int 2147483647))) (.c (.int 48271))))
 (.cons (.for (.n 4) (.rng (.c (.int 0)) (.op .Add (.v 1) (.c (.int 1))))
  (.cons (.set (.n 3) (.op .Mod (.op .Add (.op .Add (.op .Mult (.v 3) (.v 3)) (.op .Mult (.c (.int 48271)) (.v 3))) (.v 4)) (.c (.int 2147483647))))
  (.cons (.app 2 (.v 3))
  .nil)))
 (.cons (.ret (.sli (.v 2) (.cons (.c (.int 1)) .nil) .nil))
 .nil))))⟩
noncomputable def num(c:Int):Nat->Int
 | 0=>c % 2147483647+48271|k+1=>(num c k*num c k+48271*num c k+(k:Int)) % 2147483647
theorem aIE(c:Int):∀k,0<=num c k/\num c k<2147531918
 | 0=>by unfold num;omega|k+1=>by unfold num;omega
noncomputable def pR(c:Int)(m:Nat):List Int:=(Ar m).map λi=>num c (i+2)
theorem iN(c:Int)(m:Nat):(pR c m).length=m:=by simp[pR]
theorem gD{P:Pg}{f:Nat}(hF:P.fns[f]? = some aCv)(n:Nat)(c:Int){m:Nat}(hm:m<=1000):call P (n+1) f [.int c,.int m]=.ok (.lst ((pR c m).map D.int),true,false):=by
 have mm:∀i:Int,opD .Mod (.cl (.int i)) (.cl (.int 2147483647))=.ok (.cl (.int (i % 2147483647))):=λi=>aCu (by decide);have hw:walk P (call P n) [.sh true (.int c),.sh true (.int m),.own false [],.sh false (.int (num c 0)),.dead] (.rng (.c (.int 0)) (.op .Add (.v 1) (.c (.int 1))))=.ok ((Ar (m+1)).map λ(k:Nat)=>Vl.cl (.int (k:Int)),[]):=by refine cH (v:=.cl (.int ((m+1:Nat):Int))) ?_ rfl (by omega);simp[cX]
 obtain⟨Z',e,hI⟩:=cS (t:=.n 4) (b:=(.cons (.set (.n 3) (.op .Mod (.op .Add (.op .Add (.op .Mult (.v 3) (.v 3)) (.op .Mult (.c (.int 48271)) (.v 3))) (.v 4)) (.c (.int 2147483647))))
  (.cons (.app 2 (.v 3))
  .nil)))
   (λk Z=>∃s4,Z=[.sh true (.int c),.sh true (.int m),.own false ((Ar k).map λi=>.int (num c (i+1))),.sh false (.int (num c k)),s4]) hw ⟨_,rfl⟩ (λk hk Z q0=>by
    obtain⟨s4,rfl⟩:=q0;have q1:k<m+1:=by simpa using hk
    obtain⟨r0,r1⟩:=aIE c k;have m1:opD .Mult (.cl (.int (num c k))) (.cl (.int (num c k)))=.ok (.cl (.int (num c k*num c k))):=mul_int (by
     simp only[gH,BG,bA,AR];right;omega)
    have m2:opD .Mult (.cl (.int 48271)) (.cl (.int (num c k)))=.ok (.cl (.int (48271*num c k))):=mul_int (by
     simp only[gH,BG,bA,AR];right;omega)
    have I:k+1<=lim:=by unfold lim;omega
    have W:(Ar (k+1)).map (λi=>D.int (num c (i+1)))=(Ar k).map (λi=>D.int (num c (i+1)))++[.int (num c (k+1))]:=by rw[Hv];simp
    refine⟨[.sh true (.int c),.sh true (.int m),.own false ((Ar k).map λi=>.int (num c (i+1))),.sh false (.int (num c k)),.sh false (.int k)],
     [.sh true (.int c),.sh true (.int m),.own false ((Ar (k+1)).map λi=>.int (num c (i+1))),.sh false (.int (num c (k+1))),.sh false (.int k)],?_,?_,⟨_,rfl⟩⟩
    simp;rw[W];simp[cX,m1,m2,mm,put,lH,I,num])
 obtain⟨s4,rfl⟩:=hI;have et:((Ar (m+1)).map λ(k:Nat)=>Vl.cl (.int (k:Int))).length=m+1:=by simp
 rw[et] at e;have U:noLs ((Ar (m+1)).map λi=>D.int (num c (i+1)))=true:=by
  have:(Ar (m+1)).map (λi=>D.int (num c (i+1)))=((Ar (m+1)).map λi=>num c (i+1)).map D.int:=by simp
  rw[this];exact eR _
 have q:cut ((Ar (m+1)).map λi=>D.int (num c (i+1))) (some 1) none=(pR c m).map D.int:=by
  unfold cut sIx;simp only[lM,AS];have e1:min (1:Int).toNat (m+1)=1:=by simp
  rw[if_neg (by decide),e1,Bz (by simp),Cq];simp[pR]
 have s1:aM 1=true:=by decide
 refine aH hF rfl (v:=⟨.lst ((pR c m).map D.int),true,false,[]⟩) ?_;have e:ex P (call P n) [.sh true (.int c),.sh true (.int m),.own false [],.sh false (.int (c % 2147483647+48271)),.dead] _=_:=e;simp[aCv,cX,mm,yO,dS,bT,e,s1,eU,U,q]
end Hp
namespace HpS
open Hp PySem
inductive Sm where
 | num (n:Int)|box (k:Nat)|aft (k:Nat)|two (p:Bool) (a b:Sm)
noncomputable def aDZ(p:Bool):Str:=if p then "plus" else "minus"
noncomputable def Sm.d:Sm->D
 | .num n=>.tup [.str "number",.int n]|.box k=>.tup [.str "box",.int k]|.aft k=>.tup [.str "after",.int k]|.two p a b=>.tup [.str (aDZ p),a.d,b.d]
noncomputable def Sm.sz:Sm->Nat
 | .two _ a b=>1+a.sz+b.sz|_=>1
noncomputable def Sm.val(ah be:List Int):Sm->Int
 | .num n=>n|.box k=>ah.getD k 0|.aft k=>be.getD k 0|.two p a b=>if p then a.val ah be+b.val ah be else a.val ah be-b.val ah be
noncomputable def Sm.wf(c:Nat)(pl:Bool):Sm->Prop
 | .num n=>0<=n/\n<=99|.box k=>k<c|.aft k=>k<c/\pl=false|.two _ a b=>a.wf c pl/\b.wf c pl
theorem Sm.noL:∀s:Sm,Hp.noL s.d=true
 | .num _=>rfl|.box _=>rfl|.aft _=>rfl|.two _ a b=>by simp[Sm.d,Hp.noL,noLs,a.noL,b.noL]
theorem cK{v:Vl}{d:D}(h:Hp.noL d=true):Vl.sub v d=.cl d:=by unfold Vl.sub;rw[if_pos h]
theorem gL(x:D)(r:List D)(h:Hp.noL x=true):eT (.cl (.tup (x::r))) (.cl (.int 0))=.ok (.cl x):=by have:ixN (x::r).length 0=some 0:=gA (by simp);unfold eT;simp only[jB,this,gZ,cK h]
theorem gM(x y:D)(r:List D)(h:Hp.noL y=true):eT (.cl (.tup (x::y::r))) (.cl (.int 1))=.ok (.cl y):=by have:ixN (x::y::r).length 1=some 1:=gA (by simp);unfold eT;simp only[jB,this,gZ,gS,cK h]
theorem aBf(x y z:D)(r:List D)(h:Hp.noL z=true):eT (.cl (.tup (x::y::z::r))) (.cl (.int 2))=.ok (.cl z):=by have:ixN (x::y::z::r).length 2=some 2:=gA (by simp);unfold eT;simp only[jB,this,gZ,gS,cK h]
theorem nC{is:List Int}{k:Nat}(h:k<is.length):eT (.cl (aS is)) (.cl (.int (k:Int)))=.ok (.cl (.int (is.getD k 0))):=by
 unfold eT aS;have q:(is.map D.int).length=is.length:=by simp
 have e:(is.map D.int)[k]? = some (.int (is.getD k 0)):=by simp[h]
 simp only[jB,q,gA h,e,Vl.sub,Hp.noL,if_true]
noncomputable def aGx(f:Nat):Fn:=⟨3,6,
 (.cons (.set (.n 3) (.idx (.v 0) (.c (.int 0))))
 (.cons (.iff (.cmp .Eq (.v 3) (.c (.str "number")))
  (.cons (.ret (.idx (.v 0) (.c (.int 1))))
  .nil)
  .nil)
 (.cons (.iff (.cmp .Eq (.v 3) (.c (.str "box")))
  (.cons (.ret (.idx (.v 1) (.idx (.v 0) (.c (.int 1)))))
  .nil)
  .nil)
 (.cons (.iff (.cmp .Eq (.v 3) (.c (.str "after")))
  (.cons (.ret (.idx (.v 2) (.idx (.v 0) (.c (.int 1)))))
  .nil)
  .nil)
 (.cons (.set (.n 4) (.call f (.cons (.idx (.v 0) (.c (.int 1))) (.cons (.v 1) (.cons (.v 2) .nil)))))
 (.cons (.set (.n 5) (.call f (.cons (.idx (.v 0) (.c (.int 2))) (.cons (.v 1) (.cons (.v 2) .nil)))))
 (.cons (.ret (.ife (.cmp .Eq (.v 3) (.c (.str "plus"))) (.op .Add (.v 4) (.v 5)) (.op .Sub (.v 4) (.v 5))))
 .nil)))))))⟩
theorem aQA:(("number" : Str) == "number")=true:=by decide +kernel
theorem aQB:(("box" : Str) == "number")=false:=by decide +kernel
theorem aQC:(("box" : Str) == "box")=true:=by decide +kernel
theorem aQD:(("after" : Str) == "number")=false:=by decide +kernel
theorem aQE:(("after" : Str) == "box")=false:=by decide +kernel
theorem aQF:(("after" : Str) == "after")=true:=by decide +kernel
theorem aQG:∀p,(aDZ p == "number")=false:=by decide +kernel
theorem aOQ:∀p,(aDZ p == "box")=false:=by decide +kernel
theorem aOR:∀p,(aDZ p == "after")=false:=by decide +kernel
theorem aQH:∀p,(aDZ p == "plus")=p:=by decide +kernel
theorem jY{P:Pg}{f:Nat}(I:P.fns[f]? = some (aGx f)){U W:List Int}{bd:D}{c:Nat}{pl:Bool}(ha:U.length=c)(hb:W.length=c)(hn:Hp.noL bd=true)(q:pl=false->bd=aS W) :
 ∀(s:Sm) (n:Nat),s.wf c pl->call P (n+s.sz) f [s.d,aS U,bd]=.ok (.int (s.val U W),false,false)
 | .num k,n,w=>by exact aH I rfl (v:=.cl (.int k)) (cs (aT (aZ (v0_ rfl) rfl (gL _ _ rfl))) (gK (cI rfl aQA) (bE (aZ (v0_ rfl) rfl (gM _ _ _ rfl)))))|.box k,n,w=>by have w:k<c:=w;exact aH I rfl (v:=.cl (.int (U.getD k 0))) (cs (aT (aZ (v0_ rfl) rfl (gL _ _ rfl))) (cs (bJ (cI rfl aQB)) (gK (cI rfl aQC) (bE (aZ (v1_ (aU _)) (aZ (v0_ rfl) rfl (gM _ _ _ rfl)) (nC (by omega)))))))|.aft k,n,w=>by obtain⟨w1,w2⟩:k<c/\pl=false:=w;have e:=q w2;subst e;exact aH I rfl (v:=.cl (.int (W.getD k 0))) (cs (aT (aZ (v0_ rfl) rfl (gL _ _ rfl))) (cs (bJ (cI rfl aQD)) (cs (bJ (cI rfl aQE)) (gK (cI rfl aQF) (bE (aZ (v2_ (aU _)) (aZ (v0_ rfl) rfl (gM _ _ _ rfl)) (nC (by omega))))))))|.two p a b,n,w=>by
  obtain⟨w1,w2⟩:a.wf c pl/\b.wf c pl:=w;have c1:=jY I ha hb hn q a (n+b.sz) w1;rw[show n+b.sz+a.sz=n+a.sz+b.sz by omega] at c1;have e:n+Sm.sz (.two p a b)=n+a.sz+b.sz+1:=by show n+(1+a.sz+b.sz)=_;omega
  rw[e];refine aH I rfl (v:=.cl (.int (Sm.val U W (.two p a b)))) ?_;refine cs (aT (aZ (v0_ (Sm.noL _)) rfl (gL _ _ rfl))) (cs (bJ (cI rfl (aQG p))) (cs (bJ (cI rfl (aOQ p))) (cs (bJ (cI rfl (aOR p))) (cs (aT (bX (aZ (v0_ (Sm.noL _)) rfl (gM _ _ _ a.noL)) (v1_ (aU _)) (v2_ hn) c1)) (cs (aT (bX (aZ (v0_ (Sm.noL _)) rfl (aBf _ _ _ _ b.noL)) (v1_ (aU _)) (v2_ hn) (jY I ha hb hn q b (n+a.sz) w2))) (bE (uY (cI rfl (aQH p)) ?_)))))));cases p <;> rfl
inductive Cn where
 | yes|cmp (i:Bool) (a b:Sm)|nt (c:Cn)|two (p:Bool) (a b:Cn)
noncomputable def wZ(i:Bool):Str:=if i then "is" else "less"
noncomputable def sK(p:Bool):Str:=if p then "both" else "either"
noncomputable def Cn.d:Cn->D
 | .yes=>.tup [.str "yes"]|.cmp i a b=>.tup [.str (wZ i),a.d,b.d]|.nt c=>.tup [.str "not",c.d]|.two p a b=>.tup [.str (sK p),a.d,b.d]
noncomputable def Cn.sz:Cn->Nat
 | .yes=>1|.cmp _ a b=>1+a.sz+b.sz|.nt c=>1+c.sz|.two _ a b=>1+a.sz+b.sz
noncomputable def Cn.hold(ah be:List Int):Cn->Bool
 | .yes=>true|.cmp i a b=>if i then a.val ah be==b.val ah be else decide (a.val ah be<b.val ah be)|.nt c=>!c.hold ah be|.two p a b=>if p then a.hold ah be&&b.hold ah be else a.hold ah be||b.hold ah be
noncomputable def Cn.wf(c:Nat)(pl:Bool):Cn->Prop
 | .yes=>True|.cmp _ a b=>a.wf c pl/\b.wf c pl|.nt x=>x.wf c pl|.two _ a b=>a.wf c pl/\b.wf c pl
theorem Cn.noL:∀s:Cn,Hp.noL s.d=true
 | .yes=>rfl|.cmp _ a b=>by simp[Cn.d,Hp.noL,noLs,a.noL,b.noL]|.nt c=>by simp[Cn.d,Hp.noL,noLs,c.noL]|.two _ a b=>by simp[Cn.d,Hp.noL,noLs,a.noL,b.noL]
noncomputable def aMb(v f:Nat):Fn:=⟨3,6,
 (.cons (.set (.n 3) (.idx (.v 0) (.c (.int 0))))
 (.cons (.iff (.cmp .Eq (.v 3) (.c (.str "yes")))
  (.cons (.ret (.c (.bl true)))
  .nil)
  .nil)
 (.cons (.iff (.cmp .Eq (.v 3) (.c (.str "not")))
  (.cons (.ret (.nt (.call f (.cons (.idx (.v 0) (.c (.int 1))) (.cons (.v 1) (.cons (.v 2) .nil))))))
  .nil)
  .nil)
 (.cons (.iff (.cmp .Eq (.v 3) (.c (.str "both")))
  (.cons (.ret (.an (.call f (.cons (.idx (.v 0) (.c (.int 1))) (.cons (.v 1) (.cons (.v 2) .nil)))) (.call f (.cons (.idx (.v 0) (.c (.int 2))) (.cons (.v 1) (.cons (.v 2) .nil))))))
  .nil)
  .nil)
 (.cons (.iff (.cmp .Eq (.v 3) (.c (.str "either")))
  (.cons (.ret (.orr (.call f (.cons (.idx (.v 0) (.c (.int 1))) (.cons (.v 1) (.cons (.v 2) .nil)))) (.call f (.cons (.idx (.v 0) (.c (.int 2))) (.cons (.v 1) (.cons (.v 2) .nil))))))
  .nil)
  .nil)
 (.cons (.set (.n 4) (.call v (.cons (.idx (.v 0) (.c (.int 1))) (.cons (.v 1) (.cons (.v 2) .nil)))))
 (.cons (.set (.n 5) (.call v (.cons (.idx (.v 0) (.c (.int 2))) (.cons (.v 1) (.cons (.v 2) .nil)))))
 (.cons (.ret (.ife (.cmp .Eq (.v 3) (.c (.str "is"))) (.cmp .Eq (.v 4) (.v 5)) (.cmp .Lt (.v 4) (.v 5))))
 .nil))))))))⟩
theorem aQI:(("yes" : Str) == "yes")=true:=by grind
theorem aQJ:(("not" : Str) == "yes")=false:=by decide +kernel
theorem aQK:(("not" : Str) == "not")=true:=by grind
theorem aQL:∀p,(wZ p == "yes")=false:=by decide +kernel
theorem aQM:∀p,(wZ p == "not")=false:=by decide +kernel
theorem aQN:∀p,(wZ p == "both")=false:=by decide +kernel
theorem aQO:∀p,(wZ p == "either")=false:=by decide +kernel
theorem aQP:∀p,(wZ p == "is")=p:=by decide +kernel
theorem aQQ:∀p,(sK p == "yes")=false:=by decide +kernel
theorem aQR:∀p,(sK p == "not")=false:=by decide +kernel
theorem aOS:∀p,(sK p == "both")=p:=by decide +kernel
theorem aQS:∀p,(sK p == "either")=!p:=by decide +kernel
theorem Sm.sz_pos:∀s:Sm,1<=s.sz
 | .num _=>Ap _|.box _=>Ap _|.aft _=>Ap _
 | .two _ a b=>by show 1<=1+a.sz+b.sz;omega
theorem Cn.sz_pos:∀s:Cn,1<=s.sz
 | .yes=>Ap _|.cmp _ a b=>by show 1<=1+a.sz+b.sz;omega|.nt c=>by show 1<=1+c.sz;omega|.two _ a b=>by show 1<=1+a.sz+b.sz;omega
theorem nD{P:Pg}{v f:Nat}(hV:P.fns[v]? = some (aGx v))(U:P.fns[f]? = some (aMb v f)){W be:List Int}{bd:D}{c:Nat}{pl:Bool}(ha:W.length=c)(hb:be.length=c)(q:Hp.noL bd=true)(I:pl=false->bd=aS be) :
 ∀(s:Cn) (n:Nat),s.wf c pl->call P (n+s.sz) f [s.d,aS W,bd]=.ok (.bl (s.hold W be),false,false)
 | .yes,n,w=>by exact aH U rfl (v:=.cl (.bl true)) (cs (aT (aZ (v0_ rfl) rfl (gL _ _ rfl))) (gK (cI rfl aQI) (bE rfl)))|.cmp i a b,n,w=>by
  obtain⟨w1,w2⟩:a.wf c pl/\b.wf c pl:=w;have c1:=jY hV ha hb q I a (n+b.sz) w1;rw[show n+b.sz+a.sz=n+a.sz+b.sz by omega] at c1;have e:n+Cn.sz (.cmp i a b)=n+a.sz+b.sz+1:=by show n+(1+a.sz+b.sz)=_;omega
  rw[e];refine aH U rfl (v:=.cl (.bl (Cn.hold W be (.cmp i a b)))) ?_;refine cs (aT (aZ (v0_ (Cn.noL _)) rfl (gL _ _ rfl))) (cs (bJ (cI rfl (aQL i))) (cs (bJ (cI rfl (aQM i))) (cs (bJ (cI rfl (aQN i))) (cs (bJ (cI rfl (aQO i))) (cs (aT (bX (aZ (v0_ (Cn.noL _)) rfl (gM _ _ _ a.noL)) (v1_ (aU _)) (v2_ q) c1)) (cs (aT (bX (aZ (v0_ (Cn.noL _)) rfl (aBf _ _ _ _ b.noL)) (v1_ (aU _)) (v2_ q) (jY hV ha hb q I b (n+a.sz) w2))) (bE (uY (cI rfl (aQP i)) ?_))))))));cases i <;> rfl
 | .nt x,n,w=>by
  have e:n+Cn.sz (.nt x)=n+x.sz+1:=by show n+(1+x.sz)=_;omega
  rw[e];exact aH U rfl (v:=.cl (.bl (Cn.hold W be (.nt x)))) (cs (aT (aZ (v0_ (Cn.noL _)) rfl (gL _ _ rfl))) (cs (bJ (cI rfl aQJ)) (gK (cI rfl aQK) (bE (aMa (bX (aZ (v0_ (Cn.noL _)) rfl (gM _ _ _ x.noL)) (v1_ (aU _)) (v2_ q) (nD hV U ha hb q I x n w)))))))
 | .two p a b,n,w=>by
  obtain⟨w1,w2⟩:a.wf c pl/\b.wf c pl:=w;have c1:=nD hV U ha hb q I a (n+b.sz) w1;have c2:=nD hV U ha hb q I b (n+a.sz) w2;rw[show n+b.sz+a.sz=n+a.sz+b.sz by omega] at c1;have e:n+Cn.sz (.two p a b)=n+a.sz+b.sz+1:=by show n+(1+a.sz+b.sz)=_;omega
  rw[e];refine aH U rfl (v:=.cl (.bl (Cn.hold W be (.two p a b)))) ?_;refine cs (aT (aZ (v0_ (Cn.noL _)) rfl (gL _ _ rfl))) (cs (bJ (cI rfl (aQQ p))) (cs (bJ (cI rfl (aQR p))) ?_));cases p with
  | true=>exact gK (cI rfl (aOS true)) (bE (aGw (bX (aZ (v0_ (Cn.noL _)) rfl (gM _ _ _ a.noL)) (v1_ (aU _)) (v2_ q) c1) (bX (aZ (v0_ (Cn.noL _)) rfl (aBf _ _ _ _ b.noL)) (v1_ (aU _)) (v2_ q) c2)))|false=>exact cs (bJ (cI rfl (aOS false))) (gK (cI rfl (aQS false)) (bE (aOP (bX (aZ (v0_ (Cn.noL _)) rfl (gM _ _ _ a.noL)) (v1_ (aU _)) (v2_ q) c1) (bX (aZ (v0_ (Cn.noL _)) rfl (aBf _ _ _ _ b.noL)) (v1_ (aU _)) (v2_ q) c2))))
end HpS
namespace Hp
open PySem (Str)
theorem bI{α:Type}{g:α->D}(q:∀t,noL (g t)=true):∀ts:List α,noLs (ts.map g)=true
 | []=>rfl|t::ts=>by rw[mC,noLs,q t,bI q ts];rfl
theorem jZ{α:Type}{F:Vl->R (Option Vl)}{f:α->Vl}{g:α->D}{p:α->Bool}:∀{ts:List α},(∀t∈ts,F (f t)=.ok (if p t then some (.cl (g t)) else none))->fS F (ts.map f)=.ok ((ts.filter p).map λt=>.cl (g t))
 | [],_=>rfl|t::ts,h=>by
  show(F (f t) >>= λy=>fS F (ts.map f) >>= λys=>(match y with|some y=>R.ok (y::ys)|none=>R.ok ys))=_;rw[(h t A3),(jZ λy I=>h y (Au _ I))];cases q:p t with
  | true=>rw[EY q];rfl|false=>rw[EZ (by rw[q];grind)];rfl
theorem xA{α:Type}{g:α->D}(q:∀t,noL (g t)=true){k:Nat}{caps al:List Nat}(ts:List α):fV k caps al (ts.map λt=>Vl.cl (g t))=⟨.lst (ts.map g),true,false,[]⟩:=by
 have e:(ts.map λt=>Vl.cl (g t)).map (·.d)=ts.map g:=by rw[Aw];rfl
 rw[uW (by rw[e];exact bI q ts),e]
theorem eP{P:Pg}{W:Caller}{Z:Sg}{k:Nat}{caps al:List Nat}{T:T}{it:It}{elt:E}{α:Type}{ts:List α}(f:α->Vl)(g:α->D)(ng:∀t,noL (g t)=true)(hw:walk P W Z it=.ok (ts.map f,al))(U:ts.length<=lim)
 (I:∀t∈ts,∃q,cN (Al k .dead++caps.map λi=>((freeze Z al)[i]?).getD .dead) (f t) T=.ok q/\ev P W q elt=.ok (.cl (g t))):ev P W Z (.comp k caps T it .nil elt)=.ok ⟨.lst (ts.map g),true,false,[]⟩:=by
 rw[mX,hw,aA,jZ (g:=g) (p:=λ_=>true) λt ht=>by
  obtain⟨q,e1,e2⟩:=I t ht;simp_all]
 rw[aA,(FY.mpr λ_ _=>rfl),(Am (by rw[lM];exact U)),lK,xA ng]
theorem aMc{P:Pg}{W:Caller}{Z:Sg}{k:Nat}{caps al:List Nat}{T:T}{it:It}{c elt:E}{α:Type}{ts:List α}(f:α->Vl)(g:α->D)(p:α->Bool)(ng:∀t,noL (g t)=true)(hw:walk P W Z it=.ok (ts.map f,al))(hl:ts.length<=lim)
 (hb:∀t∈ts,∃q,cN (Al k .dead++caps.map λi=>((freeze Z al)[i]?).getD .dead) (f t) T=.ok q/\tst P W q c=.ok (p t)/\ev P W q elt=.ok (.cl (g t))):ev P W Z (.comp k caps T it (.cons c .nil) elt)=.ok ⟨.lst ((ts.filter p).map g),true,false,[]⟩:=by
 rw[mX,hw,aA,jZ (p:=p) λt ht=>by
  obtain⟨q,I,U,e3⟩:=hb t ht;rw[I];show(tsts P W q (.cons c .nil) >>= λk=>if k then (ev P W q elt >>= λy=>R.ok (some y)) else R.ok none)=_;rw[uV,U,aA];cases hp:p t with
  | true=>rw[if_pos rfl,aGp,aA,if_pos rfl,e3];rfl|false=>rfl]
 rw[aA,(Am (by rw[lM];grind)),lK,xA ng]
theorem cE{α:Type}{v:Vl}{g:α->D}(q:∀t,noL (g t)=true)(ts:List α):items v (ts.map g)=ts.map λt=>Vl.cl (g t):=by unfold items;rw[Aw];refine AX λt _=>?_;show Vl.sub v (g t)=_;unfold Vl.sub;rw[if_pos (q t)]
theorem jD{a b:D}(q:noL a=true)(I:noL b=true):noL (.tup [a,b])=true:=by simp[noL,noLs,q,I]
end Hp
namespace K67
open Hp
abbrev eC0:E:=.c (.int 0)
abbrev eC1:E:=.c (.int 1)
abbrev eC2:E:=.c (.int 2)
abbrev eC3:E:=.c (.int 3)
abbrev eC4:E:=.c (.int 4)
abbrev eC5:E:=.c (.int 5)
abbrev eC6:E:=.c (.int 6)
abbrev eC7:E:=.c (.int 7)
abbrev eC8:E:=.c (.int 8)
abbrev eC9:E:=.c (.int 9)
abbrev aMd:E:=.c (.int 10)
abbrev aEa:E:=.c (.int 11)
abbrev aQT:E:=.c (.int 12)
abbrev aMe:E:=.c (.int 14)
abbrev aQU:E:=.c (.int 15)
abbrev aOT:E:=.c (.int 24)
abbrev aQV:E:=.c (.int 40)
abbrev aQW:E:=.c (.int 60)
abbrev aQX:E:=.c (.int 99)
abbrev aMf:E:=.c (.int 1000)
abbrev aCw:E:=.c (.int 48271)
abbrev nE:E:=.c (.int 2147483647)
abbrev eV0:E:=.v 0
abbrev eV1:E:=.v 1
abbrev eV2:E:=.v 2
abbrev eV3:E:=.v 3
abbrev eV4:E:=.v 4
abbrev eV5:E:=.v 5
abbrev eV6:E:=.v 6
abbrev eV7:E:=.v 7
abbrev eV8:E:=.v 8
abbrev eV9:E:=.v 9
abbrev aIF:E:=.v 10
abbrev aGy:E:=.v 11
abbrev aQY:E:=.v 12
abbrev aQZ:E:=.v 13
abbrev eCn:E:=.c .non
abbrev eL1(a:E):Es:=.cons a .nil
abbrev eL2(a b:E):Es:=.cons a (.cons b .nil)
abbrev eL3(a b c:E):Es:=.cons a (.cons b (.cons c .nil))
abbrev eL4(a b c d:E):Es:=.cons a (.cons b (.cons c (.cons d .nil)))
abbrev eL5(a b c d e:E):Es:=.cons a (.cons b (.cons c (.cons d (.cons e .nil))))
noncomputable def f0:Hp.Fn:=⟨3,6,
 (.cons (.set (.n 3) (.idx eV0 eC0))
 (.cons (.iff (.cmp .Eq eV3 (.c (.str "number")))
  (.cons (.ret (.idx eV0 eC1))
  .nil)
  .nil)
 (.cons (.iff (.cmp .Eq eV3 (.c (.str "box")))
  (.cons (.ret (.idx eV1 (.idx eV0 eC1)))
  .nil)
  .nil)
 (.cons (.iff (.cmp .Eq eV3 (.c (.str "after")))
  (.cons (.ret (.idx eV2 (.idx eV0 eC1)))
  .nil)
  .nil)
 (.cons (.set (.n 4) (.call 0 (eL3 (.idx eV0 eC1) eV1 eV2)))
 (.cons (.set (.n 5) (.call 0 (eL3 (.idx eV0 eC2) eV1 eV2)))
 (.cons (.ret (.ife (.cmp .Eq eV3 (.c (.str "plus"))) (.op .Add eV4 eV5) (.op .Sub eV4 eV5)))
 .nil)))))))⟩
noncomputable def f1:Hp.Fn:=⟨3,6,
 (.cons (.set (.n 3) (.idx eV0 eC0))
 (.cons (.iff (.cmp .Eq eV3 (.c (.str "yes")))
  (.cons (.ret (.c (.bl true)))
  .nil)
  .nil)
 (.cons (.iff (.cmp .Eq eV3 (.c (.str "not")))
  (.cons (.ret (.nt (.call 1 (eL3 (.idx eV0 eC1) eV1 eV2))))
  .nil)
  .nil)
 (.cons (.iff (.cmp .Eq eV3 (.c (.str "both")))
  (.cons (.ret (.an (.call 1 (eL3 (.idx eV0 eC1) eV1 eV2)) (.call 1 (eL3 (.idx eV0 eC2) eV1 eV2))))
  .nil)
  .nil)
 (.cons (.iff (.cmp .Eq eV3 (.c (.str "either")))
  (.cons (.ret (.orr (.call 1 (eL3 (.idx eV0 eC1) eV1 eV2)) (.call 1 (eL3 (.idx eV0 eC2) eV1 eV2))))
  .nil)
  .nil)
 (.cons (.set (.n 4) (.call 0 (eL3 (.idx eV0 eC1) eV1 eV2)))
 (.cons (.set (.n 5) (.call 0 (eL3 (.idx eV0 eC2) eV1 eV2)))
 (.cons (.ret (.ife (.cmp .Eq eV3 (.c (.str "is"))) (.cmp .Eq eV4 eV5) (.cmp .Lt eV4 eV5)))
 .nil))))))))⟩
noncomputable def f2:Hp.Fn:=⟨3,7,
 (.cons (.iff (.nt (.call 1 (eL3 (.idx eV1 eC0) eV2 eCn)))
  (.cons (.ret eCn)
  .nil)
  .nil)
 (.cons (.set (.n 3) (.bi .list (eL1 eV2)))
 (.cons (.for (.t [4,5]) (.seq (.idx eV1 eC1))
  (.cons (.set (.n 6) (.call 0 (eL3 eV5 eV2 eCn)))
  (.cons (.iff (.nt (.cmp2 .LtE .LtE eC0 eV6 (.idx (.idx eV0 eV4) eC1)))
   (.cons (.ret eCn)
   .nil)
   .nil)
  (.cons (.setIx 3 eV4 eV6)
  .nil))))
 (.cons (.ret (.bi .tuple (eL1 eV3)))
 .nil))))⟩
noncomputable def f3:Hp.Fn:=⟨1,2,
 (.cons (.iff (.orr (.nt (.isi eV0 [.tList])) (.nt (.cmp2 .LtE .LtE eC1 (.bi .len (eL1 eV0)) eC5)))
  (.cons (.rse 4 false (eL1 (.c (.str "boxes are a list of one to five tuples (name, top)"))))
  .nil)
  .nil)
 (.cons (.set (.n 1) (.comp 1 [] (.n 0) (.seq eV0) .nil (.call 4 (eL1 eV0))))
 (.cons (.iff (.cmp .Lt (.numset (.comp 2 [] (.t [0,1]) (.seq eV1) .nil eV0)) (.bi .len (eL1 eV1)))
  (.cons (.rse 4 false (eL1 (.c (.str "no two boxes have the same name"))))
  .nil)
  .nil)
 (.cons (.iff (.cmp .Gt (.call 6 (eL1 eV1)) aOT)
  (.cons (.rse 2 false (eL1 (.c (.str "boxes have at most twenty-four stands"))))
  .nil)
  .nil)
 (.cons (.retv 1)
 .nil)))))⟩
noncomputable def f4:Hp.Fn:=⟨1,1,
 (.cons (.iff (.orr (.nt (.isi eV0 [.tTuple])) (.cmp .NotEq (.bi .len (eL1 eV0)) eC2))
  (.cons (.rse 4 false (eL1 (.c (.str "a box is a tuple (name, top)"))))
  .nil)
  .nil)
 (.cons (.iff (.nt (.call 5 (eL1 (.idx eV0 eC0))))
  (.cons (.rse 4 false (eL1 (.c (.str "a box's name is a text of one to eight small letters"))))
  .nil)
  .nil)
 (.cons (.iff (.nt (.call 15 (eL3 (.idx eV0 eC1) eC1 eC7)))
  (.cons (.rse 4 false (eL1 (.c (.str "a box's top is a whole number from 1 to 7"))))
  .nil)
  .nil)
 (.cons (.ret (.tup (eL2 (.idx eV0 eC0) (.idx eV0 eC1))))
 .nil))))⟩
noncomputable def f5:Hp.Fn:=⟨1,1,
 (.cons (.iff (.orr (.nt (.isi eV0 [.tStr])) (.nt (.cmp2 .LtE .LtE eC1 (.bi .len (eL1 eV0)) eC8)))
  (.cons (.ret (.c (.bl false)))
  .nil)
  .nil)
 (.cons (.ret (.bi .all (eL1 (.comp 1 [] (.n 0) (.seq eV0) .nil (.cmp .In eV0 (.c (.str "abcdefghijklmnopqrstuvwxyz")))))))
 .nil))⟩
noncomputable def f6:Hp.Fn:=⟨1,4,
 (.cons (.set (.n 1) eC1)
 (.cons (.for (.t [2,3]) (.seq eV0)
  (.cons (.set (.n 1) (.op .Mult eV1 (.op .Add eV3 eC1)))
  .nil))
 (.cons (.retv 1)
 .nil)))⟩
noncomputable def f7:Hp.Fn:=⟨1,6,
 (.cons (.set (.n 1) (.lst (eL1 (.tup .nil))))
 (.cons (.for (.t [2,3]) (.seq eV0)
  (.cons (.set (.n 4) (.lst .nil))
  (.cons (.for (.n 5) (.seq eV1)
   (.cons (.ext 4 (.comp 1 [5] (.n 0) (.rng eC0 (.op .Add eV3 eC1)) .nil (.op .Add eV1 (.tup (eL1 eV0)))))
   .nil))
  (.cons (.mov 1 4)
  .nil))))
 (.cons (.retv 1)
 .nil)))⟩
noncomputable def f8:Hp.Fn:=⟨2,2,
 (.cons (.iff (.orr (.nt (.isi eV1 [.tTuple])) (.cmp .NotEq (.bi .len (eL1 eV1)) (.bi .len (eL1 eV0))))
  (.cons (.ret (.c (.bl false)))
  .nil)
  .nil)
 (.cons (.ret (.bi .all (eL1 (.comp 2 [] (.t [0,1]) (.zip eV0 eV1) .nil (.call 15 (eL3 eV1 eC0 (.idx eV0 eC1)))))))
 .nil))⟩
noncomputable def f9:Hp.Fn:=⟨2,2,
 (.cons (.ret (.comp 1 [1] (.n 0) (.seq (.call 7 (eL1 eV0))) (eL1 (.call 1 (eL3 eV1 eV0 eCn))) eV0))
 .nil)⟩
noncomputable def f10:Hp.Fn:=⟨1,1,
 (.cons (.ret (.sset (.comp 1 [] (.n 0) (.seq (.call 11 (eL1 eV0))) (eL1 (.cmp .Eq (.idx eV0 eC0) (.c (.str "box")))) (.idx eV0 eC1))))
 .nil)⟩
noncomputable def f11:Hp.Fn:=⟨1,3,
 (.cons (.set (.n 1) (.lst (eL1 eV0)))
 (.cons (.for (.n 2) (.seq (.sli eV0 (eL1 eC1) .nil))
  (.cons (.iff (.isi eV2 [.tTuple])
   (.cons (.ext 1 (.call 11 (eL1 eV2)))
   .nil)
   .nil)
  .nil))
 (.cons (.retv 1)
 .nil)))⟩
noncomputable def f12:Hp.Fn:=⟨1,4,
 (.cons (.set (.n 1) (.call 10 (eL1 (.idx eV0 eC0))))
 (.cons (.for (.t [2,3]) (.seq (.idx eV0 eC1))
  (.cons (.ext 1 (.call 10 (eL1 eV3)))
  .nil))
 (.cons (.ret (.sset eV1))
 .nil)))⟩
noncomputable def f13:Hp.Fn:=⟨1,1,
 (.cons (.ret (.comp 2 [] (.t [0,1]) (.seq (.idx eV0 eC1)) .nil eV0))
 .nil)⟩
noncomputable def f14:Hp.Fn:=⟨1,1,
 (.cons (.ret (.an (.isi eV0 [.tInt]) (.nt (.isi eV0 [.tBool]))))
 .nil)⟩
noncomputable def f15:Hp.Fn:=⟨3,3,
 (.cons (.ret (.an (.call 14 (eL1 eV0)) (.cmp2 .LtE .LtE eV1 eV0 eV2)))
 .nil)⟩
noncomputable def f16:Hp.Fn:=⟨3,3,
 (.cons (.ex (.call 18 (eL5 eV0 (.c (.str "sum")) eV1 eV2 eC0)))
 (.cons (.retv 1)
 .nil))⟩
noncomputable def f17:Hp.Fn:=⟨3,3,
 (.cons (.ex (.call 18 (eL5 eV0 (.c (.str "cond")) eV1 eV2 eC0)))
 (.cons (.retv 1)
 .nil))⟩
noncomputable def f18:Hp.Fn:=⟨5,8,
 (.cons (.iff (.cmp .Eq eV4 aQV)
  (.cons (.rse 2 false (eL1 (.c (.str "a condition or sum has at most forty parts"))))
  .nil)
  .nil)
 (.cons (.set (.n 4) (.op .Add eV4 eC1))
 (.cons (.set (.n 5) (.call 19 (eL3 eV1 eV2 eV3)))
 (.cons (.for (.t [6,7]) (.zip eV5 (.sli eV2 (eL1 eC1) .nil))
  (.cons (.iff (.orr (.cmp .Eq eV6 (.c (.str "sum"))) (.cmp .Eq eV6 (.c (.str "cond"))))
   (.cons (.set (.n 4) (.call 18 (eL5 eV0 eV6 eV7 eV3 eV4)))
   .nil)
   (.cons (.ex (.call 20 (eL3 eV0 eV6 eV7)))
   .nil))
  .nil))
 (.cons (.retv 4)
 .nil)))))⟩
noncomputable def f19:Hp.Fn:=⟨3,5,
 (.cons (.iff (.orr (.nt (.isi eV1 [.tTuple])) (.orr (.cmp .Eq (.bi .len (eL1 eV1)) eC0) (.nt (.isi (.idx eV1 eC0) [.tStr]))))
  (.cons (.rse 1 false (eL1 (.c (.str "a part is a tuple that begins with a word"))))
  .nil)
  .nil)
 (.cons (.set (.n 3) (.idx eV1 eC0))
 (.cons (.set (.n 4) (.ife (.cmp .Eq eV0 (.c (.str "sum"))) (.tget 0 eV3) (.tget 1 eV3)))
 (.cons (.iff (.orr (.cmp .Is eV4 eCn) (.cmp .NotEq (.bi .len (eL1 eV1)) (.op .Add (.bi .len (eL1 eV4)) eC1)))
  (.cons (.rse 1 false (eL1 (.c (.str "a part has a word that is due there, and as many things as go with it"))))
  .nil)
  .nil)
 (.cons (.iff (.an eV2 (.cmp .Eq eV3 (.c (.str "after"))))
  (.cons (.rse 1 false (eL1 (.c (.str "no after stands where a plain one is due"))))
  .nil)
  .nil)
 (.cons (.retv 4)
 .nil))))))⟩
noncomputable def f20:Hp.Fn:=⟨3,4,
 (.cons (.set (.n 3) (.ife (.cmp .Eq eV1 (.c (.str "number"))) aQX (.op .Sub (.bi .len (eL1 eV0)) eC1)))
 (.cons (.iff (.nt (.call 15 (eL3 eV2 eC0 eV3)))
  (.cons (.rse 1 false (eL1 (.c (.str "a number is a whole one from 0 to 99, a box the number of one"))))
  .nil)
  .nil)
 .nil))⟩
noncomputable def f21:Hp.Fn:=⟨2,2,
 (.cons (.iff (.orr (.nt (.isi eV1 [.tList])) (.cmp .Gt (.bi .len (eL1 eV1)) eC8))
  (.cons (.rse 3 false (eL1 (.c (.str "a hand is a list of none to eight rows"))))
  .nil)
  .nil)
 (.cons (.ret (.comp 1 [0,1] (.n 0) (.seq eV1) .nil (.call 22 (eL3 eV1 eV0 (.bi .len (eL1 eV2))))))
 .nil))⟩
noncomputable def f22:Hp.Fn:=⟨3,3,
 (.cons (.iff (.orr (.nt (.isi eV1 [.tList])) (.nt (.cmp2 .LtE .LtE eC1 (.bi .len (eL1 eV1)) eC4)))
  (.cons (.rse 3 false (eL1 (.c (.str "a row is a list of one to four ways"))))
  .nil)
  .nil)
 (.cons (.ret (.comp 1 [0,2] (.n 0) (.seq eV1) .nil (.call 23 (eL3 eV1 eV0 eV2))))
 .nil))⟩
noncomputable def f23:Hp.Fn:=⟨3,3,
 (.cons (.iff (.orr (.nt (.isi eV1 [.tTuple])) (.cmp .NotEq (.bi .len (eL1 eV1)) eC3))
  (.cons (.rse 3 false (eL1 (.c (.str "a way is a tuple (guard, puts, next)"))))
  .nil)
  .nil)
 (.cons (.ex (.call 24 (eL2 eV0 (.idx eV1 eC0))))
 (.cons (.ex (.call 25 (eL2 eV0 (.idx eV1 eC1))))
 (.cons (.iff (.nt (.call 15 (eL3 (.idx eV1 eC2) eC0 eV2)))
  (.cons (.rse 3 false (eL1 (.c (.str "a way's next is a place of the hand"))))
  .nil)
  .nil)
 (.cons (.retv 1)
 .nil)))))⟩
noncomputable def f24:Hp.Fn:=⟨2,2,
 (.cons (.tryN (.cons (.ex (.call 17 (eL3 eV0 eV1 (.c (.bl true)))))
  .nil))
 .nil)⟩
noncomputable def f25:Hp.Fn:=⟨2,4,
 (.cons (.iff (.nt (.isi eV1 [.tTuple]))
  (.cons (.rse 3 false (eL1 (.c (.str "puts are a tuple"))))
  .nil)
  .nil)
 (.cons (.set (.n 2) eC0)
 (.cons (.for (.n 3) (.seq eV1)
  (.cons (.ex (.call 26 (eL3 eV0 eV3 eV2)))
  (.cons (.set (.n 2) (.op .Add (.idx eV3 eC0) eC1))
  .nil)))
 .nil)))⟩
noncomputable def f26:Hp.Fn:=⟨3,3,
 (.cons (.iff (.orr (.nt (.isi eV1 [.tTuple])) (.cmp .NotEq (.bi .len (eL1 eV1)) eC2))
  (.cons (.rse 3 false (eL1 (.c (.str "a put is a tuple (box, sum)"))))
  .nil)
  .nil)
 (.cons (.iff (.nt (.call 15 (eL3 (.idx eV1 eC0) eV2 (.op .Sub (.bi .len (eL1 eV0)) eC1))))
  (.cons (.rse 3 false (eL1 (.c (.str "puts are of the boxes' numbers, rising, each once"))))
  .nil)
  .nil)
 (.cons (.tryN (.cons (.ex (.call 16 (eL3 eV0 (.idx eV1 eC1) (.c (.bl true)))))
  .nil))
 .nil)))⟩
noncomputable def f27:Hp.Fn:=⟨5,10,
 (.cons (.set (.n 5) (.call 3 (eL1 eV0)))
 (.cons (.set (.n 6) (.call 29 (eL3 eV5 eV1 (.c (.bl true)))))
 (.cons (.set (.n 7) (.call 31 (eL2 eV5 eV2)))
 (.cons (.set (.n 8) (.call 30 (eL4 eV5 eV3 (.bi .len (eL1 eV7)) (.c (.bl false)))))
 (.cons (.set (.n 9) (.call 32 (eL3 eV5 eV4 eV7)))
 (.cons (.iff (.cmp .Gt (.call 34 (eL2 eV5 eV7)) aMf)
  (.cons (.rse 2 false (eL1 (.c (.str "stands and places of a house make at most a thousand states"))))
  .nil)
  .nil)
 (.cons (.ret (.tup (eL5 eV5 eV6 eV7 eV8 eV9)))
 .nil)))))))⟩
noncomputable def f28:Hp.Fn:=⟨2,2,
 (.cons (.ret (.ife (.cmp2 .LtE .Lt eC0 eV1 (.bi .len (eL1 eV0))) (.idx eV0 eV1) (.lst .nil)))
 .nil)⟩
noncomputable def f29:Hp.Fn:=⟨3,3,
 (.cons (.tryN (.cons (.ret (.call 17 (eL3 eV0 eV1 eV2)))
  .nil))
 .nil)⟩
noncomputable def f30:Hp.Fn:=⟨4,4,
 (.cons (.iff (.orr (.nt (.isi eV1 [.tList])) (.cmp .NotEq (.bi .len (eL1 eV1)) eV2))
  (.cons (.rse 5 false (eL1 (.c (.str "there is a promise for each hand, and a note for each of its places"))))
  .nil)
  .nil)
 (.cons (.ret (.comp 1 [0,3] (.n 0) (.seq eV1) .nil (.call 29 (eL3 eV1 eV0 eV2))))
 .nil))⟩
noncomputable def f31:Hp.Fn:=⟨2,2,
 (.cons (.iff (.orr (.nt (.isi eV1 [.tList])) (.nt (.cmp2 .LtE .LtE eC1 (.bi .len (eL1 eV1)) eC3)))
  (.cons (.rse 5 false (eL1 (.c (.str "a house has a list of one to three hands"))))
  .nil)
  .nil)
 (.cons (.tryN (.cons (.ret (.comp 1 [0] (.n 0) (.seq eV1) .nil (.call 21 (eL2 eV1 eV0))))
  .nil))
 .nil))⟩
noncomputable def f32:Hp.Fn:=⟨3,3,
 (.cons (.iff (.orr (.nt (.isi eV1 [.tList])) (.cmp .NotEq (.bi .len (eL1 eV1)) (.bi .len (eL1 eV2))))
  (.cons (.rse 5 false (eL1 (.c (.str "there is a list of notes for each hand"))))
  .nil)
  .nil)
 (.cons (.ret (.comp 2 [0] (.t [0,1]) (.zip eV1 eV2) .nil (.call 30 (eL4 eV2 eV0 (.call 33 (eL1 eV1)) (.c (.bl true))))))
 .nil))⟩
noncomputable def f33:Hp.Fn:=⟨1,1,
 (.cons (.ret (.op .Add (.bi .len (eL1 eV0)) eC1))
 .nil)⟩
noncomputable def f34:Hp.Fn:=⟨2,4,
 (.cons (.set (.n 2) (.call 6 (eL1 eV0)))
 (.cons (.for (.n 3) (.seq eV1)
  (.cons (.set (.n 2) (.op .Mult eV2 (.call 33 (eL1 eV3))))
  .nil))
 (.cons (.retv 2)
 .nil)))⟩
noncomputable def f35:Hp.Fn:=⟨3,9,
 (.cons (.set (.n 3) (.idx eV2 eC0))
 (.cons (.iff (.nt (.cmp2 .LtE .Lt eC0 eV3 (.bi .len (eL1 (.idx eV0 eC2)))))
  (.cons (.ret eCn)
  .nil)
  .nil)
 (.cons (.set (.n 4) (.idx eV1 eC0))
 (.cons (.set (.n 5) (.idx eV1 eC1))
 (.cons (.set (.n 6) (.call 28 (eL2 (.idx (.idx eV0 eC2) eV3) (.idx eV5 eV3))))
 (.cons (.iff (.nt (.cmp2 .LtE .Lt eC0 (.idx eV2 eC1) (.bi .len (eL1 eV6))))
  (.cons (.ret eCn)
  .nil)
  .nil)
 (.cons (.set (.n 7) (.idx eV6 (.idx eV2 eC1)))
 (.cons (.set (.n 8) (.call 2 (eL3 (.idx eV0 eC0) eV7 eV4)))
 (.cons (.iff (.cmp .Is eV8 eCn)
  (.cons (.ret eCn)
  .nil)
  .nil)
 (.cons (.ret (.tup (eL2 eV8 (.op .Add (.op .Add (.sli eV5 .nil (eL1 eV3)) (.tup (eL1 (.idx eV7 eC2)))) (.sli eV5 (eL1 (.op .Add eV3 eC1)) .nil)))))
 .nil))))))))))⟩
noncomputable def f36:Hp.Fn:=⟨3,7,
 (.cons (.iff (.orr (.nt (.call 8 (eL2 (.idx eV0 eC0) eV1))) (.nt (.call 1 (eL3 (.idx eV0 eC1) eV1 eCn))))
  (.cons (.rse 6 false (eL1 (.c (.str "a start is a stand of the boxes at which begin holds"))))
  .nil)
  .nil)
 (.cons (.set (.n 3) (.call 37 (eL2 eV0 eV1)))
 (.cons (.set (.n 4) (.lst (eL1 eV3)))
 (.cons (.for (.t [5,6]) (.enum eV2)
  (.cons (.set (.n 3) (.call 35 (eL3 eV0 eV3 eV6)))
  (.cons (.iff (.cmp .Is eV3 eCn)
   (.cons (.rse 7 true (eL1 eV5))
   .nil)
   .nil)
  (.cons (.app 4 eV3)
  .nil))))
 (.cons (.retv 4)
 .nil)))))⟩
noncomputable def f37:Hp.Fn:=⟨2,2,
 (.cons (.ret (.tup (eL2 eV1 (.bi .tuple (eL1 (.comp 1 [] (.n 0) (.seq (.idx eV0 eC2)) .nil eC0))))))
 .nil)⟩
noncomputable def f38:Hp.Fn:=⟨3,4,
 (.cons (.set (.n 3) (.call 36 (eL3 eV0 eV1 eV2)))
 (.cons (.ret (.comp 2 [] (.t [0,1]) (.zip eV2 eV3) .nil (.tup (eL3 (.idx eV0 eC0) (.idx (.idx eV1 eC1) (.idx eV0 eC0)) (.idx eV0 eC1)))))
 .nil))⟩
noncomputable def f39:Hp.Fn:=⟨3,7,
 (.cons (.set (.n 3) (.comp 2 [0] (.t [0,1]) (.zip eV2 (.call 38 (eL3 eV0 eV1 eV2))) .nil (.tup (eL2 eV0 (.call 40 (eL2 eV2 eV1))))))
 (.cons (.set (.n 4) (.lst .nil))
 (.cons (.set (.n 5) (.lst .nil))
 (.cons (.whl eV3
  (.cons (.set (.n 6) (.call 55 (eL1 eV3)))
  (.cons (.ext 5 (.comp 1 [4] (.n 0) (.dwn (.op .Sub eV6 eC1)) .nil (.op .Add (.bi .len (eL1 eV1)) eV0)))
  (.cons (.appPop 4 3 eV6 0)
  .nil))))
 (.cons (.retP 4 5)
 .nil)))))⟩
noncomputable def f40:Hp.Fn:=⟨2,3,
 (.cons (.set (.n 2) (.idx (.call 28 (eL2 (.idx (.idx eV0 eC2) (.idx eV1 eC0)) (.idx eV1 eC1))) (.idx eV1 eC2)))
 (.cons (.ret (.tup (eL3 (.idx eV1 eC0) (.call 13 (eL1 eV2)) (.op .Add (.call 12 (eL1 eV2)) (.call 13 (eL1 eV2))))))
 .nil))⟩
noncomputable def f41:Hp.Fn:=⟨2,2,
 (.cons (.ret (.an (.cmp .NotEq (.idx eV0 eC0) (.idx eV1 eC0)) (.an (.nt (.call 42 (eL2 (.idx eV0 eC1) (.idx eV1 eC2)))) (.nt (.call 42 (eL2 (.idx eV1 eC1) (.idx eV0 eC2)))))))
 .nil)⟩
noncomputable def f42:Hp.Fn:=⟨2,2,
 (.cons (.ret (.bi .any (eL1 (.comp 1 [1] (.n 0) (.seq eV0) .nil (.cmp .In eV0 eV1)))))
 .nil)⟩
noncomputable def f43:Hp.Fn:=⟨2,5,
 (.cons (.set (.n 2) (.lst .nil))
 (.cons (.set (.n 3) (.op .Add (.op .Mod eV0 nE) aCw))
 (.cons (.for (.n 4) (.rng eC0 (.op .Add eV1 eC1))
  (.cons (.set (.n 3) (.op .Mod (.op .Add (.op .Add (.op .Mult eV3 eV3) (.op .Mult aCw eV3)) eV4) nE))
  (.cons (.app 2 eV3)
  .nil)))
 (.cons (.ret (.sli eV2 (eL1 eC1) .nil))
 .nil))))⟩
noncomputable def f44:Hp.Fn:=⟨4,4,
 (.cons (.iff (.cmp .Eq eV2 eC0)
  (.cons (.ret (.idx (.lst (eL3 (.lst (eL1 eC0)) (.lst (eL2 eC1 eC2)) (.lst (eL1 eC0)))) eV1))
  .nil)
  .nil)
 (.cons (.iff (.cmp .Eq (.op .Mod eV0 eC4) eC0)
  (.cons (.ret (.comp 1 [] (.n 0) (.rng eC0 eV3) .nil eV0))
  .nil)
  .nil)
 (.cons (.iff (.cmp .Eq (.op .Mod eV0 eC4) eC1)
  (.cons (.ret (.lst (eL1 eV1)))
  .nil)
  .nil)
 (.cons (.iff (.cmp .Eq (.op .Mod eV0 eC4) eC2)
  (.cons (.ret (.idx (.lst (eL3 (.lst (eL1 eC0)) (.lst (eL2 eC1 eC2)) (.lst (eL1 eC0)))) eV1))
  .nil)
  .nil)
 (.cons (.ret (.lst (eL2 eV1 eC2)))
 .nil)))))⟩
noncomputable def f45:Hp.Fn:=⟨3,9,
 (.cons (.set (.n 3) (.idx eV2 (.op .Mod (.idx eV0 eC0) (.bi .len (eL1 eV2)))))
 (.cons (.set (.n 4) (.tup (eL2 (.c (.str "number")) (.op .Mod (.idx eV0 eC1) eC3))))
 (.cons (.set (.n 5) (.tup (eL3 (.idx (.lst (eL2 (.c (.str "is")) (.c (.str "less")))) (.op .Mod (.idx eV0 eC2) eC2)) (.tup (eL2 (.c (.str "box")) eV3)) eV4)))
 (.cons (.set (.n 6) (.tup (eL2 (.c (.str "box")) (.idx eV2 (.op .Mod (.op .FloorDiv (.idx eV0 eC1) eC3) (.bi .len (eL1 eV2)))))))
 (.cons (.set (.n 7) (.lst (eL5 (.tup (eL1 (.c (.str "yes")))) (.tup (eL1 (.c (.str "yes")))) (.tup (eL1 (.c (.str "yes")))) eV5 (.tup (eL2 (.c (.str "not")) eV5)))))
 (.cons (.set (.n 8) (.tup (eL3 (.c (.str "is")) (.tup (eL3 (.c (.str "minus")) eV6 (.tup (eL2 (.c (.str "box")) eV3)))) (.tup (eL2 (.c (.str "number")) eC0)))))
 (.cons (.app 7 (.tup (eL3 (.c (.str "either")) eV5 eV8)))
 (.cons (.set (.n 8) (.tup (eL3 (.c (.str "less")) eV6 (.tup (eL3 (.c (.str "plus")) (.tup (eL2 (.c (.str "box")) eV3)) (.tup (eL2 (.c (.str "number")) eC1)))))))
 (.cons (.ret (.idx (.op .Add eV7 (.lst (eL1 (.tup (eL3 (.c (.str "both")) eV8 (.tup (eL2 (.c (.str "not")) eV5))))))) (.op .Mod (.idx eV0 eC3) eC7)))
 .nil)))))))))⟩
noncomputable def f46:Hp.Fn:=⟨3,9,
 (.cons (.set (.n 3) (.lst .nil))
 (.cons (.for (.n 4) (.rng eC0 (.op .Mod (.idx eV0 eC0) eC3))
  (.cons (.set (.n 5) (.idx eV2 (.op .Mod (.idx eV0 (.op .Add eC1 eV4)) (.bi .len (eL1 eV2)))))
  (.cons (.set (.n 6) (.tup (eL2 (.c (.str "number")) (.idx (.idx eV1 eV5) eC1))))
  (.cons (.set (.n 7) (.tup (eL2 (.c (.str "box")) (.idx eV2 (.op .Mod (.idx eV0 (.op .Add eC3 eV4)) (.bi .len (eL1 eV2)))))))
  (.cons (.set (.n 8) (.lst (eL2 (.tup (eL3 (.c (.str "minus")) eV6 (.tup (eL2 (.c (.str "box")) eV5)))) (.tup (eL2 (.c (.str "number")) (.op .Mod (.idx eV0 (.op .Add eC3 eV4)) eC2))))))
  (.cons (.set (.n 8) (.op .Add eV8 (.lst (eL2 eV7 (.tup (eL3 (.c (.str "plus")) eV7 (.tup (eL2 (.c (.str "number")) eC0))))))))
  (.cons (.iff (.orr (.cmp .Eq (.bi .len (eL1 eV3)) eC0) (.cmp .Lt (.idx (.idx eV3 (.neg eC1)) eC0) eV5))
   (.cons (.app 3 (.tup (eL2 eV5 (.idx eV8 (.op .Mod (.idx eV0 (.op .Add eC5 eV4)) eC4)))))
   .nil)
   .nil)
  .nil)))))))
 (.cons (.ret (.bi .tuple (eL1 eV3)))
 .nil)))⟩
noncomputable def f47:Hp.Fn:=⟨5,14,
 (.cons (.set (.n 5) (.call 43 (eL2 eV0 (.op .Add eC3 (.op .Mult aMe eV3)))))
 (.cons (.set (.n 6) (.call 44 (eL4 (.idx eV5 eC0) eV2 eV4 (.bi .len (eL1 eV1)))))
 (.cons (.set (.n 7) (.lst .nil))
 (.cons (.for (.n 8) (.rng eC0 eV3)
  (.cons (.set (.n 9) (.lst .nil))
  (.cons (.for (.n 10) (.rng eC0 (.op .Add eC1 (.op .Mod (.op .FloorDiv (.idx eV5 eC1) (.op .Add eV8 eC1)) eC4)))
   (.cons (.set (.n 11) (.call 43 (eL2 (.idx eV5 (.op .Add (.op .Add eC3 (.op .Mult aMe eV8)) aIF)) aQT)))
   (.cons (.set (.n 12) (.op .Mod (.idx aGy aEa) (.op .Add eV3 (.bi .int (eL1 (.cmp .Eq (.op .Mod (.idx eV5 eC2) eC5) eC0))))))
   (.cons (.set (.n 13) (.call 45 (eL3 aGy eV1 eV6)))
   (.cons (.app 9 (.tup (eL3 aQZ (.call 46 (eL3 (.sli aGy (eL1 eC4) (eL1 aEa)) eV1 eV6)) aQY)))
   .nil)))))
  (.cons (.app 7 eV9)
  .nil))))
 (.cons (.retv 7)
 .nil)))))⟩
noncomputable def f48:Hp.Fn:=⟨1,9,
 (.cons (.set (.n 1) (.call 43 (eL2 (.idx (.op .Add eV0 (.lst (eL1 eC0))) eC0) eC9)))
 (.cons (.set (.n 2) (.lst (eL3 (.tup (eL2 (.c (.str "a")) (.op .Add eC1 (.op .Mod (.idx eV1 eC0) eC2)))) (.tup (eL2 (.c (.str "b")) (.op .Add eC1 (.op .Mod (.idx eV1 eC1) eC2)))) (.tup (eL2 (.c (.str "c")) eC1)))))
 (.cons (.iff (.an (.cmp .Eq (.op .Add (.idx (.idx eV2 eC0) eC1) (.idx (.idx eV2 eC1) eC1)) eC2) (.cmp .Eq (.op .Mod (.idx eV1 eC6) eC3) eC0))
  (.cons (.app 2 (.tup (eL2 (.c (.str "d")) (.op .Add eC1 (.op .Mod (.op .FloorDiv (.idx eV1 eC6) eC3) eC2)))))
  .nil)
  .nil)
 (.cons (.set (.n 3) (.lst .nil))
 (.cons (.for (.n 4) (.rng eC0 (.op .Add eC2 (.op .Mod (.idx eV1 eC2) eC2)))
  (.cons (.set (.n 5) (.op .Add eC1 (.op .Mod (.idx eV1 (.op .Add eC3 eV4)) (.idx (.lst (eL2 eC3 eC2)) (.op .Mod (.idx eV1 eC2) eC2)))))
  (.cons (.set (.n 5) (.op .Mult eV5 (.bi .int (eL1 (.cmp .Gt (.op .Mod (.op .FloorDiv (.idx eV1 (.op .Add eC3 eV4)) eC6) eC9) eC0)))))
  (.cons (.set (.n 6) (.op .Add (.idx (.op .Add eV0 (.lst (eL4 eC0 eC0 eC0 eC0))) (.op .Add eC1 eV4)) (.op .Mult eC7 eV4)))
  (.cons (.app 3 (.call 47 (eL5 eV6 eV2 eV4 eV5 (.op .Mod (.idx eV1 eC8) eC3))))
  .nil)))))
 (.cons (.set (.n 7) (.idx (.lst (eL2 (.tup (eL1 (.c (.str "yes")))) (.tup (eL3 (.c (.str "less")) (.tup (eL2 (.c (.str "box")) eC0)) (.tup (eL2 (.c (.str "number")) eC1)))))) (.op .Mod (.idx eV1 eC7) eC2)))
 (.cons (.set (.n 8) (.comp 1 [] (.n 0) (.seq eV3) .nil (.op .Mult (.lst (eL1 (.tup (eL1 (.c (.str "yes")))))) (.op .Add (.bi .len (eL1 eV0)) eC1))))
 (.cons (.ret (.call 27 (eL5 eV2 eV7 eV3 (.comp 1 [] (.n 0) (.seq eV3) .nil (.tup (eL1 (.c (.str "yes"))))) eV8)))
 .nil))))))))⟩
noncomputable def f49:Hp.Fn:=⟨2,3,
 (.cons (.set (.n 2) (.call 9 (eL2 (.idx eV1 eC0) (.idx eV1 eC1))))
 (.cons (.ret (.idx eV2 (.op .Mod (.idx (.call 43 (eL2 (.idx (.op .Add eV0 (.lst (eL1 eC0))) eC0) aMd)) eC9) (.bi .len (eL1 eV2)))))
 .nil))⟩
noncomputable def f50:Hp.Fn:=⟨2,5,
 (.cons (.set (.n 2) (.lst .nil))
 (.cons (.for (.n 3) (.rng eC0 (.bi .len (eL1 (.idx eV0 eC2))))
  (.cons (.for (.n 4) (.rng eC0 eC4)
   (.cons (.iff (.cmp .IsNot (.call 35 (eL3 eV0 eV1 (.tup (eL2 eV3 eV4)))) eCn)
    (.cons (.app 2 (.tup (eL2 eV3 eV4)))
    .nil)
    .nil)
   .nil))
  .nil))
 (.cons (.retv 2)
 .nil)))⟩
noncomputable def f51:Hp.Fn:=⟨5,11,
 (.cons (.set (.n 5) (.tup (eL2 eV2 (.bi .tuple (eL1 (.comp 1 [] (.n 0) (.seq (.idx eV1 eC2)) .nil eC0))))))
 (.cons (.set (.n 6) (.lst .nil))
 (.cons (.for (.n 7) (.rng eC0 eV4)
  (.cons (.set (.n 8) (.call 50 (eL2 eV1 eV5)))
  (.cons (.iff (.cmp .NotEq eV8 (.lst .nil))
   (.cons (.set (.n 9) (.op .Add (.op .Mult aEa eV7) (.bi .len (eL1 eV0))))
   (.cons (.iff (.cmp .Lt (.op .Add eV3 eV7) (.bi .len (eL1 eV0)))
    (.cons (.set (.n 9) (.idx eV0 (.op .Add eV3 eV7)))
    .nil)
    .nil)
   (.cons (.set (.n 10) (.idx eV8 (.op .Mod (.idx (.call 43 (eL2 eV9 eC1)) eC0) (.bi .len (eL1 eV8)))))
   (.cons (.app 6 aIF)
   (.cons (.set (.n 5) (.call 35 (eL3 eV1 eV5 aIF)))
   .nil)))))
   .nil)
  .nil)))
 (.cons (.retv 6)
 .nil))))⟩
noncomputable def f52:Hp.Fn:=⟨1,3,
 (.cons (.iff (.cmp .Eq (.idx eV0 eC0) (.c (.str "box")))
  (.cons (.ret (.lst (eL1 (.idx eV0 eC1))))
  .nil)
  .nil)
 (.cons (.set (.n 1) (.lst .nil))
 (.cons (.for (.n 2) (.seq (.sli eV0 (eL1 eC1) .nil))
  (.cons (.iff (.isi eV2 [.tTuple])
   (.cons (.set (.n 1) (.op .Add eV1 (.call 52 (eL1 eV2))))
   .nil)
   .nil)
  .nil))
 (.cons (.retv 1)
 .nil))))⟩
noncomputable def f53:Hp.Fn:=⟨2,6,
 (.cons (.set (.n 2) (.idx (.idx (.idx (.idx eV0 eC2) (.idx eV1 eC0)) (.idx eV1 eC1)) (.idx eV1 eC2)))
 (.cons (.set (.n 3) (.call 52 (eL1 (.idx eV2 eC0))))
 (.cons (.for (.t [4,5]) (.seq (.idx eV2 eC1))
  (.cons (.set (.n 3) (.op .Add eV3 (.call 52 (eL1 eV5))))
  .nil))
 (.cons (.ret (.tup (eL2 eV3 (.comp 2 [] (.t [0,1]) (.seq (.idx eV2 eC1)) .nil eV0))))
 .nil))))⟩
noncomputable def f54:Hp.Fn:=⟨3,6,
 (.cons (.set (.n 3) (.call 53 (eL2 eV0 eV1)))
 (.cons (.set (.n 4) (.call 53 (eL2 eV0 eV2)))
 (.cons (.set (.n 5) (.comp 1 [4] (.n 0) (.seq (.idx eV3 eC1)) (eL1 (.cmp .In eV0 (.op .Add (.idx eV1 eC0) (.idx eV1 eC1)))) eV0))
 (.cons (.set (.n 5) (.op .Add eV5 (.comp 1 [3] (.n 0) (.seq (.idx eV4 eC1)) (eL1 (.cmp .In eV0 (.idx eV1 eC0))) eV0)))
 (.cons (.ret (.an (.cmp .NotEq (.idx eV1 eC0) (.idx eV2 eC0)) (.cmp .Eq eV5 (.lst .nil))))
 .nil)))))⟩
noncomputable def f55:Hp.Fn:=⟨1,3,
 (.cons (.set (.n 1) eC0)
 (.cons (.for (.n 2) (.rng eC1 (.bi .len (eL1 eV0)))
  (.cons (.iff (.an (.cmp .Lt (.idx (.idx eV0 eV2) eC0) (.idx (.idx eV0 eV1) eC0)) (.call 56 (eL2 eV0 eV2)))
   (.cons (.mov 1 2)
   .nil)
   .nil)
  .nil))
 (.cons (.retv 1)
 .nil)))⟩
noncomputable def f56:Hp.Fn:=⟨2,2,
 (.cons (.ret (.bi .all (eL1 (.comp 2 [0,1] (.t [0,1]) (.seq (.sli eV0 .nil (eL1 eV1))) .nil (.call 41 (eL2 (.idx (.idx eV2 eV3) eC1) eV1))))))
 .nil)⟩
noncomputable def f57:Hp.Fn:=⟨3,8,
 (.cons (.set (.n 3) (.call 36 (eL3 eV0 eV1 eV2)))
 (.cons (.set (.n 4) (.lst .nil))
 (.cons (.for (.n 5) (.rng eC0 (.bi .len (eL1 eV2)))
  (.cons (.set (.t [6,7]) (.idx eV2 eV5))
  (.cons (.app 4 (.tup (eL3 eV6 (.idx (.idx (.idx eV3 eV5) eC1) eV6) eV7)))
  .nil)))
 (.cons (.retv 4)
 .nil))))⟩
noncomputable def f58:Hp.Fn:=⟨3,6,
 (.cons (.for (.n 3) (.seq eV2)
  (.cons (.iff (.orr (.nt (.isi eV3 [.tInt])) (.isi eV3 [.tBool]))
   (.cons (.ret eCn)
   .nil)
   .nil)
  (.cons (.iff (.orr (.cmp .Lt eV3 eC0) (.cmp .GtE (.op .Add eV3 eC1) (.bi .len (eL1 eV1))))
   (.cons (.ret eCn)
   .nil)
   .nil)
  (.cons (.setU [4,5] (.sli eV1 (eL1 eV3) (eL1 (.op .Add eV3 eC2))))
  (.cons (.iff (.nt (.call 54 (eL3 eV0 eV4 eV5)))
   (.cons (.ret eCn)
   .nil)
   .nil)
  (.cons (.set (.n 1) (.op .Add (.op .Add (.sli eV1 .nil (eL1 eV3)) (.lst (eL2 eV5 eV4))) (.sli eV1 (eL1 (.op .Add eV3 eC2)) .nil)))
  .nil))))))
 (.cons (.ret (.comp 3 [] (.t [0,1,2]) (.seq eV1) .nil (.tup (eL2 eV0 eV2))))
 .nil))⟩
noncomputable def f59:Hp.Fn:=⟨2,4,
 (.cons (.for (.n 2) (.rng eC0 (.bi .len (eL1 eV1)))
  (.cons (.set (.n 3) (.op .Sub eV2 eC1))
  (.cons (.whl (.an (.cmp .GtE eV3 eC0) (.call 54 (eL3 eV0 (.idx eV1 eV3) (.idx eV1 eV2))))
   (.cons (.iff (.cmp .Lt (.idx (.idx eV1 eV2) eC0) (.idx (.idx eV1 eV3) eC0))
    (.cons (.ret (.c (.bl false)))
    .nil)
    .nil)
   (.cons (.set (.n 3) (.op .Sub eV3 eC1))
   .nil)))
  .nil)))
 (.cons (.ret (.c (.bl true)))
 .nil))⟩
noncomputable def f60:Hp.Fn:=⟨2,8,
 (.cons (.set (.n 2) (.lst (eL1 eV1)))
 (.cons (.dnw 3 (.bi .tuple (eL1 eV1)) (.c (.bl true)))
 (.cons (.set (.n 4) eC0)
 (.cons (.whl (.cmp .Lt eV4 (.bi .len (eL1 eV2)))
  (.cons (.set (.n 5) (.row 2 eV4))
  (.cons (.for (.n 6) (.rng eC0 (.op .Sub (.bi .len (eL1 eV1)) eC1))
   (.cons (.iff (.call 54 (eL3 eV0 (.idx eV5 eV6) (.idx eV5 (.op .Add eV6 eC1))))
    (.cons (.set (.n 7) (.op .Add (.op .Add (.sli eV5 .nil (eL1 eV6)) (.lst (eL2 (.idx eV5 (.op .Add eV6 eC1)) (.idx eV5 eV6)))) (.sli eV5 (eL1 (.op .Add eV6 eC2)) .nil)))
    (.cons (.iff (.dnin (.bi .tuple (eL1 eV7)) 3)
     (.cons (.dpv 3 (.bi .tuple (eL1 eV7)) (.c (.bl true)))
     (.cons (.app 2 eV7)
     .nil))
     .nil)
    .nil))
    .nil)
   .nil))
  (.cons (.set (.n 4) (.op .Add eV4 eC1))
  .nil))))
 (.cons (.retv 2)
 .nil)))))⟩
noncomputable def f61:Hp.Fn:=⟨2,4,
 (.cons (.set (.n 2) (.lst .nil))
 (.cons (.for (.n 3) (.seq (.call 60 (eL2 eV0 eV1)))
  (.cons (.app 2 (.comp 3 [] (.t [0,1,2]) (.seq eV3) .nil (.tup (eL2 eV0 eV2))))
  .nil))
 (.cons (.ret (.bi .min (eL1 eV2)))
 .nil)))⟩
noncomputable def f62:Hp.Fn:=⟨2,2,
 (.cons (.iff (.orr (.nt (.isi eV0 [.tTuple])) (.cmp .NotEq (.bi .len (eL1 eV0)) eC2))
  (.cons (.ret (.c (.bl false)))
  .nil)
  .nil)
 (.cons (.iff (.orr (.nt (.isi (.idx eV0 eC0) [.tList])) (.nt (.isi (.idx eV0 eC1) [.tList])))
  (.cons (.ret (.c (.bl false)))
  .nil)
  .nil)
 (.cons (.ret (.cmp .LtE (.op .Mult eC2 (.bi .len (eL1 (.idx eV0 eC1)))) (.op .Mult eV1 (.op .Sub eV1 eC1))))
 .nil)))⟩
noncomputable def f63:Hp.Fn:=⟨1,9,
 (.cons (.set (.n 1) (.call 48 (eL1 eV0)))
 (.cons (.set (.n 2) (.call 49 (eL2 eV0 eV1)))
 (.cons (.set (.n 3) (.op .Mod (.idx (.call 43 (eL2 (.idx (.op .Add eV0 (.lst (eL1 eC0))) eC0) aEa)) aMd) aQU))
 (.cons (.iff (.cmp .Eq (.op .Mod (.idx (.op .Add eV0 (.lst (eL1 eC0))) eC0) eC8) eC3)
  (.cons (.set (.n 3) aQW)
  .nil)
  .nil)
 (.cons (.set (.n 4) (.call 51 (eL5 eV0 eV1 eV2 eC4 eV3)))
 (.cons (.set (.n 5) (.call 57 (eL3 eV1 eV2 eV4)))
 (.cons (.set (.n 6) (.bi .list (eL1 eV4)))
 (.cons (.tld 7 39 (eL3 eV1 eV2 eV6))
 (.cons (.iff (.orr (.cmp .NotEq eV6 eV4) (.nt (.hid 7 (.call 62 (eL2 eV7 (.bi .len (eL1 eV4)))))))
  (.cons (.ret (.c (.bl false)))
  .nil)
  .nil)
 (.cons (.iff (.hid 7 (.cmp .NotEq (.call 58 (eL3 eV1 eV5 (.idx eV7 eC1))) (.idx eV7 eC0)))
  (.cons (.ret (.c (.bl false)))
  .nil)
  .nil)
 (.cons (.iff (.nt (.hid 7 (.call 59 (eL2 eV1 (.call 57 (eL3 eV1 eV2 (.idx eV7 eC0)))))))
  (.cons (.ret (.c (.bl false)))
  .nil)
  .nil)
 (.cons (.iff (.an (.cmp .Lt (.bi .len (eL1 eV4)) eC8) (.hid 7 (.cmp .NotEq (.call 61 (eL2 eV1 eV5)) (.idx eV7 eC0))))
  (.cons (.ret (.c (.bl false)))
  .nil)
  .nil)
 (.cons (.iff (.hid 7 (.cmp .NotEq (.idx (.call 39 (eL3 eV1 eV2 (.idx eV7 eC0))) eC0) (.idx eV7 eC0)))
  (.cons (.ret (.c (.bl false)))
  .nil)
  .nil)
 (.cons (.set (.n 8) (.hid 7 (.bi .list (eL1 (.idx eV7 eC0)))))
 (.cons (.appP 7 0 eCn)
 (.cons (.appP 7 1 eCn)
 (.cons (.ret (.cmp .Eq (.idx (.call 39 (eL3 eV1 eV2 eV6)) eC0) eV8))
 .nil)))))))))))))))))⟩
noncomputable def pg:Hp.Pg:=⟨[f0,f1,f2,f3,f4,f5,f6,f7,f8,f9,f10,f11,f12,f13,f14,f15,f16,f17,f18,f19,f20,f21,f22,f23,f24,f25,f26,f27,f28,f29,f30,f31,f32,f33,f34,f35,f36,f37,f38,f39,f40,f41,f42,f43,f44,f45,f46,f47,f48,f49,f50,f51,f52,f53,f54,f55,f56,f57,f58,f59,f60,f61,f62,f63],[[("number",.tup [.str "number"]),("box",.tup [.str "box"]),("after",.tup [.str "box"]),("plus",.tup [.str "sum",.str "sum"]),("minus",.tup [.str "sum",.str "sum"])],[("yes",.tup []),("is",.tup [.str "sum",.str "sum"]),("less",.tup [.str "sum",.str "sum"]),("not",.tup [.str "cond"]),("both",.tup [.str "cond",.str "cond"]),("either",.tup [.str "cond",.str "cond"])]]⟩
abbrev cP:=call pg
end K67
namespace Hp
abbrev Sl.F:=Sl.sh false
abbrev Sl.T:=Sl.sh true
abbrev Sl.O:=Sl.own false
abbrev Sl.x:=Sl.dead
abbrev D.i:=D.int
abbrev Es.k:=Es.cons
abbrev Es.z:=Es.nil
abbrev Ss.k:=Ss.cons
abbrev Ss.z:=Ss.nil
end Hp
noncomputable section
set_option maxRecDepth 100000
set_option maxHeartbeats 0
namespace K67
open PySem PySem.W L2 Hp Hh
noncomputable def ix:List (Nat×List Str):=(34,["one", "ahead", "behind", "word", "left", "right"]) ::
 (35,["cond", "ahead", "behind", "word", "left", "right"]) ::
 (51,["boxes", "way", "stand", "held", "box", "one", "amount"]) ::
 (18,["rows", "boxes"]) ::
 (19,["row"]) ::
 (20,["thing"]) ::
 (21,["boxes", "count", "name", "top"]) ::
 (22,["boxes", "found", "name", "top", "longer", "begun"]) ::
 (23,["boxes", "thing"]) ::
 (36,["boxes", "cond"]) ::
 (37,["one"]) ::
 (38,["one", "found", "inner"]) ::
 (53,["way", "found", "box", "one"]) ::
 (54,["way"]) ::
 (10,["thing"]) ::
 (11,["thing", "least", "most"]) ::
 (29,["boxes", "thing", "plain"]) ::
 (30,["boxes", "thing", "plain"]) ::
 (31,["boxes", "kind", "thing", "plain", "seen", "form", "due", "inner"]) ::
 (32,["kind", "thing", "plain", "word", "form"]) ::
 (33,["boxes", "due", "thing", "most"]) ::
 (45,["boxes", "thing"]) ::
 (46,["boxes", "thing", "end"]) ::
 (47,["boxes", "thing", "end"]) ::
 (48,["boxes", "thing"]) ::
 (49,["boxes", "thing", "least", "put"]) ::
 (50,["boxes", "thing", "least"]) ::
 (61,["boxes", "begin", "hands", "promises", "notes", "own_boxes", "own_begin", "own_hands", "own_promises", "own_notes"]) ::
 (52,["hand", "place"]) ::
 (62,["boxes", "thing", "plain"]) ::
 (63,["boxes", "thing", "count", "plain"]) ::
 (64,["boxes", "thing"]) ::
 (65,["boxes", "thing", "hands"]) ::
 (66,["hand"]) ::
 (67,["boxes", "hands", "count", "hand"]) ::
 (69,["house", "state", "step", "hand", "stand", "places", "row", "way", "further"]) ::
 (70,["house", "start", "steps", "state", "states", "number", "step"]) ::
 (71,["house", "start"]) ::
 (73,["house", "start", "steps", "states"]) ::
 (77,["house", "start", "steps", "left", "found", "trades", "at"]) ::
 (74,["house", "track", "way"]) ::
 (75,["one", "other"]) ::
 (76,["one", "other"]) ::
 (81,["_law_cell", "_law_many", "_law_found", "_law_number", "_law_k"]) ::
 (82,["_law_x", "_law_hand_here", "_law_shape", "_law_count"]) ::
 (83,["_law_xs", "_law_boxes", "_law_zone_here", "_law_box", "_law_number", "_law_found", "_law_other", "_law_some", "_law_more"]) ::
 (84,["_law_xs", "_law_boxes", "_law_zone_here", "_law_puts_here", "_law_k", "_law_box", "_law_top", "_law_other", "_law_some"]) ::
 (85,["_law_cell", "_law_boxes", "_law_hand_here", "_law_rows", "_law_shape", "_law_xs", "_law_zone_here", "_law_found", "_law_k", "_law_row", "_law_j", "_law_ys", "_law_place", "_law_guard_here"]) ::
 (86,["_law_script", "_law_xs", "_law_boxes", "_law_hands", "_law_hand_here", "_law_rows", "_law_cell", "_law_begin", "_law_notes"]) ::
 (87,["_law_script", "_law_house_here", "_law_some"]) ::
 (88,["_law_house_here", "_law_state", "_law_found", "_law_hand_here", "_law_way"]) ::
 (89,["_law_script", "_law_house_here", "_law_start_here", "_law_at", "_law_many", "_law_state", "_law_steps_here", "_law_k", "_law_goers_here", "_law_number", "_law_step"]) ::
 (90,["_law_part", "_law_found", "_law_one"]) ::
 (91,["_law_house_here", "_law_track", "_law_way", "_law_seen", "_law_box", "_law_one"]) ::
 (92,["_law_house_here", "_law_one", "_law_other", "_law_first", "_law_second", "_law_met"]) ::
 (78,["left", "best", "at"]) ::
 (79,["left", "at"]) ::
 (93,["_law_house_here", "_law_start_here", "_law_steps_here", "_law_states", "_law_found", "_law_k", "_law_hand_here", "_law_way"]) ::
 (94,["_law_house_here", "_law_told", "_law_trades", "_law_at", "_law_one", "_law_other"]) ::
 (95,["_law_house_here", "_law_told", "_law_late", "_law_early"]) ::
 (96,["_law_house_here", "_law_told", "_law_found", "_law_met", "_law_spot", "_law_one", "_law_at", "_law_form"]) ::
 (97,["_law_house_here", "_law_told", "_law_forms_here", "_law_form"]) ::
 (98,["_law_found", "_law_many"]) ::
 (99,["_law_script", "_law_house_here", "_law_start_here", "_law_many", "_law_steps_here", "_law_told", "_law_handed", "_law_found", "_law_held"])::[]
noncomputable def sn:Sn:=⟨[("MOST_BOXES",(.int 5)),("MOST_LETTERS",(.int 8)),("MOST_TOP",(.int 7)),("MOST_STANDS",(.int 24)),("LETTERS",(.str "abcdefghijklmnopqrstuvwxyz")),("MOST_PARTS",(.int 40)),("MOST_NUMBER",(.int 99)),("MOST_ROWS",(.int 8)),("MOST_WAYS",(.int 4)),("GUARD",(.int 0)),("PUTS",(.int 1)),("NEXT",(.int 2)),("MOST_HANDS",(.int 3)),("MOST_STATES",(.int 1000)),("BOXES",(.int 0)),("BEGIN",(.int 1)),("HANDS",(.int 2))],[("SUM_FORMS",[("number",["number"]),("box",["box"]),("after",["box"]),("plus",["sum", "sum"]),("minus",["sum", "sum"])]),("COND_FORMS",[("yes",[]),("is",["sum", "sum"]),("less",["sum", "sum"]),("not",["cond"]),("both",["cond", "cond"]),("either",["cond", "cond"])])]⟩
abbrev pw:=EN
theorem chk:oJ ⟨[],[],(ix.map (pQ pw)).map (·.x),sn.cns,true,sn.tbs.map (·.1)⟩ pg.fns (ix.map (pQ pw))=true:=by decide +kernel
abbrev Lq(w:AJ)(os:HD):Prop:=aOH pw (uU pw) (wR pw) (λs=>kQ pw sn s.heap) 100000 w os=some (true,J0 (uU pw) (wR pw),oM pw sn w)
theorem lf1(os:HD)(w:AJ):Lq (w.withFollow "special-get-raises" false) os:=by kernel_rfl
theorem lf2(os:HD)(w:AJ):Lq (w.withFollow "special-get-raises" true) os:=by kernel_rfl
theorem lft:JZ pw (uU pw) (wR pw) (λ_=>true) (λs=>kQ pw sn s.heap) (λw=>oM pw sn w) 100000:=aLL (by kernel_rfl) rfl (λ_=>by kernel_rfl) λw os=>byRow2 "special-get-raises" (P:=λw=>Lq w os) (lf1 os) (lf2 os) w
abbrev rr:=CC
theorem w0:looksOpen rr.row.prog=true:=by kernel_rfl
theorem w1:rr.row.wellSaid=true:=by unfold OpenRow.wellSaid OpenRow.partSaid;rw[w0];kernel_rfl
theorem ws:rr.wellSaid=true:=by unfold OpenLaw.wellSaid;rw[w1];kernel_rfl
end K67
end
namespace K67
open Hp HpS PySem
noncomputable def drp:Nat->Ss->Ss
 | 0,s=>s|n+1,.k _ s=>drp n s|_+1,.z=>.z
noncomputable def hdS:Ss->S
 | .k s _=>s|.z=>.mov 0 0
structure Way where
 g:Cn
 ps:List (Nat×Sm)
 nx:Int
abbrev W3:=List (List (List Way))
noncomputable def fA(p:Nat×Sm):D:=.tup [.i p.1,p.2.d]
noncomputable def Way.d(w:Way):D:=.tup [w.g.d,.tup (w.ps.map fA),.i w.nx]
noncomputable def Up(ps:List (Nat×Sm)):Prop:=ps.Pairwise λp q=>p.1<q.1
structure nF (m:Nat) (p:Nat×Sm):Prop where
 box:p.1<m
 wf:p.2.wf m true
 sz:p.2.sz<=3
structure cO (m:Nat) (w:Way):Prop where
 g:w.g.wf m true
 gs:w.g.sz<=31
 ps:∀p∈w.ps,nF m p
 up:Up w.ps
theorem qC(p:Nat×Sm):noL (fA p)=true:=jD rfl p.2.noL
theorem gE(ps:List (Nat×Sm)):noLs (ps.map fA)=true:=bI qC ps
theorem eL(w:Way):noL w.d=true:=by simp[Way.d,noL,noLs,w.g.noL,gE]
theorem aCx(i:Nat){ds:List D}(h:noLs ds=true):biD .tuple [⟨.lst ds,false,false,[i]⟩]=.ok (.cl (.tup ds)):=by show R.ok (Vl.mk (.tup ds) false (false&&!noLs ds) (if noLs ds=true then [] else [i]))=_;rw[h];rfl
theorem stp{P:Pg}{W:Caller}{Z Z':Sg}{s:S}{ss:Ss}(h:ex P W Z s=.next Z'):exs P W Z (.k s ss)=exs P W Z' ss:=by rw[dZ,h,aLR]
noncomputable def iF(bs:List (Str×Int))(k:Nat):Int:=(bs.map (·.2)).getD k 0
noncomputable def putF(bs:List (Str×Int))(st:List Int):List Int->List (Nat×Sm)->Option (List Int)
 | acc,[]=>some acc|acc,p::ps=>if 0<=p.2.val st st/\p.2.val st st<=iF bs p.1 then putF bs st (acc.set p.1 (p.2.val st st)) ps else none
noncomputable def behF(bs:List (Str×Int))(w:Way)(st:List Int):Option (List Int):=if w.g.hold st st then putF bs st st w.ps else none
noncomputable def stD:Option (List Int)->D
 | none=>.non|some r=>aS r
theorem aMg{P:Pg}{W:Caller}{Z:Sg}{a b:E}{x y:Int}(h1:ev P W Z a=.ok (.cl (.i x)))(h2:ev P W Z b=.ok (.cl (.i y))):tst P W Z (.cmp2 .LtE .LtE eC0 a b)=.ok (decide (0<=x)&&decide (x<=y)):=by
 rw[sG,aC,aA,h1,aA,jB,jB,aLZ];cases decide (0<=x) with
 | true=>simp_all|false=>rfl
theorem aCy{bs:List (Str×Int)}{k:Nat}(h:k<bs.length):∃b:D,noL b=true/\eT ⟨.lst (aE bs),false,true,[]⟩ (.cl (.i (k:Int)))=.ok (.cl b)/\eT (.cl b) (.cl (.i 1))=.ok (.cl (.i (iF bs k))):=by
 refine⟨box bs[k],nA _,?_,?_⟩;have q:(aE bs).length=bs.length:=by simp[aE]
 have e:(aE bs)[k]? = some (box bs[k]):=by simp[aE,h]
 unfold eT;simp only[jB,q,gA h,e,Vl.sub,nA,if_true];have:=gM (.str bs[k].1) (.i bs[k].2) [] rfl;unfold box iF;rw[this];simp[h]
theorem aGz(n:Nat){bs:List (Str×Int)}{st:List Int}(hs:st.length=bs.length){s:Sm}(w:s.wf bs.length true)(z:s.sz<=3):cP (n+3) 0 [s.d,aS st,.non]=.ok (.i (s.val st st),false,false):=by have:=jY (P:=pg) (f:=0) rfl (bd:=.non) (pl:=true) hs hs rfl (λh=>nomatch h) s (n+3-s.sz) w;rwa [show n+3-s.sz+s.sz=n+3 by omega] at this
theorem sL(n:Nat){bs:List (Str×Int)}{st:List Int}(hs:st.length=bs.length){q:Cn}(w:q.wf bs.length true)(z:q.sz<=31):cP (n+31) 1 [q.d,aS st,.non]=.ok (.bl (q.hold st st),false,false):=by have:=nD (P:=pg) (f:=1) rfl rfl (bd:=.non) (pl:=true) hs hs rfl (λh=>nomatch h) q (n+31-q.sz) w;rwa [show n+31-q.sz+q.sz=n+31 by omega] at this
abbrev aGA:Ss:=match hdS (drp 2 f2.body) with|.for _ _ b=>b|_=>.z
theorem aIG{p:Nat×Sm}{s0 s1 s2 q U W I:Sl}:cN [s0,s1,s2,q,U,W,I] (.cl (fA p)) (.t [4,5])=.ok [s0,s1,s2,q,.F (.i p.1),.F p.2.d,I]:=by unfold cN fA;simp only[jB,lC,lN,if_true,AV,DF,Ci,FN,cK p.2.noL,cK (show noL (.i (p.1:Int))=true from rfl),hG,lS,lZ]
theorem aGB(q:List Int)(k:Nat)(v:Int):(q.map D.int).set k (.i v)=(q.set k v).map D.int:=by rw[List.map_set]
theorem aGC(n:Nat){bs:List (Str×Int)}{st q:List Int}(hs:st.length=bs.length)(ha:q.length=bs.length)(hb:bs.length<=5){p:Nat×Sm}(o:nF bs.length p)(s1 s4 s5 s6:Sl) :
 exs pg (cP (n+3)) [.T (.lst (aE bs)),s1,.T (aS st),.O (q.map D.int),.F (.i p.1),.F p.2.d,s6] aGA =
  if 0<=p.2.val st st/\p.2.val st st<=iF bs p.1 then .next [.T (.lst (aE bs)),s1,.T (aS st),.O ((q.set p.1 (p.2.val st st)).map D.int),.F (.i p.1),.F p.2.d,.F (.i (p.2.val st st))] else .ret (.cl .non):=by
 have cv:=aGz n hs o.wf o.sz;generalize p.2.val st st=v at cv;obtain⟨b,b1,b2,b3⟩:=aCy o.box;have e1:ex pg (cP (n+3)) [.T (.lst (aE bs)),s1,.T (aS st),.O (q.map D.int),.F (.i p.1),.F p.2.d,s6] (hdS aGA)=.next [.T (.lst (aE bs)),s1,.T (aS st),.O (q.map D.int),.F (.i p.1),.F p.2.d,.F (.i v)]:=by simp only[aGA,hdS,drp,f2,jU,eY,aJ,cB,zS,aC,cX,gS,gZ,dU,(hU 2 true (aU st)),aA,mC,mN,jB,cv,aBe,cA,uX,jC,aCs,hG,lS,lZ]
 have tt:=aMg (P:=pg) (W:=cP (n+3)) (Z:=[.T (.lst (aE bs)),s1,.T (aS st),.O (q.map D.int),.F (.i p.1),.F p.2.d,.F (.i v)]) (a:=.v 6) (b:=.idx (.idx eV0 eV4) eC1) (y:=iF bs p.1) rfl (by
  simp only[sC,zS,aC,cX,gS,gZ,aIB,aCq,aA,b2,b3])
 refine(stp e1).trans ?_;show exs pg (cP (n+3)) _ (.k (.iff (.nt _) _ _) (.k (.setIx 3 eV4 eV6) .z))=_;by_cases I:0<=v/\v<=iF bs p.1;have hd:(decide (0<=v)&&decide (v<=iF bs p.1))=true:=by rw[Am I.1,Am I.2];rfl
 rw[if_pos I];have hx:ixN q.length (p.1:Int)=some p.1:=gA (by rw[ha];exact o.box);have U:q.length<=lim:=by unfold lim;omega
 simp only[dZ,aCn,jV,sF,tt,aA,hd,BK,cA,bF,if_false,aLR,aGs,zS,cX,gS,gZ,aCq,jB,put,uX,jC,lH,hx,aGB,lM,Az,U,if_true,aOM,IB,lS,lZ];have hd:(decide (0<=v)&&decide (v<=iF bs p.1))=false:=by
  cases h:(decide (0<=v)&&decide (v<=iF bs p.1)) with
  | false=>rfl|true=>grind
 rw[if_neg I];simp only[dZ,jV,sF,tt,aA,hd,DI,cA,if_true,wV,aC,aGm]
theorem zV(n:Nat){bs:List (Str×Int)}{st:List Int}(hs:st.length=bs.length)(hb:bs.length<=5)(s1:Sl):∀(ps:List (Nat×Sm)) (I:List Int) (U W s6:Sl),(∀p∈ps,nF bs.length p)->I.length=bs.length ->
 ∃t4 t5 t6,eK (λZ x=>O.from Z (cN Z x (.t [4,5])) λZ'=>exs pg (cP (n+3)) Z' aGA) (ps.map λp=>Vl.cl (fA p)) [.T (.lst (aE bs)),s1,.T (aS st),.O (I.map D.int),U,W,s6] =
  (match putF bs st I ps with|none=>.ret (.cl .non)|some r=>.next [.T (.lst (aE bs)),s1,.T (aS st),.O (r.map D.int),t4,t5,t6])
 | [],I,U,W,s6,_,_=>⟨U,W,s6,rfl⟩
 | p::ps,I,U,W,s6,h,ha=>by rw[mC,eK,aIG,cA,(aGC n hs ha hb (h p A3) s1 U W s6),putF];by_cases hv:0<=p.2.val st st/\p.2.val st st<=iF bs p.1;rw[if_pos hv,if_pos hv];exact zV n hs hb s1 ps (I.set p.1 (p.2.val st st)) _ _ _ (λq hq=>h q (Au _ hq)) (by rw[Az];exact ha);rw[if_neg hv,if_neg hv];simp_all
theorem mD{v:Vl}(ps:List (Nat×Sm)):items v (ps.map fA)=ps.map λp=>Vl.cl (fA p):=cE qC ps
theorem aBg(n:Nat){bs:List (Str×Int)}{st:List Int}(hs:st.length=bs.length)(hb:bs.length<=5){w:Way}(o:cO bs.length w):cP (n+32) 2 [.lst (aE bs),w.d,aS st]=.ok (stD (behF bs w st),false,false):=by
 have ch:=sL n hs o.g o.gs;have I:=hU 1 true (eL w);have U:=hU 2 true (aU st);have i0:eT (.cl w.d) (.cl (.i 0))=.ok (.cl w.g.d):=gL w.g.d _ w.g.noL;have i1:eT (.cl w.d) (.cl (.i 1))=.ok (.cl (.tup (w.ps.map fA))):=gM w.g.d (.tup (w.ps.map fA)) _ (by rw[noL];exact gE _);refine aH rfl rfl (v:=.cl (stD (behF bs w st))) ?_;show exs pg (cP (n+31)) [.T (.lst (aE bs)),.T w.d,.T (aS st),.x,.x,.x,.x] _=_;unfold behF;cases W:w.g.hold st st with
 | false=>rw[W] at ch;simp only[f2,dZ,jV,sF,iM,aJ,cB,sC,zS,aC,cX,gS,gZ,I,U,aA,i0,mC,mN,jB,ch,aBe,aGu,DI,cA,if_true,wV,aGm,bF,if_false,stD]|true=>
  rw[W] at ch;obtain⟨t4,t5,t6,hl⟩:=zV (n+28) hs hb (.T w.d) w.ps st .x .x .x o.ps hs;have e1:ex pg (cP (n+31)) [.T (.lst (aE bs)),.T w.d,.T (aS st),.x,.x,.x,.x] (hdS f2.body)=.next [.T (.lst (aE bs)),.T w.d,.T (aS st),.x,.x,.x,.x]:=by simp only[hdS,f2,aCn,jV,sF,iM,aJ,cB,sC,zS,aC,cX,gS,gZ,I,U,aA,i0,mC,mN,jB,ch,aBe,aGu,BK,cA,bF,if_false]
  have e2:ex pg (cP (n+31)) [.T (.lst (aE bs)),.T w.d,.T (aS st),.x,.x,.x,.x] (hdS (drp 1 f2.body))=.next [.T (.lst (aE bs)),.T w.d,.T (aS st),.O (st.map D.int),.x,.x,.x]:=by
   have q:biD .list [.cl (aS st)]=.ok ⟨.lst (st.map D.int),true,false,[]⟩:=by show R.ok (Vl.mk (.lst (st.map D.int)) true (false&&!noLs (st.map D.int)) (if noLs (st.map D.int)=true then [] else []))=_;rw[mZ];rfl
   simp only[hdS,drp,f2,jU,aJz,aJ,cB,zS,cX,gS,gZ,U,aA,q,cA,jC,aCs,aIA,lS,lZ]
  have hw:walk pg (cP (n+31)) [.T (.lst (aE bs)),.T w.d,.T (aS st),.O (st.map D.int),.x,.x,.x] (.seq (.idx eV1 eC1))=.ok (w.ps.map (λp=>Vl.cl (fA p)),[]):=by simp only[bQ,sC,zS,aC,cX,gS,gZ,I,aA,i1,jB,mD,uX]
  refine(stp e1).trans ((stp e2).trans ?_);show exs pg (cP (n+31)) _ (.k (.for (.t [4,5]) (.seq (.idx eV1 eC1)) aGA) _)=_;rw[dZ,aBb,hw,cA];show(eK _ _ _).on _=_;rw[jC,hl,if_pos rfl];cases putF bs st st w.ps with
  | none=>rfl|some r=>show exs pg (cP (n+31)) [.T (.lst (aE bs)),.T w.d,.T (aS st),.O (r.map D.int),t4,t5,t6] (.k (.ret (.bi .tuple (eL1 eV3))) .z)=_;rw[dZ,wV,aJz,aJ,zS];simp only[cX,gS,gZ,aCr];simp only[cB,aA,aCx 3 (mZ r),aGm];rfl
section
variable {P:Pg} {W:Caller} {Z:Sg}
theorem nG(Z:Sg){i j:Nat}{a b:D}(q:noL a=true)(I:noL b=true):cN Z (.cl (.tup [a,b])) (.t [i,j])=.ok ((Z.set i (.F a)).set j (.F b)):=by unfold cN;simp only[jB,lC,lN,if_true,AV,DF,Ci,FN,cK q,cK I,hG]
theorem dW(Z:Sg){i:Nat}{d:D}:cN Z (.cl d) (.n i)=.ok (Z.set i (.F d)):=by rw[aCs,hG]
theorem gB{f:Nat}{a b c:E}{x y z:Vl}{k:Bool}(h1:ev P W Z a=.ok x)(h2:ev P W Z b=.ok y)(q:ev P W Z c=.ok z)(I:W f [x.d,y.d,z.d]=.ok (.bl k,false,false)):tst P W Z (.call f (.k a (.k b (.k c .z))))=.ok k:=by
 have e:evs P W Z (.k a (.k b (.k c .z)))=.ok [x,y,z]:=by rw[aJ,h1,aA,aJ,h2,aA,aJ,q,aA,cB];rfl
 rw[iM,e,aA,show [x,y,z].map (·.d)=[x.d,y.d,z.d] from rfl,I];rfl
theorem dH{a:E}{k:Bool}(h:tst P W Z a=.ok k):tst P W Z (.nt a)=.ok (!k):=by rw[sF,h];rfl
theorem eO{f:Nat}{a b:E}{x y:Vl}{d:D}(h1:ev P W Z a=.ok x)(h2:ev P W Z b=.ok y)(q:W f [x.d,y.d]=.ok (d,false,false)):ev P W Z (.call f (.k a (.k b .z)))=.ok (.cl d):=by
 have e:evs P W Z (.k a (.k b .z))=.ok [x,y]:=by rw[aJ,h1,aA,aJ,h2,aA,cB];rfl
 rw[eY,e,aA,show [x,y].map (·.d)=[x.d,y.d] from rfl,q];rfl
theorem jE{a b:E}{x y:D}(h1:ev P W Z a=.ok (.cl x))(h2:ev P W Z b=.ok (.cl y)):ev P W Z (.tup (.k a (.k b .z)))=.ok (.cl (.tup [x,y])):=by rw[sD,aJ,h1,aA,aJ,h2];rfl
theorem aBh{a b c:E}{x y z:D}(h1:ev P W Z a=.ok (.cl x))(h2:ev P W Z b=.ok (.cl y))(q:ev P W Z c=.ok (.cl z)):ev P W Z (.tup (.k a (.k b (.k c .z))))=.ok (.cl (.tup [x,y,z])):=by rw[sD,aJ,h1,aA,aJ,h2,aA,aJ,q];rfl
end
theorem pI{v:Vl}{α:Type}{f:α->D}{xs:List α}{k:Nat}{x:α}(U:v.d=.lst (xs.map f))(q:xs[k]? = some x):eT v (.cl (.i (k:Int)))=.ok (Vl.sub v (f x)):=by
 have I:k<(xs.map f).length:=by rw[lM];exact(Ao.mp q).1
 have e:(xs.map f)[k]? = some (f x):=by rw[A7,q];rfl
 unfold eT;simp only[U,jB,gA I,e]
section
variable {P:Pg} {W:Caller} {Z Z':Sg}
theorem aJB{i:Nat}{e:E}{v:Vl}{pa:Bool}{ds:List D}(h:ev P W Z e=.ok v)(hi:(freeze Z v.al)[i]? = some (.own pa ds))(q:ds.length<lim):ex P W Z (.app i e)=.next ((freeze Z v.al).set i (.own (pa||v.pa) (ds++[v.d]))):=by rw[aLW,h,cA];unfold put lH;rw[hi];show(if (ds++[v.d]).length<=lim then O.next _ else .bad)=_;rw[if_pos (by rw[lA];exact q)]
theorem gN{i:Nat}{e:E}{v:Vl}{ds ds':List D}(h:ev P W Z e=.ok v)(hi:(freeze Z v.al)[i]? = some (.O ds))(I:ds.length<lim)(U:v.pa=false)(q:ds'=ds++[v.d]):ex P W Z (.app i e)=.next ((freeze Z v.al).set i (.O ds')):=by rw[aJB h hi I,U,q];rfl
theorem bK{i:Nat}{e:E}{ds:List D}(h:ev P W Z e=.ok ⟨.lst ds,true,false,[]⟩):ex P W Z (.set (.n i) e)=.next (Z.set i (.O ds)):=by rw[jU,h];rfl
theorem nH{c:E}{a b:Ss}(h:tst P W Z c=.ok true)(r:exs P W Z a=.next Z'):ex P W Z (.iff c a b)=.next Z':=by rw[jV,h,cA,if_pos rfl,r]
theorem aGD{a b:E}{x y:Bool}(h1:tst P W Z a=.ok x)(h2:tst P W Z b=.ok y):tst P W Z (.an a b)=.ok (x&&y):=by rw[aGo,h1,aA];cases x;rfl;exact h2
theorem bO{o:CmpOp}{a b:E}{x y:Vl}{k:Bool}(h:ev P W Z a=.ok x)(g:ev P W Z b=.ok y)(e:dJ o x.d y.d=some k):tst P W Z (.cmp o a b)=.ok k:=by rw[aCm,h,aA,g,aA,e]
end
theorem mE{P:Pg}{W:Caller}{Z:Sg}{s:S}{ss:Ss}{v:Vl}(h:ex P W Z s=.ret v):exs P W Z (.k s ss)=.ret v:=by rw[dZ,h];rfl
theorem cQ{P:Pg}{W:Caller}{Z:Sg}{f:Nat}{a:E}{x:Vl}{d:D}{fr:Bool}(h1:ev P W Z a=.ok x)(q:W f [x.d]=.ok (d,fr,false))(I:(fr&&isL d)=fr:=by rfl):ev P W Z (.call f (.k a .z))=.ok ⟨d,fr,false,[]⟩:=by
 have e:evs P W Z (.k a .z)=.ok [x]:=by rw[aJ,h1];rfl
 rw[eY,e,aA,show [x].map (·.d)=[x.d] from rfl,q];show R.ok (⟨d,fr&&isL d,false,[]⟩:Vl)=_;rw[I]
section
variable {P:Pg} {W:Caller} {Z Z':Sg}
theorem aJC(Z:Sg){i j k:Nat}{a b c:D}(q:noL a=true)(I:noL b=true)(U:noL c=true):cN Z (.cl (.tup [a,b,c])) (.t [i,j,k])=.ok (((Z.set i (.F a)).set j (.F b)).set k (.F c)):=by unfold cN;simp only[jB,lC,lN,if_true,AV,DF,Ci,FN,cK q,cK I,cK U,hG]
theorem aJD{a b:E}(h:tst P W Z a=.ok true):tst P W Z (.orr a b)=.ok true:=by rw[aCl,h];rfl
theorem dX{a b:E}{k:Bool}(h:tst P W Z a=.ok false)(g:tst P W Z b=.ok k):tst P W Z (.orr a b)=.ok k:=by rw[aCl,h,aA,if_neg bN,g]
theorem fN{f:Nat}{a b c:E}{x y z:Vl}{ds:List D}(h1:ev P W Z a=.ok x)(h2:ev P W Z b=.ok y)(q:ev P W Z c=.ok z)(I:W f [x.d,y.d,z.d]=.ok (.lst ds,true,false)):ev P W Z (.call f (.k a (.k b (.k c .z))))=.ok ⟨.lst ds,true,false,[]⟩:=by
 have e:evs P W Z (.k a (.k b (.k c .z)))=.ok [x,y,z]:=by rw[aJ,h1,aA,aJ,h2,aA,aJ,q,aA,cB];rfl
 rw[eY,e,aA,show [x,y,z].map (·.d)=[x.d,y.d,z.d] from rfl,I];rfl
theorem dK{f:Nat}{a b:E}{x y:Vl}{ds:List D}(h1:ev P W Z a=.ok x)(h2:ev P W Z b=.ok y)(q:W f [x.d,y.d]=.ok (.lst ds,true,false)):ev P W Z (.call f (.k a (.k b .z)))=.ok ⟨.lst ds,true,false,[]⟩:=by
 have e:evs P W Z (.k a (.k b .z))=.ok [x,y]:=by rw[aJ,h1,aA,aJ,h2,aA,cB];rfl
 rw[eY,e,aA,show [x,y].map (·.d)=[x.d,y.d] from rfl,q];rfl
theorem nI{f:Nat}{a b c e g:E}{x y z w u:Vl}{d:D}(h1:ev P W Z a=.ok x)(h2:ev P W Z b=.ok y)(q:ev P W Z c=.ok z)(I:ev P W Z e=.ok w)(U:ev P W Z g=.ok u)(hc:W f [x.d,y.d,z.d,w.d,u.d]=.ok (d,false,false)):ev P W Z (.call f (.k a (.k b (.k c (.k e (.k g .z))))))=.ok (.cl d):=by
 have e:evs P W Z (.k a (.k b (.k c (.k e (.k g .z)))))=.ok [x,y,z,w,u]:=by rw[aJ,h1,aA,aJ,h2,aA,aJ,q,aA,aJ,I,aA,aJ,U,aA,cB];rfl
 rw[eY,e,aA,show [x,y,z,w,u].map (·.d)=[x.d,y.d,z.d,w.d,u.d] from rfl,hc];rfl
theorem aMh{t:T}{e:E}{d:D}(h:ev P W Z e=.ok (.cl d))(k:cN Z (.cl d) t=.ok Z'):ex P W Z (.set t e)=.next Z':=by rw[jU,h,cA,uX,jC,k];rfl
theorem aGE{i:Nat}{e:E}{d:D}(h:ev P W Z e=.ok ⟨d,false,true,[]⟩):ex P W Z (.set (.n i) e)=.next (Z.set i (.T d)):=by rw[jU,h];rfl
theorem aGF{t:T}{it:It}{b:Ss}{xs:List Vl}(q:walk P W Z it=.ok (xs,[])):ex P W Z (.for t it b)=eK (λZ x=>O.from Z (cN Z x t) λZ'=>exs P W Z' b) xs Z:=by rw[aBb,q];rfl
theorem zW{f:Nat}{a b:E}{x y:Vl}{d:D}(h1:ev P W Z a=.ok x)(h2:ev P W Z b=.ok y)(I:W f [x.d,y.d]=.ok (d,false,true))(U:dS [x,y]=true)(q:bT [x,y]=[]):ev P W Z (.call f (.k a (.k b .z)))=.ok ⟨d,false,true,[]⟩:=by
 have e:evs P W Z (.k a (.k b .z))=.ok [x,y]:=by rw[aJ,h1,aA,aJ,h2,aA,cB];rfl
 rw[eY,e,aA,show [x,y].map (·.d)=[x.d,y.d] from rfl,I,aA];show R.ok (⟨d,false,dS [x,y],bT [x,y]⟩:Vl)=_;rw[U,q]
end
abbrev iO(ws:List Way):D:=.lst (ws.map Way.d)
abbrev bR(h:List (List Way)):List D:=h.map iO
structure aGG (m e:Nat) (ws:List Way):Prop where
 one:1<=ws.length
 few:ws.length<=4
 ok:∀w∈ws,cO m w/\0<=w.nx/\w.nx<(e:Int)+1
structure xB (m:Nat) (h:List (List Way)):Prop where
 few:h.length<=8
 ok:∀ws∈h,aGG m h.length ws
theorem kA{α:Type}{P:α->Prop}{l:List α}{x:α}(h:∀y∈l,P y)(q:P x):∀y∈l++[x],P y:=λy I=>by rcases Bl.mp I with z|z;exact h y z;rw[A0.mp z];exact q
section
variable {P:Pg} {W:Caller} {Z:Sg}
theorem xC{e:E}{v:Vl}(h:ev P W Z e=.ok v):ex P W Z (.ex e)=.next Z:=by show O.from Z (ev P W Z e) _=_;rw[h];rfl
theorem aJE{b:Ss}{Z':Sg}(h:exs P W Z b=.next Z'):ex P W Z (.tryN b)=.next Z':=h
theorem bG{s:S}{Z':Sg}(h:ex P W Z s=.next Z'):exs P W Z (.k s .z)=.next Z':=cs h rfl
theorem xD{i:Nat}{d:D}{ss:Ss}(h:Z[i]? = some (.T d))(n:noL d=true):exs P W Z (.k (.retv i) ss)=.ret (.cl d):=by refine mE ?_;show(match Z[i]? with|some (.own pa ds)=>O.ret ⟨.lst ds,true,pa,[]⟩|_=>O.from Z (cX Z i) .ret)=_;unfold cX;rw[h];show O.from Z (Sl.val i (.T d)) .ret=_;rw[hU i true n];rfl
theorem eB{a:E}{cs:List Cl}{v:Vl}{k:Bool}(h:ev P W Z a=.ok v)(e:isI cs P v.d=some k):tst P W Z (.isi a cs)=.ok k:=by show(ev P W Z a >>= λx=>(match isI cs P x.d with|some k=>R.ok k|none=>.bad))=_;rw[h,aA,e]
theorem aN(i:Nat){d:D}(h:Z[i]? = some (.T d))(n:noL d=true):ev P W Z (.v i)=.ok (.cl d):=by show cX Z i=_;unfold cX;rw[h];exact hU i true n
theorem aK(i:Nat){ds:List D}(h:Z[i]? = some (.T (.lst ds))):ev P W Z (.v i)=.ok ⟨.lst ds,false,true,[]⟩:=by show cX Z i=_;unfold cX;rw[h];rfl
theorem kU{f:Nat}{F:Fn}{ds:List D}(q:P.fns[f]? = some F)(I:ds.length=F.np)
 (h:exs P W ((ds.map λd=>Sl.sh true d)++Al (F.ns-F.np) Sl.dead) F.body=.next Z):wB P W f ds=.ok (.non,false,false):=by unfold wB;rw[q];simp only[I,if_true,h]
theorem aD(i:Nat)(h:Z[i]? = some (.F d)):ev P W Z (.v i)=.ok (.cl d):=by show cX Z i=_;unfold cX;rw[h];exact dU i d
theorem aGH(h:ev P W Z a=.ok (.cl (.str w)))(q:P.tabs[i]? = some t)(I:t.lookup w=some d):ev P W Z (.tget i a)=.ok (.cl d):=by show(ev P W Z a >>= λx=>(match x.d,P.tabs[i]? with|.str k,some t=>R.ok (Vl.cl ((t.lookup k).getD .non))|_,_=>.bad))=_;rw[h,q];show R.ok (Vl.cl ((t.lookup w).getD .non))=_;rw[I];rfl
end
theorem iP(n:Nat)(i a b:Int)(h1:a<=i)(h2:i<=b):cP (n+2) 15 [.i i,.i a,.i b]=.ok (.bl true,false,false):=by refine aH (F:=f15) rfl rfl (bE (aGw (cQ (aN 0 rfl rfl) (aH rfl rfl (v:=.cl (.bl true)) rfl)) ?_));show(match some (decide (a<=i)) with|some true=>(match some (decide (i<=b)) with|some k=>R.ok (Vl.cl (.bl k))|none=>.bad)|some false=>.ok (.cl (.bl false))|none=>.bad)=_;rw[Am h1,Am h2]
theorem sM(n:Nat){bs:List D}{w:Str}{i:Int}(q:0<=i)(h1:i<=(if w == "number" then 99 else (bs.length:Int)-1)):cP (n+3) 20 [.lst bs,.str w,.i i]=.ok (.non,false,false):=by
 refine kU rfl rfl (cs (aT (uY (cI (aN 1 rfl rfl) rfl) ?_)) (bG (bJ (dH (gB (aN 2 rfl rfl) (aC _) (aD 3 rfl) (iP n i 0 _ q h1))))));cases w == "number" with
 | true=>rfl|false=>exact dI (dA (aK 0 rfl) (kR _ _ _ _)) (aC (.i 1)) (sub_int _ 1)
abbrev knd(k:Bool):Str:=if k then "sum" else "cond"
abbrev tbl(k:Bool):List (Str×D):=(pg.tabs.getD (if k then 0 else 1) [])
theorem aGI(n:Nat)(k:Bool){w:Str}{ds:List D}{fs:List Str}{pl:Bool}(hl:(tbl k).lookup w=some (.tup (fs.map D.str)))(hn:noLs ds=true)(he:ds.length=fs.length)(ha:pl=true->(w == "after")=false):cP (n+1) 19 [.str (knd k),.tup (.str w::ds),.bl pl]=.ok (.tup (fs.map D.str),false,false):=by
 let τ:Sl->Sl->Sg:=λI q=>[.T (.str (knd k)),.T (.tup (.str w::ds)),.T (.bl pl),I,q]
 have U:∀{I q},ev pg (cP n) (τ I q) eV1=.ok (.cl (.tup (.str w::ds))):=aN 1 rfl hn;have ln:∀I q,ev pg (cP n) (τ I q) (.bi .len (eL1 eV1))=.ok (.cl (.i ((fs.length:Int)+1))):=λI q=>by have:=dA (@U I q) (kT _);rw[show(((D.str w::ds).length:Nat):Int)=(fs.length:Int)+1 by rw[lC,he];rfl] at this;exact this
 have e4:∀q,ev pg (cP n) (τ (.F (.str w)) q) (.ife (.cmp .Eq eV0 (.c (.str "sum"))) (.tget 0 eV3) (.tget 1 eV3))=.ok (.cl (.tup (fs.map D.str))):=λq=>by
  refine uY (cI (aN 0 rfl rfl) rfl) ?_;cases k with
  | true=>exact aGH (aD 3 rfl) rfl hl|false=>exact aGH (aD 3 rfl) rfl hl
 refine aH (F:=f19) rfl rfl (v:=.cl (.tup (fs.map D.str))) (cs (bJ (dX (dH (eB U rfl)) (dX (bO (ln _ _) (aC _) ?_) (dH (eB (aZ U (aC _) (gL _ _ rfl)) rfl))))) (cs (aT (aZ U (aC _) (gL _ _ rfl))) (cs (aT (e4 _)) (cs (bJ (dX (bO (aD 4 rfl) (aC .non) rfl) (bO (ln _ _) (dI (dA (aD 4 rfl) (kT _)) (aC (.i 1)) (add_int _ _)) ?_))) (cs (bJ ?_) (mE rfl))))));show some (((fs.length:Int)+1)==0)=_;rw[beq_eq_false_iff_ne.mpr (by omega)];show(some ((((fs.length:Int)+1)==(((fs.map D.str).length:Nat):Int)+1))).map (!·)=_;rw[lM,beq_self_eq_true];rfl;have:=aGD (P:=pg) (W:=cP n) (Z:=τ (.F (.str w)) (.F (.tup (fs.map D.str)))) (a:=.v 2) rfl (cI (x:= "after") (aD 3 rfl) rfl);cases pl with
 | false=>exact this|true=>rw[ha rfl] at this;exact this
inductive Tn (M:Nat) (bs:List D) (pl:Bool):List (Str×D)->Int->Int->Prop
 | nil (m:Int):Tn M bs pl [] m m
 | part (k:Bool) {d:D} {l:List (Str×D)} {m p r:Int} (hd:noL d=true) (c:cP M 18 [.lst bs,.str (knd k),d,.bl pl,.i m]=.ok (.i p,false,false)) (t:Tn M bs pl l p r):Tn M bs pl ((knd k,d)::l) m r
 | leaf {f:Str} {i:Int} {l:List (Str×D)} {m r:Int} (h1:(f == "sum")=false) (h2:(f == "cond")=false) (c:cP M 20 [.lst bs,.str f,.i i]=.ok (.non,false,false)) (t:Tn M bs pl l m r):Tn M bs pl ((f,.i i)::l) m r
abbrev lkS(bs:List D)(k:Str)(d:D)(pl:Bool)(m:Int)(s5 s6 s7:Sl):Sg:=[.T (.lst bs),.T (.str k),.T d,.T (.bl pl),.F (.i m),s5,s6,s7]
theorem fg{f:Sg->Vl->O}(h:f Z x=.next Z'):eK f (x::xs) Z=eK f xs Z':=by rw[eK,h]
theorem aIH{M:Nat}{bs:List D}{pl:Bool}{k:Str}{d:D}{q:Sl}(h:Tn M bs pl l m r):∀I U,∃W t7,eK (λZ x=>O.from Z (cN Z x (.t [6,7])) λZ'=>exs pg (cP M) Z' (match hdS (drp 3 f18.body) with|.for _ _ b=>b|_=>.z)) (l.map λp=>Vl.cl (.tup [.str p.1,p.2])) (lkS bs k d pl m q I U)=.next (lkS bs k d pl r q W t7):=by
 induction h with
 | nil m=>exact λI U=>⟨I,U,rfl⟩
 | @part kd d' l m p r hd c t ih=>
  intro I U;obtain⟨W,t7,e⟩:=ih (.F (.str (knd kd))) (.F d');refine⟨W,t7,?_⟩;have hc:tst pg (cP M) (lkS bs k d pl m q (.F (.str (knd kd))) (.F d')) (.orr (.cmp .Eq eV6 (.c (.str "sum"))) (.cmp .Eq eV6 (.c (.str "cond"))))=.ok true:=by
   cases kd with
   | true=>exact aJD (cI (aD 6 rfl) rfl)|false=>exact dX (cI (aD 6 rfl) rfl) (cI (aD 6 rfl) rfl)
  have:=bG (nH (b:=.k (.ex (.call 20 (eL3 eV0 eV6 eV7))) .z) hc (bG (aT (i:=4) (nI (aK 0 rfl) (aD 6 rfl) (aD 7 rfl) (aN 3 rfl rfl) (aD 4 rfl) c))));refine(fg ?_).trans e;rw[nG _ rfl hd];exact this
 | @leaf f i l m r h1 h2 c t ih=>
  intro I U;obtain⟨W,t7,e⟩:=ih (.F (.str f)) (.F (.i i));refine⟨W,t7,?_⟩;have:exs pg (cP M) (lkS bs k d pl m q (.F (.str f)) (.F (.i i))) (match hdS (drp 3 f18.body) with|.for _ _ b=>b|_=>.z)=.next (lkS bs k d pl m q (.F (.str f)) (.F (.i i))):=by refine bG ?_;rw[jV,dX (cI (aD 6 rfl) h1) (cI (aD 6 rfl) h2)];exact bG (xC (bX (aK 0 rfl) (aD 6 rfl) (aD 7 rfl) c))
  exact(fg (this)).trans e
theorem aCz:∀(fs:List Str) (ds:List D),noLs ds=true->items ⟨.non,false,false,[]⟩ (fR (fs.map D.str) ds)=(fs.zip ds).map λp=>Vl.cl (.tup [.str p.1,p.2])
 | [],ds,_=>by cases ds <;> rfl|f::fs,[],_=>rfl|f::fs,d::ds,h=>by rw[noLs,bA] at h;show Vl.sub _ (.tup [.str f,d])::items _ (fR (fs.map D.str) ds)=_;rw[aCz fs ds h.2,cK (jD rfl h.1)];rfl
theorem wz(h:ev P W Z a=.ok (.cl (.tup xs)))(g:ev P W Z b=.ok (.cl (.tup ys))):walk P W Z (.zip a b)=.ok (items ⟨.non,false,false,[]⟩ (fR xs ys),[]):=by rw[jT,h,g];rfl
theorem fO{m:Nat}(k:Bool){bs:List D}{w:Str}{ds:List D}{fs:List Str}{pl:Bool}{q r:Int}(hl:(tbl k).lookup w=some (.tup (fs.map D.str)))(I:noLs ds=true)(he:ds.length=fs.length)(ha:pl=true->(w == "after")=false)(hs:q<40)(t:Tn (m+1) bs pl (fs.zip ds) (q+1) r):cP (m+2) 18 [.lst bs,.str (knd k),.tup (.str w::ds),.bl pl,.i q]=.ok (.i r,false,false):=by
 let τ:Sl->Sl->Sg:=λU W=>[.T (.lst bs),.T (.str (knd k)),.T (.tup (.str w::ds)),.T (.bl pl),U,W,.x,.x]
 have v2:∀U W,ev pg (cP (m+1)) (τ U W) eV2=.ok (.cl (.tup (.str w::ds))):=λ_ _=>aN 2 rfl I;obtain⟨t6,t7,e⟩:=aIH t .x .x;refine aH (F:=f18) rfl rfl (v:=.cl (.i r)) (cs (bJ (bO ((λ_=>aN 4 rfl rfl) _) (aC (.i 40)) ?_)) (cs (aT (dI ((λ_=>aN 4 rfl rfl) _) (aC (.i 1)) (add_int _ _))) (cs (aT (bX (aN 1 rfl rfl) (v2 _ _) (aN 3 rfl rfl) (aGI m k hl I he ha))) (cs ((aGF ?_).trans e) (mE rfl)))));show some (q==40)=_;rw[beq_eq_false_iff_ne.mpr (by omega)];have hs:ev pg (cP (m+1)) (τ (.F (.i (q+1))) (.F (.tup (fs.map D.str)))) (.sli eV2 (eL1 eC1) .z)=.ok (.cl (.tup ds)):=by show(ev pg (cP (m+1)) _ eV2 >>= λx=>R.iff true (eU x (some 1) none))=_;rw[v2];show R.ok (Vl.mk (.tup (cut (.str w::ds) (some 1) none)) false (false&&!noLs (.str w::ds)) (if noLs (.str w::ds)=true then [] else []))=_;rw[show cut (.str w::ds) (some 1) none=ds by simp[cut,sIx],show noLs (.str w::ds)=true from I];rfl
 exact(wz (aD 5 rfl) hs).trans (by rw[aCz fs ds I])
section
variable {bs:List D} {c:Nat} {pl:Bool}
theorem nJ(U:bs.length=c):∀(s:Sm) (N:Nat) (q:Int),s.sz+3<=N->s.wf c pl->q+s.sz<=40->call pg N 18 [.lst bs,.str "sum",s.d,.bl pl,.int q]=.ok (.int (q+s.sz),false,false)
 | .num k,N,q,I,w,h=>by
  obtain⟨n,rfl⟩:∃n,N=n+4:=⟨N-4,by have:1+3<=N:=I;omega⟩
  have h:q+1<=40:=h;obtain⟨w1,w2⟩:0<=k/\k<=99:=w;exact fO true (fs:=["number"]) rfl rfl rfl (λ_=>rfl) (by omega) (.leaf rfl rfl (sM n w1 w2) (.nil _))
 | .box k,N,q,I,w,h=>by
  obtain⟨n,rfl⟩:∃n,N=n+4:=⟨N-4,by have:1+3<=N:=I;omega⟩
  have h:q+1<=40:=h;have w1:k<c:=w;exact fO true (fs:=["box"]) rfl rfl rfl (λ_=>rfl) (by omega) (.leaf rfl rfl (sM n (by omega) (show(k:Int)<=(bs.length:Int)-1 by omega)) (.nil _))
 | .aft k,N,q,I,w,h=>by
  obtain⟨n,rfl⟩:∃n,N=n+4:=⟨N-4,by have:1+3<=N:=I;omega⟩
  have h:q+1<=40:=h;obtain⟨w1,w2⟩:k<c/\pl=false:=w;exact fO true (fs:=["box"]) rfl rfl rfl (λz=>by rw[w2] at z;cases z) (by omega) (.leaf rfl rfl (sM n (by omega) (show(k:Int)<=(bs.length:Int)-1 by omega)) (.nil _))
 | .two p a b,N,q,I,w,h=>by
  have I:1+a.sz+b.sz+3<=N:=I;obtain⟨n,rfl⟩:∃n,N=n+2:=⟨N-2,by omega⟩
  have h:q+((1+a.sz+b.sz:Nat):Int)<=40:=h;obtain⟨w1,w2⟩:a.wf c pl/\b.wf c pl:=w;show _=R.ok (D.int (q+((1+a.sz+b.sz:Nat):Int)),false,false);rw[show q+((1+a.sz+b.sz:Nat):Int)=q+1+a.sz+b.sz by omega];exact fO true (fs:=["sum", "sum"]) (by cases p <;> rfl) (jD a.noL b.noL) rfl (λ_=>aOR p) (by omega) (.part true a.noL (nJ U a (n+1) _ (by omega) w1 (by omega)) (.part true b.noL (nJ U b (n+1) _ (by omega) w2 (by omega)) (.nil _)))
theorem kB(U:bs.length=c):∀(s:Cn) (N:Nat) (q:Int),s.sz+3<=N->s.wf c pl->q+s.sz<=40->call pg N 18 [.lst bs,.str "cond",s.d,.bl pl,.int q]=.ok (.int (q+s.sz),false,false)
 | .yes,N,q,I,w,h=>by
  obtain⟨n,rfl⟩:∃n,N=n+2:=⟨N-2,by have:1+3<=N:=I;omega⟩
  have h:q+1<=40:=h;exact fO false (fs:=[]) rfl rfl rfl (λ_=>rfl) (by omega) (.nil _)
 | .cmp i a b,N,q,I,w,h=>by
  have I:1+a.sz+b.sz+3<=N:=I;obtain⟨n,rfl⟩:∃n,N=n+2:=⟨N-2,by omega⟩
  have h:q+((1+a.sz+b.sz:Nat):Int)<=40:=h;obtain⟨w1,w2⟩:a.wf c pl/\b.wf c pl:=w;show _=R.ok (D.int (q+((1+a.sz+b.sz:Nat):Int)),false,false);rw[show q+((1+a.sz+b.sz:Nat):Int)=q+1+a.sz+b.sz by omega];exact fO false (fs:=["sum", "sum"]) (by cases i <;> rfl) (jD a.noL b.noL) rfl (λ_=>by cases i <;> rfl) (by omega) (.part true a.noL (nJ U a (n+1) _ (by omega) w1 (by omega)) (.part true b.noL (nJ U b (n+1) _ (by omega) w2 (by omega)) (.nil _)))
 | .nt x,N,q,I,w,h=>by
  have I:1+x.sz+3<=N:=I;obtain⟨n,rfl⟩:∃n,N=n+2:=⟨N-2,by omega⟩
  have h:q+((1+x.sz:Nat):Int)<=40:=h;show _=R.ok (D.int (q+((1+x.sz:Nat):Int)),false,false);rw[show q+((1+x.sz:Nat):Int)=q+1+x.sz by omega];exact fO false (fs:=["cond"]) rfl (by show(noL x.d&&true)=true;rw[x.noL];rfl) rfl (λ_=>rfl) (by omega) (.part false x.noL (kB U x (n+1) _ (by omega) w (by omega)) (.nil _))
 | .two p a b,N,q,I,w,h=>by
  have I:1+a.sz+b.sz+3<=N:=I;obtain⟨n,rfl⟩:∃n,N=n+2:=⟨N-2,by omega⟩
  have h:q+((1+a.sz+b.sz:Nat):Int)<=40:=h;obtain⟨w1,w2⟩:a.wf c pl/\b.wf c pl:=w;show _=R.ok (D.int (q+((1+a.sz+b.sz:Nat):Int)),false,false);rw[show q+((1+a.sz+b.sz:Nat):Int)=q+1+a.sz+b.sz by omega];exact fO false (fs:=["cond", "cond"]) (by cases p <;> rfl) (jD a.noL b.noL) rfl (λ_=>by cases p <;> rfl) (by omega) (.part false a.noL (kB U a (n+1) _ (by omega) w1 (by omega)) (.part false b.noL (kB U b (n+1) _ (by omega) w2 (by omega)) (.nil _)))
end
variable {bs:List (Str×Int)}
theorem zX(n:Nat){q:Cn}(w:q.wf bs.length true)(z:q.sz<=31):cP (n+35) 17 [.lst (aE bs),q.d,.bl true]=.ok (q.d,false,false):=by exact aH (F:=f17) rfl rfl (cs (xC (nI (aK 0 rfl) (aC _) (aN 1 rfl q.noL) (aN 2 rfl rfl) (aC _) (kB (lM _) q (n+34) 0 (by omega) w (by omega)))) (xD rfl q.noL))
theorem aBi(n:Nat){s:Sm}(w:s.wf bs.length true)(z:s.sz<=3):cP (n+7) 16 [.lst (aE bs),s.d,.bl true]=.ok (s.d,false,false):=by exact aH (F:=f16) rfl rfl (cs (xC (nI (aK 0 rfl) (aC _) (aN 1 rfl s.noL) (aN 2 rfl rfl) (aC _) (nJ (lM _) s (n+6) 0 (by omega) w (by omega)))) (xD rfl s.noL))
theorem aEb(n:Nat){q:Cn}(w:q.wf bs.length true)(z:q.sz<=31):cP (n+36) 24 [.lst (aE bs),q.d]=.ok (.non,false,false):=
 kU rfl rfl (bG (aJE (bG (xC (bX (aK 0 rfl) (aN 1 rfl q.noL) (aC _) (zX n w z))))))
theorem aII(n:Nat){p:Nat×Sm}(o:nF bs.length p)(hl:l<=p.1):cP (n+8) 26 [.lst (aE bs),fA p,.i l]=.ok (.non,false,false):=by have hb:=o.box;refine kU rfl rfl (Z:=[.T (.lst (aE bs)),.T (fA p),.T (.i l)]) ?_;have I:=aK (P:=pg) (W:=cP (n+7)) (Z:=[.T (.lst (aE bs)),.T (fA p),.T (.i l)]) 0 rfl;have q:=aN (P:=pg) (W:=cP (n+7)) (Z:=[.T (.lst (aE bs)),.T (fA p),.T (.i l)]) 1 rfl (qC p);have U:=dI (dA I (kR _ _ _ _)) (aC (.i 1)) (sub_int _ 1);rw[show(aE bs).length=bs.length from lM _] at U;exact cs (bJ (dX (dH (eB q rfl)) (bO (dA q (kT _)) (aC _) rfl))) (cs (bJ (dH (gB (aZ q (aC _) (gL _ _ rfl)) (aN 2 rfl rfl) U (iP (n+5) p.1 l ((bs.length:Int)-1) (by omega) (by omega))))) (bG (aJE (bG (xC (bX I (aZ q (aC _) (gM _ _ _ p.2.noL)) (aC _) (aBi n o.wf o.sz)))))))
abbrev pf(bs:List (Str×Int))(ps:List (Nat×Sm))(s t:Sl):Sg:=[.T (.lst (aE bs)),.T (.tup (ps.map fA)),s,t]
theorem aGJ(n:Nat){ps:List (Nat×Sm)}(o:∀p∈ps,nF bs.length p)(up:Up ps):cP (n+9) 25 [.lst (aE bs),.tup (ps.map fA)]=.ok (.non,false,false):=by
 have W:∀s t,ev pg (cP (n+8)) (pf bs ps s t) eV1=.ok (.cl (.tup (ps.map fA))):=λs t=>aN 1 rfl (gE ps);have hw:walk pg (cP (n+8)) (pf bs ps (.F (.i 0)) .x) (.seq eV1)=.ok (ps.map λp=>Vl.cl (fA p),[]):=by rw[bQ,W];show R.ok (items _ (ps.map fA),[])=_;rw[mD]
 obtain⟨Z',e3,_⟩:=cS (t:=.n 3) (b:=match hdS (drp 2 f25.body) with|.for _ _ b=>b|_=>.z) (λi Z=>∃l t,(∀p∈ps.drop i,l<=p.1)/\Z=pf bs ps (.F (.i l)) t) hw ⟨0,.x,λ_ _=>Bw _,rfl⟩ λi hi Z ⟨l,t,U,I⟩=>by
  have q:i<ps.length:=by simpa using hi
  subst I;have hd:=BS q;rw[hd] at U;refine⟨pf bs ps (.F (.i l)) (.F (fA ps[i])),pf bs ps (.F (.i ((ps[i].1+1:Nat):Int))) (.F (fA ps[i])),?_,cs (xC (bX (aK 0 rfl) (dU 3 _) (dU 2 _) (aII n (o _ (AK q)) (U _ A3)))) (bG (aT (dI (aZ (dU 3 _) (aC _) (gL _ _ rfl)) (aC _) (add_int _ 1)))),ps[i].1+1,_,λp hp=>?_,rfl⟩;rw[AD,dW];rfl;have:=(Cy.mp (by rw[<-hd];exact Jk (List.drop_sublist _ _) up)).1 p hp;exact this
 exact kU rfl rfl (cs (bJ (dH (eB (W _ _) rfl))) (cs (aT (aC _)) (bG e3)))
theorem aOU(x y z:D)(h:noL z=true):eT (.cl (.tup [x,y,z])) (.cl (.i 2))=.ok (.cl z):=aBf x y z [] h
theorem aBj(n:Nat){w:Way}(o:cO bs.length w)(U:0<=w.nx/\w.nx<(e:Int)+1):cP (n+37) 23 [.lst (aE bs),w.d,.i e]=.ok (w.d,false,false):=by have I:=aK (P:=pg) (W:=cP (n+36)) (Z:=[.T (.lst (aE bs)),.T w.d,.T (.i e)]) 0 rfl;have q:=aN (P:=pg) (W:=cP (n+36)) (Z:=[.T (.lst (aE bs)),.T w.d,.T (.i e)]) 1 rfl (eL w);exact aH rfl rfl (v:=.cl w.d) (cs (bJ (dX (dH (eB q rfl)) (bO (dA q (kT _)) (aC (.i 3)) rfl))) (cs (xC (eO I (aZ q (aC (.i 0)) (gL _ _ w.g.noL)) (aEb n o.g o.gs))) (cs (xC (eO I (aZ q (aC (.i 1)) (gM _ _ _ (gE w.ps))) (aGJ (n+27) o.ps o.up))) (cs (bJ (dH (gB (aZ q (aC (.i 2)) (aBf _ _ _ _ rfl)) (aC (.i 0)) (aN 2 rfl rfl) (iP (n+34) w.nx 0 e U.1 (by omega))))) (xD rfl (eL w))))))
section
variable {P:Pg} {W:Caller} {Z:Sg}
theorem aCA{a b c:E}{x y z:Int}(h1:ev P W Z a=.ok (.cl (.i x)))(h2:ev P W Z b=.ok (.cl (.i y)))(I:ev P W Z c=.ok (.cl (.i z)))(p:x<=y)(q:y<=z):tst P W Z (.cmp2 .LtE .LtE a b c)=.ok true:=by rw[sG,h1,aA,h2,aA];simp_all
theorem zY{a b c:E}{x y z:Int}{k:Bool}(h1:ev P W Z a=.ok (.cl (.i x)))(h2:ev P W Z b=.ok (.cl (.i y)))(I:ev P W Z c=.ok (.cl (.i z)))(p:x<=y)(q:decide (y<z)=k):tst P W Z (.cmp2 .LtE .Lt a b c)=.ok k:=by rw[sG,h1,aA,h2,aA];simp_all
end
theorem qD{α:Type}(k:Nat)(caps:List Nat)(f:α->D):∀h:List α,fV k caps [] (h.map λx=>Vl.mk (f x) true false [])=⟨.lst (h.map f),true,false,[]⟩:=λh=>by
 have I:(h.map λx=>Vl.mk (f x) true false []).map (·.d)=h.map f:=by rw[Aw];rfl
 have U:dS (h.map λx=>Vl.mk (f x) true false [])=false:=by
  induction h with
  | nil=>rfl|cons x h q=>unfold dS at q ⊢;rw[mC,IK,q (by rw[Aw];rfl)];rfl
 have W:bT (h.map λx=>Vl.mk (f x) true false [])=[]:=by
  clear I U
  induction h with
  | nil=>rfl|cons x h q=>unfold bT at q ⊢;rw[mC,DL,q];rfl
 unfold fV;rw[I,U,W];split <;> rfl
variable {bs:List (Str×Int)}
theorem aBk(n:Nat){ws:List Way}{e:Nat}(o:aGG bs.length e ws):cP (n+38) 22 [.lst (aE bs),iO ws,.i e]=.ok (iO ws,true,false):=by have q:=aK (P:=pg) (W:=cP (n+37)) (Z:=[.T (.lst (aE bs)),.T (iO ws),.T (.i e)]) 1 rfl;have I:=dA q (kR _ _ _ _);rw[lM] at I;have k1:=bJ (a:=.k (.rse 3 false (eL1 (.c (.str "a row is a list of one to four ways")))) .z) (dX (dH (eB (cs:=[.tList]) q rfl)) (dH (aCA (aC (.i 1)) I (aC (.i 4)) (by have:=o.one;omega) (by have:=o.few;omega))));refine aH (F:=f22) rfl rfl (cs k1 (bE (eP (al:=[]) (λw=>Vl.cl w.d) Way.d eL ?_ (by have:=o.few;unfold lim;omega) λw U=>⟨[.F w.d,.T (.lst (aE bs)),.T (.i e)],?_,bX (aK 1 rfl) (dU 0 _) (aN 2 rfl rfl) (aBj n (o.ok w U).1 (o.ok w U).2)⟩)));rw[bQ,q,aA];show R.ok (items _ (ws.map Way.d),[])=_;rw[cE eL];rw[dW];rfl
theorem zZ(n:Nat){h:List (List Way)}(o:xB bs.length h):cP (n+39) 21 [.lst (aE bs),.lst (bR h)]=.ok (.lst (bR h),true,false):=by
 have q:=aK (P:=pg) (W:=cP (n+38)) (Z:=[.T (.lst (aE bs)),.T (.lst (bR h))]) 1 rfl;have I:=dA q (kR _ _ _ _);rw[lM] at I;have hc:ev pg (cP (n+38)) [.T (.lst (aE bs)),.T (.lst (bR h))] (.comp 1 [0,1] (.n 0) (.seq eV1) .z (.call 22 (eL3 eV1 eV0 (.bi .len (eL1 eV2)))))=.ok ⟨.lst (bR h),true,false,[]⟩:=by rw[mY (xs:=h.map λws=>⟨iO ws,false,true,[]⟩) (λx=>⟨x.d,true,false,[]⟩) ?_ (by rw[lM];have:=o.few;unfold lim;omega) λx hx=>?_];rw[Aw];exact congrArg R.ok (qD 1 [0,1] iO h);rw[bQ,q,aA];show R.ok (items _ (bR h),[])=_;unfold items;rw[Aw];rfl;obtain⟨ws,hw,rfl⟩:=AH.mp hx;have U:=dA (aK (P:=pg) (W:=cP (n+38)) (Z:=[.T (iO ws),.T (.lst (aE bs)),.T (.lst (bR h))]) 2 rfl) (kR _ _ _ _);rw[lM] at U;exact⟨[.T (iO ws),.T (.lst (aE bs)),.T (.lst (bR h))],rfl,fN (aK 1 rfl) (aK 0 rfl) U (aBk n (o.ok ws hw))⟩
 exact aH (F:=f21) rfl rfl (v:=⟨.lst (bR h),true,false,[]⟩) (cs (bJ (dX (dH (eB q rfl)) (bO I (aC (.i 8)) (congrArg some (A5 (by have:=o.few;omega)))))) (bE hc))
noncomputable def InR(bs:List (Str×Int))(acc:List Int):Prop:=∀(j:Nat) (a:Int) (b:Str×Int),acc[j]? = some a->bs[j]? = some b->0<=a/\a<=b.2
theorem aGK{bs:List (Str×Int)}{st:List Int}{b:Str×Int}{h:Nat}(hl:st.length=bs.length)(H:InR bs st)(hh:h<(b.2+1).toNat):InR (bs++[b]) (st++[(h:Int)]):=by
 intro j x c I q;by_cases W:j<bs.length;rw[Be (by omega)] at I;rw[Be W] at q;exact H j x c I q;rw[AB (by omega)] at I;rw[AB (by omega)] at q;have U:j-bs.length=0:=by have:=(Ao.mp q).1;simp at this;omega
 rw[hl,U] at I;rw[U] at q;cases I;cases q;omega
theorem aAa{bs:List (Str×Int)}:∀i,i<=bs.length->∀st∈standsL (bs.take i),st.length=i/\InR (bs.take i) st
 | 0,_,st,h=>by
  have:st=[]:=by simpa[standsL] using h
  subst this;exact⟨rfl,λj a b U _=>by simp at U⟩
 | i+1,hi,st,h=>by rw[fZ hi] at h;obtain⟨b,W,q⟩:=DS.mp h;obtain⟨m,hm,rfl⟩:=AH.mp q;obtain⟨I,l2⟩:=aAa i (by omega) b W;refine⟨by simp[I],?_⟩;rw[BP hi];exact aGK (by rw[I,A9];omega) l2 (by simpa using hm)
theorem nK{bs:List (Str×Int)}{st:List Int}(h:st∈standsL bs):st.length=bs.length/\InR bs st:=by have:=aAa bs.length (Ap _) st (by rw[BJ];exact h);rwa [BJ] at this
noncomputable def eF(ws:List Way)(i:Nat):Way:=ws.getD i ⟨.yes,[],0⟩
abbrev aI(i:Nat):D:=.i (i:Int)
theorem cR(i:Nat):noL (aI i)=true:=rfl
theorem xE{ws:List Way}{i:Nat}(h:i<ws.length):eF ws i∈ws/\ws[i]? = some (eF ws i):=by unfold eF;rw[Ag,Ad h];grind
theorem aIJ{P:Pg}{W:Caller}{Z:Sg}{a:E}{v:Vl}{ds:List D}(h:ev P W Z a=.ok v)(e:v.d=.lst ds):walk P W Z (.enum a)=.ok (items v (iJ 0 ds),v.al):=by show(ev P W Z a >>= λx=>(match yP x.d with|some as=>R.ok (items x (iJ 0 as),x.al)|none=>.bad))=_;rw[h,aA,e];rfl
theorem aCB{x:D}(h:eqD x x=some true):dJ .NotEq x x=some false:=by rw[aGv,h];rfl
section
variable {P:Pg} {W:Caller} {Z:Sg}
theorem aV(i:Nat){pa:Bool}{ds:List D}(h:Z[i]? = some (.own pa ds)):ev P W Z (.v i)=.ok ⟨.lst ds,false,pa,[i]⟩:=by show cX Z i=_;unfold cX;rw[h];rfl
theorem bB:evs P W Z .z=.ok (([]:List D).map Vl.cl):=rfl
theorem aF{a:E}{es:Es}{d:D}{ds:List D}(h:ev P W Z a=.ok (.cl d))(t:evs P W Z es=.ok (ds.map Vl.cl)):evs P W Z (.k a es)=.ok ((d::ds).map Vl.cl):=by rw[aJ,h,aA,t];rfl
theorem aGL(ds:List D):dS (ds.map Vl.cl)=false:=by
 induction ds with
 | nil=>rfl|cons d ds q=>unfold dS at q ⊢;rw[mC,IK,q];rfl
theorem aGM(ds:List D):bT (ds.map Vl.cl)=[]:=by
 induction ds with
 | nil=>rfl|cons d ds q=>unfold bT at q ⊢;rw[mC,DL,q];rfl
theorem aGN(ds:List D):(ds.map Vl.cl).map (·.d)=ds:=by rw[Aw];exact List.map_id _
theorem bL{es:Es}{ds:List D}(h:evs P W Z es=.ok (ds.map Vl.cl)):ev P W Z (.tup es)=.ok (.cl (.tup ds)):=by rw[sD,h,aA];show R.ok (Vl.mk (.tup ((ds.map Vl.cl).map (·.d))) false (dS (ds.map Vl.cl)) (bT (ds.map Vl.cl)))=_;rw[aGL,aGM,aGN];rfl
theorem dP{es:Es}{ds:List D}(h:evs P W Z es=.ok (ds.map Vl.cl)):ev P W Z (.lst es)=.ok ⟨.lst ds,true,false,[]⟩:=by rw[aGn,h,aA];show R.ok (Vl.mk (.lst ((ds.map Vl.cl).map (·.d))) true (dS (ds.map Vl.cl)) (bT (ds.map Vl.cl)))=_;rw[aGL,aGM,aGN]
theorem fB{a b:E}{x n:Int}(h:ev P W Z a=.ok (.cl (.i x)))(k:ev P W Z b=.ok (.cl (.i n)))(p:0<n):ev P W Z (.op .Mod a b)=.ok (.cl (.i (x % n))):=dI h k (aCu p)
theorem dB{a b:E}{x n:Int}(h:ev P W Z a=.ok (.cl (.i x)))(k:ev P W Z b=.ok (.cl (.i n))):ev P W Z (.op .Add a b)=.ok (.cl (.i (x+n))):=dI h k (add_int _ _)
theorem dC{a:E}{v:Vl}{ds:List D}(h:ev P W Z a=.ok v)(e:v.d=.lst ds):ev P W Z (.bi .len (.k a .z))=.ok (.cl (.i ds.length)):=dA h (by
 obtain⟨d,f,p,al⟩:=v;subst e;exact kR _ _ _ _)
theorem jI{α:Type}{f:α->D}{a b:E}{v:Vl}{xs:List α}{k:Nat}{x:α}(h:ev P W Z a=.ok v)(U:v.d=.lst (xs.map f))(q:ev P W Z b=.ok (.cl (.i (k:Int))))(hx:xs[k]? = some x)(I:noL (f x)=true):ev P W Z (.idx a b)=.ok (.cl (f x)):=
 aZ h q ((pI U hx).trans (congrArg R.ok (cK I)))
theorem fP{a b:E}{v:Vl}{xs:List Int}{k:Nat}(h:ev P W Z a=.ok v)(U:v.d=.lst (xs.map D.int))(q:ev P W Z b=.ok (.cl (.i (k:Int))))(I:k<xs.length):ev P W Z (.idx a b)=.ok (.cl (.i (xs.getD k 0))):=
 aZ h q (aID U I)
theorem pS{a b:List D}{v w:Vl}(hv:v.d=.lst a)(hw:w.d=.lst b)(U:noLs a=true)(hb:noLs b=true)(hl:a.length+b.length<=lim):opD .Add v w=.ok ⟨.lst (a++b),true,false,[]⟩:=by obtain⟨_,f,p,al⟩:=v;obtain⟨_,f',I,q⟩:=w;cases hv;cases hw;show R.iff (decide (a.length+b.length<=lim)) (.ok (Vl.mk (.lst (a++b)) true ((p&&!noLs a)||(I&&!noLs b)) ((if noLs a then [] else al)++(if noLs b then [] else q))))=_;rw[Am hl,U,hb];cases p <;> cases I <;> rfl
theorem aIK{f:Nat}{a:E}{x:Vl}{k:Bool}(h1:ev P W Z a=.ok x)(q:W f [x.d]=.ok (.bl k,false,false)):tst P W Z (.call f (.k a .z))=.ok k:=by
 have e:evs P W Z (.k a .z)=.ok [x]:=by rw[aJ,h1];rfl
 rw[iM,e,aA,show [x].map (·.d)=[x.d] from rfl,q];rfl
end
theorem aEc(x:Int){n:Nat}(h:0<n):∃k:Nat,x % (n:Int)=(k:Int)/\k<n:=by have h1:=Hx x (show(n:Int)≠0 by omega);have h2:=Gz x (show(0:Int)<n by omega);exact⟨(x % n).toNat,by omega,by omega⟩
abbrev b3(s t:Int):List (Str×Int):=[("a",s),("b",t),("c",1)]
abbrev b4(s:Int):List (Str×Int):=[("a",1),("b",1),("c",1),("d",s)]
noncomputable def boxSet:List (List (Str×Int)):=[b3 1 1,b3 2 1,b3 1 2,b3 2 2,b4 1,b4 2]
theorem box_six{bs:List (Str×Int)}(q:bs∈boxSet):bs=b3 1 1\/bs=b3 2 1\/bs=b3 1 2\/bs=b3 2 2\/bs=b4 1\/bs=b4 2:=by simpa only[boxSet,AA,AI,E9] using q
theorem fK{bs:List (Str×Int)}(q:bs∈boxSet):3<=bs.length/\bs.length<=4:=by rcases box_six q with rfl|rfl|rfl|rfl|rfl|rfl <;> decide
theorem xF{bs:List (Str×Int)}(q:bs∈boxSet):∀b∈bs,1<=b.2/\b.2<=2:=by rcases box_six q with rfl|rfl|rfl|rfl|rfl|rfl <;> decide +kernel
theorem aAb{bs:List (Str×Int)}(q:bs∈boxSet):jK bs<=24/\1<=jK bs:=by rcases box_six q with rfl|rfl|rfl|rfl|rfl|rfl <;> decide +kernel
theorem aAc{bs:List (Str×Int)}(q:bs∈boxSet):aIz bs:=⟨by have:=fK q;omega,λb h=>by have:=xF q b h;omega,(aAb q).1⟩
theorem aGO{bs:List (Str×Int)}(I:bs∈boxSet):∀b∈bs,∃c:Nat,b.1=⟨#[c]⟩/\dJ .In (.str ⟨#[c]⟩) (.str "abcdefghijklmnopqrstuvwxyz")=some true:=by
 have h:∀x∈[("a" : Str), "b", "c", "d"],∃c:Nat,x=⟨#[c]⟩/\dJ .In (.str ⟨#[c]⟩) (.str "abcdefghijklmnopqrstuvwxyz")=some true:=λx q=>by simp only[AA,AI,E9] at q;rcases q with rfl|rfl|rfl|rfl;exact⟨97,by decide +kernel,by decide +kernel⟩;exact⟨98,by decide +kernel,by decide +kernel⟩;exact⟨99,by decide +kernel,by decide +kernel⟩;exact⟨100,by decide +kernel,by decide +kernel⟩
 intro b U;refine h b.1 ?_;revert b;rcases box_six I with rfl|rfl|rfl|rfl|rfl|rfl <;> decide +kernel
theorem aGP(n:Nat){c:Nat}(h:dJ .In (.str ⟨#[c]⟩) (.str "abcdefghijklmnopqrstuvwxyz")=some true):cP (n+1) 5 [.str ⟨#[c]⟩]=.ok (.bl true,false,false):=by
 have q:=aN (P:=pg) (W:=cP n) (Z:=[.T (.str ⟨#[c]⟩)]) 0 rfl rfl;have U:ev pg (cP n) [.T (.str ⟨#[c]⟩)] (.comp 1 [] (.n 0) (.seq eV0) .z (.cmp .In eV0 (.c (.str "abcdefghijklmnopqrstuvwxyz"))))=.ok ⟨.lst [.bl true],true,false,[]⟩:=
  eP (ts:=[c]) (λc=>Vl.cl (.str ⟨#[c]⟩)) (λ_=>.bl true) (λ_=>rfl) (by rw[bQ,q];rfl) (by unfold lim;simp) λt I=>by rw[A0] at I;subst I;exact⟨[.F (.str ⟨#[t]⟩)],rfl,nB (dU 0 _) (aC _) h⟩
 exact aH (F:=f5) rfl rfl (v:=.cl (.bl true)) (cs (bJ (dX (dH (eB q rfl)) (dH (aCA (y:=1) (aC (.i 1)) (dA q rfl) (aC (.i 8)) (by decide) (by decide))))) (bE (dA U rfl)))
theorem aBl(n:Nat){b:Str×Int}{c:Nat}(hb:b.1=⟨#[c]⟩)(h:dJ .In (.str ⟨#[c]⟩) (.str "abcdefghijklmnopqrstuvwxyz")=some true)(I:1<=b.2/\b.2<=2):cP (n+3) 4 [box b]=.ok (box b,false,false):=by obtain⟨x,t⟩:=b;subst hb;have q:=aN (P:=pg) (W:=cP (n+2)) (Z:=[.T (box (⟨#[c]⟩,t))]) 0 rfl rfl;have U:=aZ q (aC (.i 0)) (gL (.str ⟨#[c]⟩) [.i t] rfl);have i1:=aZ q (aC (.i 1)) (gM (.str ⟨#[c]⟩) (.i t) [] rfl);exact aH (F:=f4) rfl rfl (cs (bJ (dX (dH (eB q rfl)) (bO (dA q (kT _)) (aC _) rfl))) (cs (bJ (dH (aIK U (aGP (n+1) h)))) (cs (bJ (dH (gB i1 (aC _) (aC _) (iP n t 1 7 I.1 (by have:=I.2;show t<=7;omega))))) (bE (jE U i1)))))
theorem nA(b:Str×Int):noL (box b)=true:=rfl
theorem xG(n:Nat){bs:List (Str×Int)}(q:bs∈boxSet):cP (n+4) 3 [.lst (aE bs)]=.ok (.lst (aE bs),true,false):=by
 obtain⟨l3,l4⟩:=fK q;have I:=aK (P:=pg) (W:=cP (n+3)) (Z:=[.T (.lst (aE bs)),.x]) 0 rfl;have U:=dC I rfl;rw[show(aE bs).length=bs.length from lM _] at U;have k1:ex pg (cP (n+3)) [.T (.lst (aE bs)),.x] (.set (.n 1) (.comp 1 [] (.n 0) (.seq eV0) .z (.call 4 (eL1 eV0))))=.next [.T (.lst (aE bs)),.O (aE bs)]:=by refine bK (eP (al:=[]) (λb=>Vl.cl (box b)) box nA ?_ (by unfold lim;omega) λb hm=>?_);rw[bQ,I,aA];show R.ok (items _ (bs.map box),[])=_;rw[cE nA];obtain⟨c,h1,h2⟩:=aGO q b hm;exact⟨[.F (box b)],rfl,cQ (dU 0 _) (aBl n h1 h2 (xF q b hm))⟩
 have k2:tst pg (cP (n+3)) [.T (.lst (aE bs)),.O (aE bs)] (.cmp .Lt (.numset (.comp 2 [] (.t [0,1]) (.seq eV1) .z eV0)) (.bi .len (eL1 eV1)))=.ok false:=by rcases box_six q with rfl|rfl|rfl|rfl|rfl|rfl <;> rfl
 have k3:tst pg (cP (n+3)) [.T (.lst (aE bs)),.O (aE bs)] (.cmp .Gt (.call 6 (eL1 eV1)) aOT)=.ok false:=by rcases box_six q with rfl|rfl|rfl|rfl|rfl|rfl <;> rfl
 exact aH (F:=f3) rfl rfl (cs (bJ (dX (dH (eB I rfl)) (dH (aCA (aC (.i 1)) U (aC (.i 5)) (by omega) (by omega))))) (cs k1 (cs (bJ k2) (cs (bJ k3) (mE rfl)))))
structure oN (m:Nat) (z:List Nat):Prop where
 one:1<=z.length
 few:z.length<=4
 ok:∀b∈z,b<m
abbrev nL(z:List Nat):D:=.lst (z.map aI)
theorem aGQ(n:Nat)(x:Int){h m:Nat}(hh:h<3)(sh:Int)(hm:3<=m)(q4:m<=4):∃(z:List Nat) (fr:Bool),oN m z/\cP (n+1) 44 [.i x,.i h,.i sh,.i m]=.ok (nL z,fr,false):=by
 have I:∃z:List Nat,oN m z/\ev pg (cP n) [.T (.i x),.T (.i h),.T (.i sh),.T (.i m)] (.idx (.lst (eL3 (.lst (eL1 eC0)) (.lst (eL2 eC1 eC2)) (.lst (eL1 eC0)))) eV1)=.ok ⟨nL z,false,false,[]⟩:=by
  have:h=0\/h=1\/h=2:=by omega
  rcases this with rfl|rfl|rfl;exact⟨[0],⟨by decide,by decide,λb q=>by simp at q;omega⟩,rfl⟩;exact⟨[1,2],⟨by decide,by decide,λb q=>by simp at q;omega⟩,rfl⟩;exact⟨[0],⟨by decide,by decide,λb q=>by simp at q;omega⟩,rfl⟩
 obtain⟨z,zo,hz⟩:=I;have U:∀(j:Int),tst pg (cP n) [.T (.i x),.T (.i h),.T (.i sh),.T (.i m)] (.cmp .Eq (.op .Mod eV0 eC4) (.c (.i j)))=.ok (x % 4==j):=λj=>bO (fB (aN 0 rfl rfl) (aC (.i 4)) (by decide)) (aC _) rfl;cases q0:(sh==0) with
 | true=>exact⟨z,false,zo,aH (F:=f44) rfl rfl (v:=⟨nL z,false,false,[]⟩) (gK (bO (aN 2 rfl rfl) (aC _) (congrArg some q0)) (bE hz))⟩|false=>
  have k0:=bJ (P:=pg) (W:=cP n) (Z:=[.T (.i x),.T (.i h),.T (.i sh),.T (.i m)]) (a:=.k (.ret (.idx (.lst (eL3 (.lst (eL1 eC0)) (.lst (eL2 eC1 eC2)) (.lst (eL1 eC0)))) eV1)) .z) (bO (o:=.Eq) (aN 2 rfl rfl) (aC (.i 0)) (congrArg some q0));cases q1:(x % 4==0) with
  | true=>
   have hc:ev pg (cP n) [.T (.i x),.T (.i h),.T (.i sh),.T (.i m)] (.comp 1 [] (.n 0) (.rng eC0 eV3) .z eV0)=.ok ⟨nL (Ar m),true,false,[]⟩:=
    eP (λi=>Vl.cl (aI i)) aI cR (cH (aN 3 rfl rfl) rfl (by omega)) (by rw[AS];unfold lim;omega) λi _=>⟨[.F (aI i)],rfl,dU 0 _⟩
   exact⟨Ar m,true,⟨by rw[AS];omega,by rw[AS];exact q4,λb q=>B5.mp q⟩,aH (F:=f44) rfl rfl (cs k0 (gK ((U 0).trans (congrArg R.ok q1)) (bE hc)))⟩
  | false=>
   have k1:=bJ (a:=.k (.ret (.comp 1 [] (.n 0) (.rng eC0 eV3) .z eV0)) .z) ((U 0).trans (congrArg R.ok q1));cases q2:(x % 4==1) with
   | true=>exact⟨[h],true,⟨by simp,by simp,λb q=>by simp at q;omega⟩,aH (F:=f44) rfl rfl (cs k0 (cs k1 (gK ((U 1).trans (congrArg R.ok q2)) (bE (dP (aF (aN 1 rfl rfl) bB))))))⟩|false=>
    have k2:=bJ (a:=.k (.ret (.lst (eL1 eV1))) .z) ((U 1).trans (congrArg R.ok q2));cases q3:(x % 4==2) with
    | true=>exact⟨z,false,zo,aH (F:=f44) rfl rfl (cs k0 (cs k1 (cs k2 (gK ((U 2).trans (congrArg R.ok q3)) (bE hz)))))⟩|false=>exact⟨[h,2],true,⟨by simp,by simp,λb q=>by simp at q;omega⟩,aH (F:=f44) rfl rfl (cs k0 (cs k1 (cs k2 (cs (bJ ((U 2).trans (congrArg R.ok q3))) (bE (dP (aF (aN 1 rfl rfl) (aF (aC _) bB))))))))⟩
section
variable {P:Pg} {W:Caller} {Z:Sg}
theorem oO{α:Type}{f:α->D}{zs:List α}{q a:E}{v:Vl}{x:Int}(hz:ev P W Z q=.ok v)(hv:v.d=.lst (zs.map f))(ha:ev P W Z a=.ok (.cl (.i x)))(hl:1<=zs.length)(nf:∀t,noL (f t)=true) :
 ∃t∈zs,ev P W Z (.idx q (.op .Mod a (.bi .len (.k q .z))))=.ok (.cl (f t)):=by have I:=dC hz hv;rw[lM] at I;obtain⟨k,e,U⟩:=aEc x (n:=zs.length) (by omega);have hm:=fB ha I (by omega);rw[e] at hm;exact⟨zs[k],AK U,jI hz hv hm (Ad U) (nf _)⟩
theorem qF{α:Type}{f:α->D}{zs:List α}{I a:E}{v:Vl}{x:Int}{n:Nat}(hz:ev P W Z I=.ok v)(hv:v.d=.lst (zs.map f))(ha:ev P W Z a=.ok (.cl (.i x)))(hn:zs.length=n)(U:0<n)(nf:∀t∈zs,noL (f t)=true) :
 ∃t∈zs,ev P W Z (.idx I (.op .Mod a (.c (.i n))))=.ok (.cl (f t)):=by obtain⟨k,e,hk⟩:=aEc x U;have q:=fB ha (aC (.i n)) (by omega);rw[e] at q;exact⟨zs[k],AK (by omega),jI hz hv q (Ad (by omega)) (nf _ (AK (by omega)))⟩
end
variable {bs:List (Str×Int)}
theorem uZ{m b q:Nat}{p:Bool}{k:Int}(U:b<m)(W:q<m)(I:0<=k/\k<=99):∀t∈([.yes,.yes,.yes,.cmp p (.box b) (.num k),.nt (.cmp p (.box b) (.num k)),.two false (.cmp p (.box b) (.num k)) (.cmp true (.two false (.box q) (.box b)) (.num 0))]++[.two true (.cmp false (.box q) (.two true (.box b) (.num 1))) (.nt (.cmp p (.box b) (.num k)))]:List Cn),t.wf m true/\t.sz<=31:=by simp only[EX,Ee,AA,AI,E9];rintro t (rfl|rfl|rfl|rfl|rfl|rfl|rfl) <;> simp[Cn.wf,Sm.wf,Cn.sz,Sm.sz,U,W,I.1,I.2]
theorem aBm(n:Nat){ys:List Int}(hl:ys.length=12){z:List Nat}(W:oN bs.length z):∃g:Cn,g.wf bs.length true/\g.sz<=31/\cP (n+1) 45 [.lst (ys.map D.int),.lst (aE bs),nL z]=.ok (g.d,false,false):=by
 let Z:Sl->Sl->Sl->Sl->Sl->Sl->Sg:=λs3 s4 s5 s6 I U=>[.T (.lst (ys.map D.int)),.T (.lst (aE bs)),.T (nL z),s3,s4,s5,s6,I,U]
 have v2:∀s3 s4 s5 s6 I U,ev pg (cP n) (Z s3 s4 s5 s6 I U) eV2=.ok ⟨.lst (z.map aI),false,true,[]⟩:=λ_ _ _ _ _ _=>aK 2 rfl;have y:∀(k:Nat) s3 s4 s5 s6 I U,k<12->ev pg (cP n) (Z s3 s4 s5 s6 I U) (.idx eV0 (.c (.i (k:Int))))=.ok (.cl (.i (ys.getD k 0))):=λk _ _ _ _ _ _ hk=>fP ((λ_ _ _ _ _ _=>aK 0 rfl) _ _ _ _ _ _) rfl (aC _) (by omega);obtain⟨b,hb,e1⟩:=oO (v2 .x .x .x .x .x .x) rfl (y 0 .x .x .x .x .x .x (by decide)) W.one cR;obtain⟨p,hp,e3⟩:=qF (zs:=[true,false]) (f:=λp=>.str (wZ p)) (dP (aF (aC _) (aF (aC _) bB))) rfl (y 2 _ _ _ _ _ _ (by decide)) rfl (by decide) (λ_ _=>rfl)
 let F:=Cn.cmp p (.box b) (.num (ys.getD 1 0 % 3))
 obtain⟨q,hq,e4⟩:=oO (v2 (.F (aI b)) (.F (Sm.num (ys.getD 1 0 % 3)).d) (.F F.d) .x .x .x) rfl (dI (y 1 (.F (aI b)) (.F (Sm.num (ys.getD 1 0 % 3)).d) (.F F.d) .x .x .x (by decide)) (aC (.i 3)) (qB (by decide))) W.one cR
 let O:=Sm.box q
 let τ:Sl->Sl->Sg:=λI U=>Z (.F (aI b)) (.F (Sm.num (ys.getD 1 0 % 3)).d) (.F F.d) (.F O.d) I U
 have w3:∀I U,ev pg (cP n) (τ I U) eV3=.ok (.cl (aI b)):=λ_ _=>dU 3 _;have w5:∀I U,ev pg (cP n) (τ I U) eV5=.ok (.cl F.d):=λ_ _=>dU 5 _;have w6:∀I U,ev pg (cP n) (τ I U) eV6=.ok (.cl O.d):=λ_ _=>dU 6 _;have bx:∀I U,ev pg (cP n) (τ I U) (.tup (eL2 (.c (.str "box")) eV3))=.ok (.cl (Sm.box b).d):=λ_ _=>bL (aF (aC _) (aF (w3 _ _) bB));have nf:∀I U,ev pg (cP n) (τ I U) (.tup (eL2 (.c (.str "not")) eV5))=.ok (.cl (Cn.nt F).d):=λ_ _=>bL (aF (aC _) (aF (w5 _ _) bB))
 let M1:=Cn.cmp true (.two false O (.box b)) (.num 0)
 let M2:=Cn.cmp false O (.two true (.box b) (.num 1))
 let gl:List Cn:=[.yes,.yes,.yes,F,.nt F,.two false F M1]++[.two true M2 (.nt F)]
 obtain⟨g,hg,q0⟩:=qF (n:=7) (zs:=gl) (dI (Z:=τ (.O ([Cn.yes,.yes,.yes,F,.nt F,.two false F M1].map Cn.d)) (.F M2.d)) (a:=.v 7) (aCr 7 false _) (dP (aF (bL (aF (aC (.str "both")) (aF (aD 8 rfl) (aF (nf _ _) bB)))) bB)) (pS rfl rfl (bI Cn.noL _) (bI Cn.noL [Cn.two true M2 (.nt F)]) (by unfold lim;simp))) (by show D.lst _=D.lst (gl.map Cn.d);rw[Ax];rfl) (y 3 _ _ _ _ _ _ (by decide)) rfl (by decide) (λt _=>t.noL);exact⟨g,((uZ (W.ok b hb) (W.ok q hq) (by omega)) g hg).1,((uZ (W.ok b hb) (W.ok q hq) (by omega)) g hg).2,aH (F:=f45) rfl rfl (v:=.cl g.d) (cs (aT e1) (cs (aT (bL (aF (aC _) (aF (fB (y 1 _ _ _ _ _ _ (by decide)) (aC (.i 3)) (by decide)) bB)))) (cs (aT (bL (aF e3 (aF (bL (aF (aC _) (aF (dU 3 _) bB))) (aF (dU 4 _) bB))))) (cs (aT (bL (aF (aC _) (aF e4 bB)))) (cs (bK (dP (aF ((λ_ _=>bL (aF (aC _) bB)) _ _) (aF ((λ_ _=>bL (aF (aC _) bB)) _ _) (aF ((λ_ _=>bL (aF (aC _) bB)) _ _) (aF (w5 _ _) (aF (nf _ _) bB))))))) (cs ((λI=>aT (bL (aF (aC _) (aF (bL (aF (aC _) (aF (w6 _ _) (aF (bx _ _) bB)))) (aF (bL (aF (aC _) (aF (aC _) bB))) bB))))) _) (cs (gN (bL (aF (aC _) (aF (w5 _ _) (aF (aD 8 rfl) bB)))) rfl (by unfold lim;simp) rfl rfl) (cs ((λI U=>aT (bL (aF (aC _) (aF (w6 _ _) (aF (bL (aF (aC _) (aF (bx _ _) (aF (bL (aF (aC _) (aF (aC _) bB))) bB)))) bB))))) _ _) (bE q0)))))))))⟩
theorem aGR{α:Type}{f:α->D}{v:Vl}(xs:List α)(x:α)(U:v.d=.lst ((xs++[x]).map f))(I:noL (f x)=true):eT v (.cl (.i (-1)))=.ok (.cl (f x)):=by
 have q:((xs++[x]).map f).length=xs.length+1:=by simp
 have W:((xs++[x]).map f)[xs.length]? = some (f x):=by simp
 unfold eT;rw[U];show(match ixN ((xs++[x]).map f).length (-1) with
  | some j=>(match ((xs++[x]).map f)[j]? with|some d=>R.ok (v.sub d)|none=>.bad)
  | none=>.bad)=_
 have:ixN ((xs++[x]).map f).length (-1)=some xs.length:=by
  rw[q];unfold ixN;rw[if_neg (by decide),if_pos (by omega)]
  congr 1
  omega
 rw[this];show(match ((xs++[x]).map f)[xs.length]? with|some d=>R.ok (v.sub d)|none=>.bad)=_;rw[W];exact congrArg R.ok (cK I)
theorem aIL{ps:List (Nat×Sm)}{q p:Nat×Sm}(h:Up (ps++[q]))(I:q.1<p.1):Up (ps++[q]++[p]):=by unfold Up at h ⊢;rw[List.pairwise_append];grind
variable {bs:List (Str×Int)}
theorem aMi(q:bs∈boxSet){k:Nat}(h:k<bs.length):0<=iF bs k/\iF bs k<=99:=by unfold iF;rw[Ag,Ad (by rw[lM];exact h),Option.getD_some,AD];have:=xF q bs[k] (AK h);omega
theorem aIM{m b q:Nat}{t k:Int}(W:b<m)(hq:q<m)(U:0<=t/\t<=99)(I:0<=k/\k<=99):∀s∈([.two false (.num t) (.box b),.num k]++[.box q,.two true (.box q) (.num 0)]:List Sm),s.wf m true/\s.sz<=3:=by simp only[EX,Ee,AA,AI,E9];rintro s (rfl|rfl|rfl|rfl) <;> simp[Sm.wf,Sm.sz,W,hq,U.1,U.2,I.1,I.2]
abbrev pdF(ys:List Int)(bs:List (Str×Int))(z:List Nat)(ps:List (Nat×Sm))(s4 s5 s6 s7 s8:Sl):Sg:=[.T (.lst (ys.map D.int)),.T (.lst (aE bs)),.T (nL z),.O (ps.map fA),s4,s5,s6,s7,s8]
abbrev pdB:Ss:=match hdS (drp 1 f46.body) with|.for _ _ b=>b|_=>.z
theorem aEd(n:Nat)(q4:bs∈boxSet){ys:List Int}(hl:ys.length=7){z:List Nat}(zo:oN bs.length z){ps:List (Nat×Sm)}{k:Nat}(hk:k<2)(ok:∀p∈ps,nF bs.length p)(up:Up ps)(pl:ps.length<=k)(s5 s6 s7 U:Sl) :
 ∃(I:List (Nat×Sm)) (t5 t6 t7 t8:Sl),(∀p∈I,nF bs.length p)/\Up I/\I.length<=k+1/\exs pg (cP n) (pdF ys bs z ps (.F (aI k)) s5 s6 s7 U) pdB=.next (pdF ys bs z I (.F (aI k)) t5 t6 t7 t8):=by
 have v2:∀ps s5 s6 s7 U,ev pg (cP n) (pdF ys bs z ps (.F (aI k)) s5 s6 s7 U) eV2=.ok ⟨.lst (z.map aI),false,true,[]⟩:=λ_ _ _ _ _=>aK 2 rfl;have y:∀(a:Nat) ps s5 s6 s7 U,a<6->ev pg (cP n) (pdF ys bs z ps (.F (aI k)) s5 s6 s7 U) (.idx eV0 (.op .Add (.c (.i (a:Int))) eV4))=.ok (.cl (.i (ys.getD (a+k) 0))):=λa ps s5 s6 s7 U ha=>fP ((λ_ _ _ _ _=>aK 0 rfl) _ _ _ _ _) rfl (by
  have:=dB (P:=pg) (W:=cP n) (Z:=pdF ys bs z ps (.F (aI k)) s5 s6 s7 U) (aC (.i (a:Int))) (aD 4 rfl);rw[show(a:Int)+(k:Int)=((a+k:Nat):Int) by omega] at this;exact this) (by omega)
 obtain⟨b,hb,e1⟩:=oO (v2 ps s5 s6 s7 U) rfl (y 1 ps s5 s6 s7 U (by decide)) zo.one cR;have wb:=zo.ok b hb;obtain⟨bd,nb,i1,i2⟩:=aCy wb;obtain⟨q,hq,e3⟩:=oO (v2 ps (.F (aI b)) (.F (Sm.num (iF bs b)).d) s7 U) rfl (y 3 ps (.F (aI b)) (.F (Sm.num (iF bs b)).d) s7 U (by decide)) zo.one cR
 let τ:List (Nat×Sm)->Sl->Sg:=λps U=>pdF ys bs z ps (.F (aI k)) (.F (aI b)) (.F (Sm.num (iF bs b)).d) (.F (Sm.box q).d) U
 let A:List Sm:=[.two false (.num (iF bs b)) (.box b),.num (ys.getD (3+k) 0 % 2)]
 let B:List Sm:=[.box q,.two true (.box q) (.num 0)]
 have k5:ex pg (cP n) (τ ps (.O (A.map Sm.d))) (hdS (drp 4 pdB))=.next (τ ps (.O ((A++B).map Sm.d))):=by rw[Ax];exact bK (dI (aV 8 rfl) (dP (aF ((λ_ _=>aD 7 rfl) _ _) (aF (bL (aF (aC _) (aF ((λ_ _=>aD 7 rfl) _ _) (aF (bL (aF (aC _) (aF (aC _) bB))) bB)))) bB))) (pS rfl rfl (bI Sm.noL A) (bI Sm.noL B) (by unfold lim;simp[A,B])))
 obtain⟨s,hs,e6⟩:=qF (n:=4) (zs:=A++B) (aV 8 rfl) rfl (y 5 _ _ _ _ _ (by decide)) rfl (by decide) (λt _=>t.noL);have so:=aIM wb (zo.ok q hq) (aMi q4 wb) (by omega) s hs;have v3:=aV (P:=pg) (W:=cP n) (Z:=τ ps (.O ((A++B).map Sm.d))) 3 rfl;have q0:=dC v3 rfl;have q2:exs pg (cP n) (τ ps (.O ((A++B).map Sm.d))) (match hdS (drp 5 pdB) with|.iff _ a _=>a|_=>.z)=.next (τ (ps++[(b,s)]) (.O ((A++B).map Sm.d))):=bG (gN (jE (aD 5 rfl) e6) rfl (by rw[lM];unfold lim;omega) rfl (by rw[Ax];rfl));have q3:∀{Z'},ex pg (cP n) (τ ps (.O ((A++B).map Sm.d))) (hdS (drp 5 pdB))=.next Z'->exs pg (cP n) (pdF ys bs z ps (.F (aI k)) s5 s6 s7 U) pdB=.next Z':=λe=>cs (aT e1) (cs (aT (bL (aF (aC _) (aF (aZ (aZ (aK 1 rfl) (aD 5 rfl) i1) (aC (.i 1)) i2) bB)))) (cs (aT (bL (aF (aC _) (aF e3 bB)))) (cs (bK (dP (aF (bL (aF (aC _) (aF (aD 6 rfl) (aF (bL (aF (aC _) (aF (aD 5 rfl) bB))) bB)))) (aF (bL (aF (aC _) (aF (fB (y 3 _ _ _ _ _ (by decide)) (aC (.i 2)) (by decide)) bB))) bB)))) (cs k5 (bG e)))));rcases(show ps=[]\/∃I p,ps=I++[p] from(F5 ps).imp id λ⟨a,b,e⟩=>⟨a,b,by rw[e,F6]⟩) with rfl|⟨I,p,rfl⟩
 refine⟨[(b,s)],_,_,_,_,λp hp=>?_,List.pairwise_singleton _ _,by simp,q3 (nH (aJD (bO q0 (aC _) rfl)) q2)⟩;rw[A0] at hp;rw[hp];exact(⟨wb,so.1,so.2⟩);have q1:tst pg (cP n) (τ (I++[p]) (.O ((A++B).map Sm.d))) (.cmp .Lt (.idx (.idx eV3 (.neg eC1)) eC0) eV5)=.ok (decide ((p.1:Int)<(b:Int))):=bO (aZ (aZ v3 (by rw[aLS];rfl) (aGR I p rfl (qC p))) (aC (.i 0)) (gL _ _ rfl)) (aD 5 rfl) rfl;by_cases q5:p.1<b;rw[Am (by omega)] at q1;exact⟨I++[p]++[(b,s)],_,_,_,_,kA ok (⟨wb,so.1,so.2⟩),aIL up q5,by rw[lA];simp at pl ⊢;omega,q3 (nH (dX (bO q0 (aC (.i 0)) (congrArg some (beq_eq_false_iff_ne.mpr (by simp;omega)))) q1) q2)⟩;rw[A5 (by omega)] at q1;exact⟨I++[p],_,_,_,_,ok,up,by omega,q3 (bJ (dX (bO q0 (aC (.i 0)) (congrArg some (beq_eq_false_iff_ne.mpr (by simp;omega)))) q1))⟩
theorem aEe(n:Nat)(q0:bs∈boxSet){ys:List Int}(hl:ys.length=7){z:List Nat}(zo:oN bs.length z):∃ps:List (Nat×Sm),(∀p∈ps,nF bs.length p)/\Up ps/\cP (n+1) 46 [.lst (ys.map D.int),.lst (aE bs),nL z]=.ok (.tup (ps.map fA),false,false):=by
 have y0:=fB (P:=pg) (W:=cP n) (Z:=pdF ys bs z [] .x .x .x .x .x) (fP (k:=0) (aK 0 rfl) rfl (aC _) (by omega)) (aC (.i 3)) (by decide);obtain⟨N,eN,hN⟩:=aEc (ys.getD 0 0) (n:=3) (by decide);rw[show((3:Nat):Int)=3 from rfl] at eN;rw[eN] at y0;obtain⟨Z',ef,ps,s4,q,I,U,s8,h1,h2,h3,rfl⟩:=cS (t:=.n 4) (λi Z=>∃(ps:List (Nat×Sm)) (s4 q I U s8:Sl),(∀p∈ps,nF bs.length p)/\Up ps/\ps.length<=i/\Z=pdF ys bs z ps s4 q I U s8) (cH y0 rfl (by omega)) ⟨[],_,_,_,_,_,λ_ z=>absurd z AI,G9,Ap _,rfl⟩ λi hi Z ⟨ps,s4,q,I,U,s8,h1,h2,h3,q1⟩=>by
  have q3:i<N:=by simpa using hi
  subst q1;obtain⟨q2,t5,t6,t7,t8,g1,g2,g3,g4⟩:=aEd n q0 hl zo (by omega) h1 h2 h3 q I U s8;refine⟨pdF ys bs z ps (.F (aI i)) q I U s8,_,?_,g4,q2,_,t5,t6,t7,t8,g1,g2,g3,rfl⟩;rw[AD,Bd,dW];rfl
 exact⟨ps,h1,h2,aH (F:=f46) rfl rfl (cs rfl (cs ef (bE (dA (aV 3 rfl) (aCx 3 (gE ps))))))⟩
theorem aIN{α q:Type}(f:α->q)(xs:List α)(lo hi:Option Int):cut (xs.map f) lo hi=(cut xs lo hi).map f:=by unfold cut;rw[lM,CW,DW]
theorem aIO{ys:List Int}(h:ys.length=12):(cut ys (some 4) (some 11)).length=7:=by unfold cut;rw[A9,BI,h];rfl
theorem aOV{P:Pg}{W:Caller}{Z:Sg}{a b c e:E}{x y z w:Vl}(h1:ev P W Z a=.ok x)(h2:ev P W Z b=.ok y)(q:ev P W Z c=.ok z)(I:ev P W Z e=.ok w):evs P W Z (.k a (.k b (.k c (.k e .z))))=.ok [x,y,z,w]:=by rw[aJ,h1,aA,aJ,h2,aA,aJ,q,aA,aJ,I,aA,cB];rfl
theorem xH{P:Pg}{W:Caller}{Z:Sg}{f:Nat}{a b c e:E}{x y z w:Vl}{d:D}{fr:Bool}(h1:ev P W Z a=.ok x)(h2:ev P W Z b=.ok y)(q:ev P W Z c=.ok z)(I:ev P W Z e=.ok w)(U:W f [x.d,y.d,z.d,w.d]=.ok (d,fr,false))(hl:(fr&&isL d)=fr:=by rfl):ev P W Z (.call f (.k a (.k b (.k c (.k e .z)))))=.ok ⟨d,fr,false,[]⟩:=by rw[eY,aOV h1 h2 q I,aA,show [x,y,z,w].map (·.d)=[x.d,y.d,z.d,w.d] from rfl,U];show R.ok (⟨d,fr&&isL d,false,[]⟩:Vl)=_;rw[hl]
noncomputable def Is(s:Sl)(ds:List D):Prop:=s=.O ds\/s=.F (.lst ds)
theorem aJF{P:Pg}{W:Caller}{Z:Sg}{s:Sl}{ds:List D}(h:Is s ds){i:Nat}(hi:Z[i]? = some s):∃v,ev P W Z (.v i)=.ok v/\v.d=.lst ds/\v.pa=false:=by rcases h with rfl|rfl;exact⟨_,aV i hi,rfl,rfl⟩;exact⟨_,aD i hi,rfl,rfl⟩
theorem aMj{P:Pg}{W:Caller}{Z:Sg}{i:Nat}{e:E}{ds:List D}{fr:Bool}(h:ev P W Z e=.ok ⟨.lst ds,fr,false,[]⟩):∃s,Is s ds/\ex P W Z (.set (.n i) e)=.next (Z.set i s):=by
 cases fr with
 | true=>exact⟨_,.inl rfl,bK h⟩|false=>exact⟨_,.inr rfl,aT h⟩
variable {bs:List (Str×Int)}
abbrev hdF(c:Int)(bs:List (Str×Int))(h r:Nat)(sh:Int)(xs:List Int)(s6:Sl)(rs:List (List Way))(s8 s9 s10 s11 s12 s13:Sl):Sg:=[.T (.i c),.T (.lst (aE bs)),.T (.i h),.T (.i r),.T (.i sh),.O (xs.map D.int),s6,.O (bR rs),s8,s9,s10,s11,s12,s13]
abbrev hdB:Ss:=match hdS (drp 3 f47.body) with|.for _ _ b=>b|_=>.z
abbrev hdI:Ss:=match hdS (drp 1 hdB) with|.for _ _ b=>b|_=>.z
theorem aIP{P:Pg}{W:Caller}{Z:Sg}{a b c:E}{x:Vl}{i j:Int}(h1:ev P W Z a=.ok x)(h2:ev P W Z b=.ok (.cl (.i i)))(q:ev P W Z c=.ok (.cl (.i j)))(s1:aM i=true)(s2:aM j=true):ev P W Z (.sli a (.k b .z) (.k c .z))=eU x (some i) (some j):=by simp_all
theorem aGS(n:Nat)(q3:bs∈boxSet){c sh:Int}{h r:Nat}{xs:List Int}(hx:xs.length=3+14*r){z:List Nat}(zo:oN bs.length z){s6:Sl}(hz:Is s6 (z.map aI)){rs:List (List Way)}{k j:Nat}(hk:k<r)(hj:j<4){ws:List Way}(wo:∀w∈ws,cO bs.length w/\0<=w.nx/\w.nx<(r:Int)+1)(wl:ws.length<=j)(q0 U I:Sl) :
 ∃(w:Way) (q5 q6 q7:Sl),(cO bs.length w/\0<=w.nx/\w.nx<(r:Int)+1)/\exs pg (call pg (n+1)) (hdF c bs h r sh xs s6 rs (.sh false (aI k)) (.own false (ws.map Way.d)) (.sh false (aI j)) q0 U I) hdI=.next (hdF c bs h r sh xs s6 rs (.sh false (aI k)) (.own false ((ws++[w]).map Way.d)) (.sh false (aI j)) q5 q6 q7):=by
 let τ:Sl->Sl->Sl->Sl->Sg:=λs9 q0 U I=>hdF c bs h r sh xs s6 rs (.sh false (aI k)) s9 (.sh false (aI j)) q0 U I
 have v5:∀s9 q0 U I,ev pg (call pg (n+1)) (τ s9 q0 U I) eV5=.ok ⟨.lst (xs.map D.int),false,false,[5]⟩:=λ_ _ _ _=>aV 5 rfl;have q2:opD .Mult (.cl (.int 14)) (.cl (.int (k:Int)))=.ok (.cl (.int (14*k))):=mul_int (by
  unfold gH;rw[Am (by omega),Am (by omega)];rfl)
 have ix:∀s9 q0 U I,ev pg (call pg (n+1)) (τ s9 q0 U I) (.op .Add (.op .Add eC3 (.op .Mult aMe eV8)) aIF)=.ok (.cl (.int ((3+14*k+j:Nat):Int))):=λs9 q0 U I=>by have:=dB (P:=pg) (W:=call pg (n+1)) (Z:=τ s9 q0 U I) (dB (aC (.int 3)) (dI (aC (.int 14)) (aD 8 rfl) q2)) (aD 10 rfl);rw[show(3:Int)+14*(k:Int)+(j:Int)=((3+14*k+j:Nat):Int) by omega] at this;exact this
 let ys:=pR (xs.getD (3+14*k+j) 0) 12
 have yl:ys.length=12:=iN _ _;have q1:∀s9 U I,ev pg (call pg (n+1)) (τ s9 (.own false (ys.map D.int)) U I) aGy=.ok ⟨.lst (ys.map D.int),false,false,[11]⟩:=λ_ _ _=>aV 11 rfl;have ib:∀s9 U I,∃e:Nat,e<=1/\ev pg (call pg (n+1)) (τ s9 (.own false (ys.map D.int)) U I) (.bi .int (eL1 (.cmp .Eq (.op .Mod (.idx eV5 eC2) eC5) eC0)))=.ok (.cl (.int (e:Int))):=λs9 U I=>by
  have e1:=nB (o:=.Eq) (fB (fP (k:=2) (v5 s9 (.own false (ys.map D.int)) U I) rfl (aC _) (by omega)) (aC (.int 5)) (by decide)) (aC (.int 0)) rfl;cases q:(xs.getD 2 0 % 5==0) with
  | true=>rw[q] at e1;exact⟨1,Ap _,dA e1 rfl⟩|false=>rw[q] at e1;exact⟨0,Bw _,dA e1 rfl⟩
 obtain⟨e,he,ie⟩:=ib (.own false (ws.map Way.d)) U I
 let nx:=ys.getD 11 0 % ((r:Int)+(e:Int))
 have q4:0<=nx/\nx<(r:Int)+1:=by have h2:=Gz (ys.getD 11 0) (show 0<(r:Int)+(e:Int) by omega);exact⟨(Hx (ys.getD 11 0) (show(r:Int)+(e:Int)≠0 by omega)),by show ys.getD 11 0 % ((r:Int)+(e:Int))<_;omega⟩
 obtain⟨v6,z1,z2,_⟩:=aJF hz (Z:=τ (.own false (ws.map Way.d)) (.own false (ys.map D.int)) (.sh false (.int nx)) I) (i:=6) rfl;obtain⟨g,g1,g2,g3⟩:=aBm n yl zo;obtain⟨w3,q8,q9,_⟩:=aJF hz (Z:=τ (.own false (ws.map Way.d)) (.own false (ys.map D.int)) (.sh false (.int nx)) (.sh false g.d)) (i:=6) rfl;obtain⟨ps,p1,p2,p3⟩:=aEe n q3 (aIO yl) zo;have sl:ev pg (call pg (n+1)) (τ (.own false (ws.map Way.d)) (.own false (ys.map D.int)) (.sh false (.int nx)) (.sh false g.d)) (.sli aGy (eL1 eC4) (eL1 aEa))=.ok ⟨.lst ((cut ys (some 4) (some 11)).map D.int),true,false,[]⟩:=by rw[aIP (q1 _ _ _) (aC _) (aC _) rfl rfl];show R.ok (Vl.mk (.lst (cut (ys.map D.int) (some 4) (some 11))) true (false&&!noLs (ys.map D.int)) (if noLs (ys.map D.int)=true then [] else [11]))=_;rw[eR,aIN];rfl
 let w:Way:=⟨g,ps,nx⟩
 exact⟨w,_,_,_,⟨⟨g1,g2,p1,p2⟩,q4⟩,cs ((λs9=>bK (dK (fP (v5 _ _ _ _) rfl (ix _ _ _ _) (by omega)) (aC (.int 12)) (gD rfl n _ (by decide)))) _) (cs (aT (fB (fP (k:=11) (q1 (.own false (ws.map Way.d)) U I) rfl (aC _) (by omega)) (dB (aN 3 rfl rfl) ie) (by omega))) (cs (aT (bX (q1 _ _ _) (aK 1 rfl) z1 (by rw[z2];exact g3))) (bG (gN (aBh (aD 13 rfl) (bX sl (aK 1 rfl) q8 (by rw[q9];exact p3)) (aD 12 rfl)) rfl (by rw[lM];unfold lim;omega) rfl (by rw[Ax];rfl)))))⟩
theorem aEf(n:Nat)(w3:bs∈boxSet)(c sh:Int){h r:Nat}(hh:h<3)(hr:r<=3):∃hd:List (List Way),hd.length=r/\xB bs.length hd/\cP (n+2) 47 [.i c,.lst (aE bs),.i h,.i r,.i sh]=.ok (.lst (bR hd),true,false):=by
 obtain⟨l3,l4⟩:=fK w3;have w4:opD .Mult (.cl (.i 14)) (.cl (.i (r:Int)))=.ok (.cl (.i (14*r))):=mul_int (by
  unfold gH;rw[Am (by omega),Am (by omega)];rfl)
 let xs:=pR c (3+14*r)
 have xl:xs.length=3+14*r:=iN _ _
 let Z:Sl->Sl->Sl->Sg:=λs5 s6 s7=>[.T (.i c),.T (.lst (aE bs)),.T (.i h),.T (.i r),.T (.i sh),s5,s6,s7,.x,.x,.x,.x,.x,.x]
 have k1:ex pg (cP (n+1)) (Z .x .x .x) (hdS f47.body)=.next (Z (.O (xs.map D.int)) .x .x):=by refine bK (dK (aN 0 rfl rfl) (dB (aC (.i 3)) (dI (aC (.i 14)) (aN 3 rfl rfl) w4)) ?_);rw[show(3:Int)+14*(r:Int)=((3+14*r:Nat):Int) by omega];exact gD rfl n c (by omega)
 obtain⟨z,fr,zo,hz⟩:=aGQ n (xs.getD 0 0) hh sh l3 l4;have q8:=dC (aK (P:=pg) (W:=cP (n+1)) (Z:=Z (.O (xs.map D.int)) .x .x) 1 rfl) rfl;rw[show(aE bs).length=bs.length from lM _] at q8;have e2:ev pg (cP (n+1)) (Z (.O (xs.map D.int)) .x .x) (.call 44 (eL4 (.idx eV5 eC0) eV2 eV4 (.bi .len (eL1 eV1))))=.ok ⟨nL z,fr,false,[]⟩:=by exact xH (fP (k:=0) (aV 5 rfl) rfl (aC _) (by omega)) (aN 2 rfl rfl) (aN 4 rfl rfl) q8 hz (by cases fr <;> rfl)
 obtain⟨s6,i6,k2⟩:=aMj e2;obtain⟨Z',ef,q,s8,s9,q1,q4,q5,q6,g1,g2,rfl⟩:=cS (t:=.n 8) (b:=hdB) (λi Z=>∃(q:List (List Way)) (s8 s9 q1 q4 q5 q6:Sl),q.length=i/\(∀ws∈q,aGG bs.length r ws)/\Z=hdF c bs h r sh xs s6 q s8 s9 q1 q4 q5 q6) (cH (aN 3 rfl rfl) rfl (by omega)) ⟨[],_,_,_,_,_,_,rfl,λ_ z=>absurd z AI,rfl⟩ λi hi Z ⟨q,s8,s9,q1,q4,q5,q6,g1,g2,q9⟩=>by
  have w5:i<r:=by simpa using hi
  subst q9
  let Z2:=hdF c bs h r sh xs s6 q (.F (aI i)) (.O (([]:List Way).map Way.d)) q1 q4 q5 q6
  have m1:=dI (P:=pg) (W:=cP (n+1)) (Z:=Z2) (fP (k:=1) (aV 5 rfl) rfl (aC _) (by omega)) (dB (aD 8 rfl) (aC (.i 1))) (qB (by
   unfold yM;simp only[AR,bA];omega))
  have m2:=fB m1 (aC (.i 4)) (by decide);obtain⟨M,eM,hM⟩:=aEc (xs.getD 1 0 / ((i:Int)+1)) (n:=4) (by decide);rw[show((4:Nat):Int)=4 from rfl] at eM;rw[eM] at m2;have m3:=dB (aC (.i 1)) m2;rw[show(1:Int)+(M:Int)=((1+M:Nat):Int) by omega] at m3;obtain⟨Z3,q2,ws,q7,I,U,q0,w1,w2,rfl⟩:=cS (t:=.n 10) (λj Z=>∃(ws:List Way) (q7 I U q0:Sl),ws.length=j/\(∀w∈ws,cO bs.length w/\0<=w.nx/\w.nx<(r:Int)+1)/\Z=hdF c bs h r sh xs s6 q (.F (aI i)) (.O (ws.map Way.d)) q7 I U q0) (cH m3 rfl (by omega)) ⟨[],_,_,_,_,rfl,λ_ z=>absurd z AI,rfl⟩ λj hj Z ⟨ws,q7,I,U,q0,w1,w2,q9⟩=>by
   have w9:j<1+M:=by simpa using hj
   subst q9;obtain⟨w,w6,w7,w8,o1,o2⟩:=aGS n w3 xl zo i6 w5 (j:=j) (by omega) w2 (by omega) I U q0;refine⟨hdF c bs h r sh xs s6 q (.F (aI i)) (.O (ws.map Way.d)) (.F (aI j)) I U q0,_,?_,o2,ws++[w],_,w6,w7,w8,by rw[lA,w1];rfl,kA w2 o1,rfl⟩;rw[AD,Bd,dW];rfl
  have wl:ws.length=1+M:=by rw[w1];simp
  have q3:ex pg (cP (n+1)) (hdF c bs h r sh xs s6 q (.F (aI i)) (.O (ws.map Way.d)) q7 I U q0) (hdS (drp 2 hdB))=.next (hdF c bs h r sh xs s6 (q++[ws]) (.F (aI i)) (.F (iO ws)) q7 I U q0):=by refine(gN (aV 9 rfl) rfl (by rw[lM];unfold lim;omega) rfl rfl).trans ?_;unfold hdF bR;rw[Ax];rfl
  refine⟨hdF c bs h r sh xs s6 q (.F (aI i)) s9 q1 q4 q5 q6,_,?_,cs rfl (cs q2 (bG q3)),q++[ws],_,_,_,_,_,_,by rw[lA,g1];rfl,kA g2 ⟨by omega,by omega,w2⟩,rfl⟩;rw[AD,Bd,dW];rfl
 have gl:q.length=r:=by rw[g1];simp
 exact⟨q,gl,⟨by omega,by rw[gl];exact g2⟩,aH (F:=f47) rfl rfl (v:=⟨.lst (bR q),true,false,[]⟩) (cs k1 (cs k2 (cs rfl (cs ef (mE rfl)))))⟩
variable {bs:List (Str×Int)}
abbrev cC(hs:W3):List D:=hs.map λh=>.lst (bR h)
abbrev aCC(hs:W3):List D:=hs.map λ_=>Cn.yes.d
abbrev nM(h:List (List Way)):List D:=(Al (h.length+1) Cn.yes).map Cn.d
abbrev fC(hs:W3):List D:=hs.map λh=>.lst (nM h)
noncomputable def aR(bs:List (Str×Int))(g:Cn)(hs:W3):D:=.tup [.lst (aE bs),g.d,.lst (cC hs),.lst (aCC hs),.lst (fC hs)]
structure dL (m:Nat) (hs:W3):Prop where
 ok:∀h∈hs,xB m h
 two:(hs.length=2/\∀h∈hs,h.length<=3)\/(hs.length=3/\∀h∈hs,h.length<=2)
theorem aAd(n:Nat){pl:Bool}{q:Cn}(w:q.wf bs.length pl)(z:q.sz<=31):cP (n+36) 29 [.lst (aE bs),q.d,.bl pl]=.ok (q.d,false,false):=by refine aH rfl rfl (v:=.cl q.d) (mE ?_);exact bE (bX (aK 0 rfl) (aN 1 rfl q.noL) (aN 2 rfl rfl) (aH (F:=f17) rfl rfl (cs (xC (nI (aK 0 rfl) (aC _) (aN 1 rfl q.noL) (aN 2 rfl rfl) (aC _) (kB (lM _) q (n+34) 0 (by omega) w (by omega)))) (xD rfl q.noL))))
theorem vA(n:Nat){pl:Bool}{I:List Cn}(o:∀q∈I,q.wf bs.length pl/\q.sz<=31)(hl:I.length<=100):cP (n+37) 30 [.lst (aE bs),.lst (I.map Cn.d),.i I.length,.bl pl]=.ok (.lst (I.map Cn.d),true,false):=by
 have v1:=aK (P:=pg) (W:=cP (n+36)) (Z:=[.T (.lst (aE bs)),.T (.lst (I.map Cn.d)),.T (.i I.length),.T (.bl pl)]) 1 rfl;have U:=dC v1 rfl;rw[lM] at U;have k1:=bJ (a:=.k (.rse 5 false (eL1 (.c (.str "there is a promise for each hand, and a note for each of its places")))) .z) (dX (dH (eB (cs:=[.tList]) v1 rfl)) (bO (o:=.NotEq) U (aN 2 rfl rfl) (by
  show(some ((I.length:Int)==(I.length:Int))).map (!·)=_;rw[beq_self_eq_true];rfl)))
 refine aH (F:=f30) rfl rfl (cs k1 (bE (eP (al:=[]) (λq=>Vl.cl q.d) Cn.d Cn.noL ?_ (by unfold lim;omega) λq hq=>⟨[.F q.d,.T (.lst (aE bs)),.T (.bl pl)],rfl,bX (aK 1 rfl) (aD 0 rfl) (aN 2 rfl rfl) (aAd n (o q hq).1 (o q hq).2)⟩)));rw[bQ,v1,aA];show R.ok (items _ (I.map Cn.d),[])=_;rw[cE Cn.noL]
theorem mF{m:Nat}{hs:W3}(o:dL m hs):2<=hs.length/\hs.length<=3:=by rcases o.two with z|z <;> omega
theorem aEg(n:Nat){hs:W3}(o:dL bs.length hs):cP (n+40) 31 [.lst (aE bs),.lst (cC hs)]=.ok (.lst (cC hs),true,false):=by
 obtain⟨l2,l3⟩:=mF o;have I:=aK (P:=pg) (W:=cP (n+39)) (Z:=[.T (.lst (aE bs)),.T (.lst (cC hs))]) 1 rfl;have q:=dC I rfl;rw[lM] at q;have U:ev pg (cP (n+39)) [.T (.lst (aE bs)),.T (.lst (cC hs))] (.comp 1 [0] (.n 0) (.seq eV1) .z (.call 21 (eL2 eV1 eV0)))=.ok ⟨.lst (cC hs),true,false,[]⟩:=by rw[mY (xs:=hs.map λh=>⟨.lst (bR h),false,true,[]⟩) (λx=>⟨x.d,true,false,[]⟩) ?_ (by rw[lM];unfold lim;omega) λx hx=>?_];rw[Aw];exact congrArg R.ok (qD 1 [0] (λh=>D.lst (bR h)) hs);rw[bQ,I,aA];show R.ok (items _ (cC hs),[])=_;unfold items;rw[Aw];rfl;obtain⟨h,hh,rfl⟩:=AH.mp hx;exact⟨[.T (.lst (bR h)),.T (.lst (aE bs))],rfl,dK (aK 1 rfl) (aK 0 rfl) (zZ n (o.ok h hh))⟩
 exact aH (F:=f31) rfl rfl (v:=⟨.lst (cC hs),true,false,[]⟩) (cs (bJ (dX (dH (eB I rfl)) (dH (aCA (aC (.i 1)) q (aC (.i 3)) (by omega) (by omega))))) (mE (bE U)))
theorem sN(n:Nat)(ds:List D):cP (n+1) 33 [.lst ds]=.ok (.i (ds.length+1),false,false):=
 aH (F:=f33) rfl rfl (bE (dB (dC (aK 0 rfl) rfl) (aC _)))
theorem aGT(m:Nat)(pl:Bool)(k:Nat):∀q∈Al k Cn.yes,q.wf m pl/\q.sz<=31:=λq I=>by rw[List.eq_of_mem_replicate I];exact⟨trivial,by decide⟩
theorem aCD{α:Type}(f g:α->D):∀xs:List α,fR (xs.map f) (xs.map g)=xs.map λx=>.tup [f x,g x]
 | []=>rfl|x::xs=>by show .tup [f x,g x]::fR (xs.map f) (xs.map g)=_;rw[aCD f g xs];rfl
theorem aEh(n:Nat){hs:W3}(o:dL bs.length hs):cP (n+38) 32 [.lst (aE bs),.lst (fC hs),.lst (cC hs)]=.ok (.lst (fC hs),true,false):=by
 obtain⟨l2,l3⟩:=mF o;have I:=aK (P:=pg) (W:=cP (n+37)) (Z:=[.T (.lst (aE bs)),.T (.lst (fC hs)),.T (.lst (cC hs))]) 1 rfl;have U:=aK (P:=pg) (W:=cP (n+37)) (Z:=[.T (.lst (aE bs)),.T (.lst (fC hs)),.T (.lst (cC hs))]) 2 rfl;have h1:=dC I rfl;have h2:=dC U rfl;rw[lM] at h1 h2;have k1:=bJ (a:=.k (.rse 5 false (eL1 (.c (.str "there is a list of notes for each hand")))) .z) (dX (dH (eB (cs:=[.tList]) I rfl)) (bO (o:=.NotEq) h1 h2 (by
  show(some ((hs.length:Int)==(hs.length:Int))).map (!·)=_;rw[beq_self_eq_true];rfl)))
 have hc:ev pg (cP (n+37)) [.T (.lst (aE bs)),.T (.lst (fC hs)),.T (.lst (cC hs))] (.comp 2 [0] (.t [0,1]) (.zip eV1 eV2) .z (.call 30 (eL4 eV2 eV0 (.call 33 (eL1 eV1)) (.c (.bl true)))))=.ok ⟨.lst (fC hs),true,false,[]⟩:=by rw[mY (xs:=hs.map λh=>⟨.tup [.lst (nM h),.lst (bR h)],false,true,[]⟩) (λx=>⟨match x.d with|.tup (d::_)=>d|d=>d,true,false,[]⟩) ?_ (by rw[lM];unfold lim;omega) λx hx=>?_];rw[Aw];exact congrArg R.ok (qD 2 [0] (λh=>D.lst (nM h)) hs);rw[jT,I,aA,U,aA];show R.ok (items _ (fR (fC hs) (cC hs)),[])=_;rw[aCD];unfold items;rw[Aw];rfl;obtain⟨h,hh,rfl⟩:=AH.mp hx;have pr:=sN (n+36) (bR h);rw[lM] at pr;have q:=vA n (aGT bs.length true (h.length+1)) (by rw[AQ];have:=(o.ok h hh).few;omega);rw[AQ] at q;exact⟨[.T (.lst (nM h)),.T (.lst (bR h)),.T (.lst (aE bs))],rfl,xH (aK 2 rfl) (aK 0 rfl) (cQ (aK 1 rfl) pr) (aC _) q⟩
 exact aH (F:=f32) rfl rfl (cs k1 (bE hc))
theorem aEi(n:Nat)(q:bs∈boxSet):cP (n+1) 6 [.lst (aE bs)]=.ok (.i (jK bs),false,false):=by rcases box_six q with rfl|rfl|rfl|rfl|rfl|rfl <;> rfl
theorem aBn(n:Nat)(hb:bs∈boxSet){hs:W3}(o:dL bs.length hs):∃x:Int,x<=1000/\cP (n+2) 34 [.lst (aE bs),.lst (cC hs)]=.ok (.i x,false,false):=by
 obtain⟨q1,p1⟩:=aAb hb;obtain⟨m,hm,W⟩:∃m:Nat,(∀h∈hs,h.length<=m)/\((hs.length=2/\m=3)\/(hs.length=3/\m=2)):=by
  rcases o.two with⟨a,b⟩|⟨a,b⟩
  exact⟨3,b,.inl ⟨a,rfl⟩⟩;exact⟨2,b,.inr ⟨a,rfl⟩⟩
 let I:Sl->Sl->Sg:=λs2 q=>[.T (.lst (aE bs)),.T (.lst (cC hs)),s2,q]
 have hw:walk pg (cP (n+1)) (I (.F (.i (jK bs))) .x) (.seq eV1)=.ok (hs.map (λh=>Vl.mk (.lst (bR h)) false true []),[]):=by rw[bQ,aK 1 rfl,aA];show R.ok (items _ (cC hs),[])=_;unfold items;rw[Aw];rfl
 obtain⟨Z',ef,x,q,h0,h1,h2,rfl⟩:=cS (t:=.n 3) (b:=match hdS (drp 1 f34.body) with|.for _ _ b=>b|_=>.z) (λi Z=>∃(x:Int) (q:Sl),1<=x/\x<=24*((m:Int)+1) ^ i/\i<=3/\Z=I (.F (.i x)) q) hw ⟨jK bs,_,p1,by simpa using q1,by decide,rfl⟩ λi hi Z ⟨x,q,h0,h1,h2,q0⟩=>by
  have U:i<hs.length:=by simpa using hi
  subst q0;have hl:=hm hs[i] (AK U);have hp:((m:Int)+1) ^ i<=64:=by
   have:i=0\/i=1\/i=2:=by omega
   have m2:m=3\/m=2:=by omega
   rcases this with rfl|rfl|rfl <;> rcases m2 with rfl|rfl <;> decide
  have pr:=sN n (bR hs[i]);rw[lM] at pr;have mo:gH x ((hs[i].length:Int)+1)=true:=by unfold gH;rw[Am (by omega),Am (by omega)];rfl
  refine⟨I (.F (.i x)) (.T (.lst (bR hs[i]))),I (.F (.i (x*((hs[i].length:Int)+1)))) (.T (.lst (bR hs[i]))),?_,bG (aT (dI (aD 2 rfl) (cQ (aK 3 rfl) pr) (mul_int mo))),_,_,?_,?_,by omega,rfl⟩;rw[AD];rfl;have:=Io h0 (show(1:Int)<=(hs[i].length:Int)+1 by omega) (by decide) (by omega);omega;rw[Int.pow_succ,<-Int.mul_assoc];exact Io h1 (by omega) (by omega) (Ft (by omega) h1)
 refine⟨x,?_,aH rfl rfl (v:=.cl (.i x)) (cs (aT (cQ (aK 0 rfl) (aEi n hb))) (cs ef (mE rfl)))⟩;rw[lM] at h1;rcases W with⟨a,b⟩|⟨a,b⟩
 rw[a,b] at h1;exact Ft h1 (by decide);rw[a,b] at h1;exact Ft h1 (by decide)
theorem xI(n:Nat)(hb:bs∈boxSet){g:Cn}(gw:g.wf bs.length true)(gs:g.sz<=31){hs:W3}(o:dL bs.length hs):cP (n+41) 27 [.lst (aE bs),g.d,.lst (cC hs),.lst (aCC hs),.lst (fC hs)]=.ok (aR bs g hs,false,false):=by
 obtain⟨l2,l3⟩:=mF o
 let τ:Sl->Sl->Sl->Sl->Sl->Sg:=λs5 U s7 W s9=>[.T (.lst (aE bs)),.T g.d,.T (.lst (cC hs)),.T (.lst (aCC hs)),.T (.lst (fC hs)),s5,U,s7,W,s9]
 have v5:∀U s7 W s9,ev pg (cP (n+40)) (τ (.O (aE bs)) U s7 W s9) eV5=.ok ⟨.lst (aE bs),false,false,[5]⟩:=λ_ _ _ _=>aV 5 rfl;have v7:∀U W s9,ev pg (cP (n+40)) (τ (.O (aE bs)) U (.O (cC hs)) W s9) eV7=.ok ⟨.lst (cC hs),false,false,[7]⟩:=λ_ _ _=>aV 7 rfl;have q:=dC (v7 (.F g.d) .x .x) rfl;rw[lM] at q;have pd:aCC hs=(Al hs.length Cn.yes).map Cn.d:=by rw[G0];exact Hy ..
 have I:=vA (n+3) (aGT bs.length false hs.length) (by rw[AQ];omega);rw[AQ,<-pd] at I;obtain⟨x,hx,cx⟩:=aBn (n+38) hb o;exact aH rfl rfl (v:=⟨aR bs g hs,false,false,[5,7,8,9]⟩) (cs (bK (cQ (aK 0 rfl) (xG (n+36) hb))) (cs (aT (bX (v5 _ _ _ _) (aN 1 rfl g.noL) (aC _) (aAd (n+4) gw gs))) (cs (bK (dK (v5 _ _ _ _) (aK 2 rfl) (aEg n o))) (cs (bK (xH (v5 _ _ _ _) (aK 3 rfl) q (aC _) I)) (cs (bK (fN (v5 _ _ _ _) (aK 4 rfl) (v7 _ _ _) (aEh (n+2) o))) (cs (bJ (bO (eO (v5 _ _ _ _) (v7 _ _ _) cx) (aC _) (congrArg some (A5 (by omega))))) (bE rfl)))))))
section
variable {P:Pg} {W:Caller} {Z:Sg}
theorem aAe{f:Nat}{a b c e g:E}{x y z w u:Vl}{d:D}{fr:Bool}(h1:ev P W Z a=.ok x)(h2:ev P W Z b=.ok y)(q:ev P W Z c=.ok z)(I:ev P W Z e=.ok w)(U:ev P W Z g=.ok u)(hc:W f [x.d,y.d,z.d,w.d,u.d]=.ok (d,fr,false))(hl:(fr&&isL d)=fr:=by rfl):ev P W Z (.call f (.k a (.k b (.k c (.k e (.k g .z))))))=.ok ⟨d,fr,false,[]⟩:=by
 have e:evs P W Z (.k a (.k b (.k c (.k e (.k g .z)))))=.ok [x,y,z,w,u]:=by rw[aJ,h1,aA,aOV h2 q I U];rfl
 rw[eY,e,aA,show [x,y,z,w,u].map (·.d)=[x.d,y.d,z.d,w.d,u.d] from rfl,hc];show R.ok (⟨d,fr&&isL d,false,[]⟩:Vl)=_;rw[hl]
theorem nN{ns ms:List Int}{es:Es}{b:E}{k:Nat}(hl:ns.length<=63)(hm:ms.length<=4)(q:Z[0]? = some (.T (.lst (ns.map D.int))))(U:evs P W Z es=.ok ((ms.map D.int).map Vl.cl))(I:ev P W Z b=.ok (.cl (.i (k:Int))))(hk:k<ns.length+ms.length) :
 ev P W Z (.idx (.op .Add eV0 (.lst es)) b)=.ok (.cl (.i ((ns++ms).getD k 0))):=by refine fP (dI (aK 0 q) (dP U) (pS rfl rfl (eR ns) (eR ms) (by rw[lM,lM];unfold lim;omega))) ?_ I (by rw[lA];exact hk);rw[Ax]
end
abbrev dQ(p:Bool):Cn:=if p then .yes else .cmp false (.box 0) (.num 1)
abbrev hoF(ns xs:List Int)(s2 s3 s4 s5 s6 s7 s8:Sl):Sg:=[.T (.lst (ns.map D.int)),.O (xs.map D.int),s2,s3,s4,s5,s6,s7,s8]
theorem aBo(n:Nat)(ns:List Int){xs:List Int}(hx:xs.length=9):∃bs∈boxSet,∀ss,exs pg (cP n) (hoF ns xs .x .x .x .x .x .x .x) (.k (hdS (drp 1 f48.body)) (.k (hdS (drp 2 f48.body)) ss))=exs pg (cP n) (hoF ns xs (.O (aE bs)) .x .x .x .x .x .x) ss:=by
 have x:∀(k:Nat) s2,k<9->ev pg (cP n) (hoF ns xs s2 .x .x .x .x .x .x) (.idx eV1 (.c (.i (k:Int))))=.ok (.cl (.i (xs.getD k 0))):=λk s2 hk=>fP (aV 1 rfl) rfl (aC _) (by omega);have U:ex pg (cP n) (hoF ns xs .x .x .x .x .x .x .x) (hdS (drp 1 f48.body))=.next (hoF ns xs (.O (aE (b3 (1+xs.getD 0 0 % 2) (1+xs.getD 1 0 % 2)))) .x .x .x .x .x .x):=bK (dP (aF (bL (aF (aC _) (aF (dB (aC _) (fB (x 0 _ (by decide)) (aC (.i 2)) (by decide))) bB))) (aF (bL (aF (aC _) (aF (dB (aC _) (fB (x 1 _ (by decide)) (aC (.i 2)) (by decide))) bB))) (aF (bL (aF (aC _) (aF (aC _) bB))) bB))));have h0:1+xs.getD 0 0 % 2=1\/1+xs.getD 0 0 % 2=2:=by omega
 have h1:1+xs.getD 1 0 % 2=1\/1+xs.getD 1 0 % 2=2:=by omega
 have I:tst pg (cP n) (hoF ns xs (.O (aE (b3 (1+xs.getD 0 0 % 2) (1+xs.getD 1 0 % 2)))) .x .x .x .x .x .x) (match hdS (drp 2 f48.body) with|.iff c _ _=>c|_=>.c .non)=.ok ((1+xs.getD 0 0 % 2+(1+xs.getD 1 0 % 2)==2)&&(xs.getD 6 0 % 3==0)):=aGD (bO ((λs t=>rfl) _ _) (aC _) rfl) (bO (fB (x 6 (.O (aE (b3 (1+xs.getD 0 0 % 2) (1+xs.getD 1 0 % 2)))) (by decide)) (aC (.i 3)) (by decide)) (aC _) rfl);cases q:((1+xs.getD 0 0 % 2+(1+xs.getD 1 0 % 2)==2)&&(xs.getD 6 0 % 3==0)) with
 | false=>rw[q] at I;refine⟨b3 (1+xs.getD 0 0 % 2) (1+xs.getD 1 0 % 2),?_,λss=>cs U (cs (bJ I) rfl)⟩;rcases h0 with h0|h0 <;> rcases h1 with h1|h1 <;> rw[h0,h1] <;> simp[boxSet]
 | true=>
  rw[q] at I;have W:1+xs.getD 0 0 % 2=1/\1+xs.getD 1 0 % 2=1:=by rw[bA] at q;have:=eq_of_beq q.1;omega
  have h6:1+xs.getD 6 0 / 3 % 2=1\/1+xs.getD 6 0 / 3 % 2=2:=by omega
  have ka:ex pg (cP n) (hoF ns xs (.O (aE (b3 (1+xs.getD 0 0 % 2) (1+xs.getD 1 0 % 2)))) .x .x .x .x .x .x) (hdS (drp 2 f48.body))=.next (hoF ns xs (.O (aE (b3 (1+xs.getD 0 0 % 2) (1+xs.getD 1 0 % 2))++[box ("d",1+xs.getD 6 0 / 3 % 2)])) .x .x .x .x .x .x):=nH I (bG (gN (bL (aF (aC _) (aF (dB (aC _) (fB (dI (x 6 _ (by decide)) (aC (.i 3)) (qB (by decide))) (aC (.i 2)) (by decide))) bB))) rfl (by unfold lim;simp[aE]) rfl rfl));rw[W.1,W.2] at ka U;refine⟨b4 (1+xs.getD 6 0 / 3 % 2),?_,λss=>cs U (cs ka rfl)⟩;rcases h6 with h6|h6 <;> rw[h6] <;> simp[boxSet]
theorem aIQ(a b c:Int)(q:b=3\/b=2):∃r:Nat,(1+a % b)*(if c>0 then 1 else 0)=(r:Int)/\(r:Int)<=b:=by rcases q with rfl|rfl <;> split;exact⟨(1+a % 3).toNat,by omega,by omega⟩;exact⟨0,by omega,by omega⟩;exact⟨(1+a % 2).toNat,by omega,by omega⟩;exact⟨0,by omega,by omega⟩
theorem aBp(n:Nat){ns:List Int}(hn:ns.length<=63):∃bs∈boxSet,∃(p:Bool) (hs:List (List (List Way))),dL bs.length hs/\call pg (n+42) 48 [.lst (ns.map D.int)]=.ok (aR bs (dQ p) hs,false,false):=by
 let xs:=pR ((ns++[0]).getD 0 0) 9
 have xl:xs.length=9:=iN _ _;obtain⟨bs,hb,kb⟩:=aBo (n+41) ns xl;obtain⟨l3,l4⟩:=fK hb
 let τ:List (List (List Way))->Sl->Sl->Sl->Sl->Sl->Sg:=λhs U I q s7 s8=>hoF ns xs (.own false (aE bs)) (.own false (cC hs)) U I q s7 s8
 have x:∀(k:Nat) hs U I q s7 s8,k<9->ev pg (call pg (n+41)) (τ hs U I q s7 s8) (.idx eV1 (.c (.int (k:Int))))=.ok (.cl (.int (xs.getD k 0))):=λk _ _ _ _ _ _ hk=>fP (aV 1 rfl) rfl (aC _) (by omega);have q2:∀hs U I q s7 s8,ev pg (call pg (n+41)) (τ hs U I q s7 s8) (.op .Mod (.idx eV1 eC2) eC2)=.ok (.cl (.int (xs.getD 2 0 % 2))):=λhs U I q s7 s8=>fB (x 2 _ _ _ _ _ _ (by decide)) (aC (.int 2)) (by decide);obtain⟨M,eM,hM⟩:=aEc (xs.getD 2 0) (n:=2) (by decide);rw[show((2:Nat):Int)=2 from rfl] at eM
 let B:Int:=if M=0 then 3 else 2
 have hB:B=3\/B=2:=by show(if M=0 then (3:Int) else 2)=3\/(if M=0 then (3:Int) else 2)=2;split;exact .inl rfl;exact .inr rfl
 have q3:∀hs U I q s7 s8,ev pg (call pg (n+41)) (τ hs U I q s7 s8) (.idx (.lst (eL2 eC3 eC2)) (.op .Mod (.idx eV1 eC2) eC2))=.ok (.cl (.int B)):=λhs U I q s7 s8=>by
  have:=q2 hs U I q s7 s8;rw[eM] at this;have h2:=fP (xs:=[3,2]) (dP (aF (aC (.int 3)) (aF (aC (.int 2)) bB))) rfl this hM;have:([3,2]:List Int).getD M 0=B:=by
   have:M=0\/M=1:=by omega
   rcases this with rfl|rfl <;> rfl
  rw[this] at h2;exact h2
 have hr:=dB (aC (.int 2)) (q2 [] .dead .dead .dead .dead .dead);rw[eM,show(2:Int)+(M:Int)=((2+M:Nat):Int) by omega] at hr;obtain⟨Z',ef,hs,U,I,q,g1,g2,rfl⟩:=cS (t:=.n 4) (b:=match hdS (drp 4 f48.body) with|.for _ _ b=>b|_=>.nil) (λi Z=>∃(hs:List (List (List Way))) (U I q:Sl),hs.length=i/\(∀h∈hs,xB bs.length h/\(h.length:Int)<=B)/\Z=τ hs U I q .dead .dead) (cH hr rfl (by omega)) ⟨[],_,_,_,rfl,λ_ z=>absurd z AI,rfl⟩ λi hi Z ⟨hs,U,I,q,g1,g2,q6⟩=>by
  have q8:i<2+M:=by simpa using hi
  subst q6;have x3:∀I q,ev pg (call pg (n+41)) (τ hs (.sh false (aI i)) I q .dead .dead) (.idx eV1 (.op .Add eC3 eV4))=.ok (.cl (.int (xs.getD (3+i) 0))):=λI q=>fP (aV 1 rfl) rfl (by
   have:=dB (P:=pg) (W:=call pg (n+41)) (Z:=τ hs (.sh false (aI i)) I q .dead .dead) (aC (.int 3)) (aD 4 rfl);rw[show(3:Int)+(i:Int)=((3+i:Nat):Int) by omega] at this;exact this) (by omega)
  obtain⟨r,er,q9⟩:=aIQ (xs.getD (3+i) 0) B (xs.getD (3+i) 0 / 6 % 9) hB;have b6:ev pg (call pg (n+41)) (τ hs (.sh false (aI i)) (.sh false (.int (1+xs.getD (3+i) 0 % B))) q .dead .dead) (.bi .int (eL1 (.cmp .Gt (.op .Mod (.op .FloorDiv (.idx eV1 (.op .Add eC3 eV4)) eC6) eC9) eC0)))=.ok (.cl (.int (if xs.getD (3+i) 0 / 6 % 9>0 then 1 else 0))):=by refine dA (nB (fB (dI (x3 (.sh false (.int (1+xs.getD (3+i) 0 % B))) q) (aC (.int 6)) (qB (by decide))) (aC (.int 9)) (by decide)) (aC (.int 0)) rfl) ?_;by_cases hq:xs.getD (3+i) 0 / 6 % 9>0;rw[if_pos hq,Am hq];rfl;rw[if_neg hq,A5 hq];rfl
  have m2:ex pg (call pg (n+41)) (τ hs (.sh false (aI i)) (.sh false (.int (1+xs.getD (3+i) 0 % B))) q .dead .dead) (.set (.n 5) (.op .Mult eV5 (.bi .int (eL1 (.cmp .Gt (.op .Mod (.op .FloorDiv (.idx eV1 (.op .Add eC3 eV4)) eC6) eC9) eC0)))))=.next (τ hs (.sh false (aI i)) (.sh false (.int r)) q .dead .dead):=by
   rw[<-er];refine aT (dI (aD 5 rfl) b6 (mul_int ?_));have h1:0<=xs.getD (3+i) 0 % B/\xs.getD (3+i) 0 % B<3:=by rcases hB with h|h <;> rw[h] <;> omega
   unfold gH;rw[Am (by omega),Am (by omega)];rfl
  have q4:=nN (ms:=[0,0,0,0]) hn (by decide) rfl (aF (aC (.int 0)) (aF (aC (.int 0)) (aF (aC (.int 0)) (aF (aC (.int 0)) bB)))) (by
   have:=dB (P:=pg) (W:=call pg (n+41)) (Z:=τ hs (.sh false (aI i)) (.sh false (.int r)) q .dead .dead) (aC (.int 1)) (aD 4 rfl);rw[show(1:Int)+(i:Int)=((1+i:Nat):Int) by omega] at this;exact this) (by simp;omega)
  have c7:opD .Mult (.cl (.int 7)) (.cl (.int (i:Int)))=.ok (.cl (.int (7*i))):=mul_int (by
   unfold gH;rw[Am (by omega),Am (by omega)];rfl)
  obtain⟨h,hl,ho,hc⟩:=aEf (n+39) hb ((ns++[0,0,0,0]).getD (1+i) 0+7*i) (xs.getD 8 0 % 3) (h:=i) (r:=r) (by omega) (by omega);have q1:ev pg (call pg (n+41)) (τ hs (.sh false (aI i)) (.sh false (.int r)) (.sh false (.int ((ns++[0,0,0,0]).getD (1+i) 0+7*i))) .dead .dead) (.call 47 (eL5 eV6 eV2 eV4 eV5 (.op .Mod (.idx eV1 eC8) eC3)))=.ok ⟨.lst (bR h),true,false,[]⟩:=by exact aAe (aD 6 rfl) (aV 2 rfl) (aD 4 rfl) (aD 5 rfl) (fB (x 8 _ _ _ _ _ _ (by decide)) (aC (.int 3)) (by decide)) hc
  refine⟨τ hs (.sh false (aI i)) I q .dead .dead,_,?_,cs (aT (dB (aC _) (fB (x3 _ _) (q3 _ _ _ _ _ _) (by omega)))) (cs m2 (cs (aT (dB q4 (dI (aC (.int 7)) (aD 4 rfl) c7))) (bG (gN q1 rfl (by rw[lM];unfold lim;omega) rfl (by rw[cC,Ax];rfl))))),hs++[h],_,_,_,by rw[lA,g1];rfl,kA g2 ⟨ho,by omega⟩,rfl⟩;rw[AD,Bd,dW];rfl
 have gl:hs.length=2+M:=by rw[g1];simp
 have ho:dL bs.length hs:=⟨λh hh=>(g2 h hh).1,by
  have:M=0\/M=1:=by omega
  rcases this with rfl|rfl;exact .inl ⟨gl,λh hh=>by have:=(g2 h hh).2;have:(h.length:Int)<=3:=this;omega⟩;exact .inr ⟨gl,λh hh=>by have:=(g2 h hh).2;have:(h.length:Int)<=2:=this;omega⟩⟩
 obtain⟨p,_,e7⟩:=qF (zs:=[true,false]) (f:=λp=>(dQ p).d) (dP (aF (bL (aF (aC _) bB)) (aF (bL (aF (aC _) (aF (bL (aF (aC _) (aF (aC _) bB))) (aF (bL (aF (aC _) (aF (aC _) bB))) bB)))) bB))) rfl (x 7 _ _ _ _ _ _ (by decide)) rfl (by decide) (λt _=>Cn.noL _);have q0:∀(s3:Sl) (al:List Nat) (s8:Sl),ev pg (call pg (n+41)) (hoF ns xs (.own false (aE bs)) s3 U I q (.sh false (dQ p).d) s8) eV3=.ok ⟨.lst (cC hs),false,false,al⟩->walk pg (call pg (n+41)) (hoF ns xs (.own false (aE bs)) s3 U I q (.sh false (dQ p).d) s8) (.seq eV3)=.ok (hs.map (λh=>Vl.mk (.lst (bR h)) false false al),al):=λs3 al s8 h=>by rw[bQ,h,aA];show R.ok (items _ (cC hs),al)=_;unfold items;rw[Aw];rfl
 have e8:ev pg (call pg (n+41)) (τ hs U I q (.sh false (dQ p).d) .dead) (.comp 1 [] (.n 0) (.seq eV3) .nil (.op .Mult (.lst (eL1 (.tup (eL1 (.c (.str "yes")))))) (.op .Add (.bi .len (eL1 eV0)) eC1)))=.ok (fV 1 [] [3] (hs.map λh=>Vl.mk (.lst (nM h)) true false [])):=by
  rw[mY (λx=>⟨match x.d with|.lst ds=>.lst ((Al (ds.length+1) Cn.yes).map Cn.d)|d=>d,true,false,[]⟩) (q0 _ _ _ (aV 3 rfl)) (by rw[lM];unfold lim;omega) λy hy=>?_];rw[Aw];refine congrArg (λz=>R.ok (fV 1 [] [3] z)) (AX λh _=>?_);show Vl.mk (.lst ((Al ((bR h).length+1) Cn.yes).map Cn.d)) true false []=_;rw[show(bR h).length=h.length from lM _];obtain⟨h,hh,rfl⟩:=AH.mp hy;have q7:=(g2 h hh).1.few;refine⟨[.sh false (.lst (bR h))],rfl,?_⟩;refine dI (dP (aF (bL (aF (aC _) bB)) bB)) (dB (dC (aD 0 rfl) rfl) (aC (.int 1))) ?_;rw[show(bR h).length=h.length from lM _];show R.iff (true&&aM ((h.length:Int)+1)&&decide (1*((h.length:Int)+1).toNat<=lim)&&noLs [Cn.yes.d]) (.ok (Vl.mk (.lst (Al ((h.length:Int)+1).toNat [Cn.yes.d]).flatten) true false []))=R.ok (Vl.mk (.lst ((Al ((bR h).length+1) Cn.yes).map Cn.d)) true false []);have sk:aM ((h.length:Int)+1)=true:=fY (n:=h.length+1) (by omega);have tn:((h.length:Int)+1).toNat=h.length+1:=by omega
  have fl:∀k:Nat,(Al k [Cn.yes.d]).flatten=(Al k Cn.yes).map Cn.d:=λk=>by
   induction k with
   | zero=>rfl|succ k ih=>rw[BB,Ce,ih,BB,mC];rfl
  rw[sk,tn,fl,show(bR h).length=h.length from lM _,Am (by unfold lim;omega)];rfl
 have cv:fV 1 [] [3] (hs.map λh=>Vl.mk (.lst (nM h)) true false [])=⟨.lst (fC hs),true,false,[3]⟩:=by
  have e0:=qD 1 [] (λh=>D.lst (nM h)) hs;have q5:noLs (fC hs)=false:=by
   cases hs with
   | nil=>simp at gl;omega|cons h _=>rfl
  have e1:(hs.map λh=>Vl.mk (.lst (nM h)) true false []).map (·.d)=fC hs:=by rw[Aw];rfl
  unfold fV at e0 ⊢;rw[e1,q5,if_neg bN] at e0 ⊢;injection e0 with _ _ e2 e3
  rw[e2];have e3:(bT (hs.map λh=>Vl.mk (.lst (nM h)) true false [])).filterMap (λj=>([]:List Nat)[j-1]?)=[]:=e3;rw[e3];rfl
 rw[cv] at e8;have k8:ex pg (call pg (n+41)) (τ hs U I q (.sh false (dQ p).d) .dead) (hdS (drp 6 f48.body))=.next (hoF ns xs (.own false (aE bs)) (.sh false (.lst (cC hs))) U I q (.sh false (dQ p).d) (.own false (fC hs))):=by show ex pg (call pg (n+41)) _ (.set (.n 8) _)=_;rw[jU,e8];rfl
 have bw:(dQ p).wf bs.length true/\(dQ p).sz<=31:=by
  cases p with
  | true=>exact⟨trivial,by decide⟩|false=>exact⟨⟨by show 0<bs.length;omega,by decide,by decide⟩,by decide⟩
 exact⟨bs,hb,p,hs,ho,aH rfl rfl (v:=.cl (aR bs (dQ p) hs)) (cs (bK (dK (nN hn (by decide) rfl (aF (aC _) bB) (aC _) (by simp)) (aC (.int 9)) (gD rfl (n+40) _ (by decide)))) ((kb _).trans (cs rfl (cs ef (cs (aT e7) (cs k8 (bE (nI (aV 2 rfl) (aD 7 rfl) (aD 3 rfl) (eP (λh=>Vl.mk (.lst (bR h)) false false []) (λ_=>Cn.yes.d) (λ_=>rfl) (q0 _ _ _ (aD 3 rfl)) (by unfold lim;omega) λh _=>⟨[.sh false (.lst (bR h))],rfl,bL (aF (aC _) bB)⟩) (aV 8 rfl) (xI n hb bw.1 bw.2 ho)))))))))⟩
theorem aCE(n d k:Nat):sIx n d (some (k:Int))=min k n:=by show(if (k:Int)<0 then ((k:Int)+(n:Int)).toNat else min (k:Int).toNat n)=_;rw[if_neg (by omega)];rfl
theorem aBq{α:Type}(xs:List α)(k:Nat):cut xs none (some (k:Int))=xs.take k:=by unfold cut;rw[aCE];show(xs.drop 0).take (min k xs.length-0)=_;rw[FG,Fo];grind
theorem aBr{α:Type}(xs:List α)(k:Nat):cut xs (some (k:Int)) none=xs.drop k:=by unfold cut;rw[aCE];show(xs.drop (min k xs.length)).take (xs.length-min k xs.length)=_;rw[Bz (by rw[BI];omega)];simp_all
section
variable {P:Pg} {W:Caller} {Z:Sg}
theorem aMk{ds:List D}(h:noLs ds=true)(lo hi:Option Int):eU (.cl (.tup ds)) lo hi=.ok (.cl (.tup (cut ds lo hi))):=by show R.ok (Vl.mk (.tup (cut ds lo hi)) false (false&&!noLs ds) (if noLs ds=true then [] else []))=_;rw[h];rfl
theorem aMl{a b:E}{is:List Int}{k:Nat}(h:ev P W Z a=.ok (.cl (aS is)))(q:ev P W Z b=.ok (.cl (.i (k:Int))))(I:k<=1000000):ev P W Z (.sli a .z (.k b .z))=.ok (.cl (aS (is.take k))):=by rw[wU,h,aA,q,aA];show R.iff (aM (k:Int)) (eU (.cl (.tup (is.map D.int))) none (some (k:Int)))=_;rw[fY I,aMk (eR is),aBq,<-CW];rfl
theorem aMm{a b:E}{is:List Int}{k:Nat}(h:ev P W Z a=.ok (.cl (aS is)))(I:ev P W Z b=.ok (.cl (.i (k:Int))))(U:k<=1000000):ev P W Z (.sli a (.k b .z) .z)=.ok (.cl (aS (is.drop k))):=by
 have q:evs P W Z (.k b .z)=.ok [.cl (.i (k:Int))]:=by rw[aJ,I];rfl
 show(ev P W Z a >>= λx=>evs P W Z (.k b .z) >>= λl=>evs P W Z .z >>= λh=>_)=_;rw[h,aA,q,aA,cB,aA];show R.iff (aM (k:Int)) (eU (.cl (.tup (is.map D.int))) (some (k:Int)) none)=_;rw[fY U,aMk (eR is),aBr,<-DW];rfl
theorem aOW(a b:List Int)(h:a.length+b.length<=1000):opD .Add (.cl (aS a)) (.cl (aS b))=.ok (.cl (aS (a++b))):=by show R.iff (decide ((a.map D.int).length+(b.map D.int).length<=lim)) (.ok (Vl.mk (.tup (a.map D.int++b.map D.int)) false (false||false) ([]++[])))=_;rw[lM,lM,Am (by unfold lim;omega),<-Ax];rfl
end
variable {bs:List (Str×Int)} {g:Cn} {hs:W3}
section
variable {P:Pg} {W:Caller} {Z:Sg} {i:Nat}
theorem jF(h:Z[i]? = some (.T (aR bs g hs))):ev P W Z (.v i)=.ok ⟨aR bs g hs,false,true,[]⟩:=by show cX Z i=_;unfold cX;rw[h];rfl
theorem aMn(h:Z[i]? = some (.T (aR bs g hs))):ev P W Z (.idx (.v i) eC0)=.ok ⟨.lst (aE bs),false,true,[]⟩:=aZ (jF h) (aC _) rfl
theorem aOX(h:Z[i]? = some (.T (aR bs g hs))):ev P W Z (.idx (.v i) eC1)=.ok (.cl g.d):=aZ (jF h) (aC _) (congrArg R.ok (cK g.noL))
theorem aGU(h:Z[i]? = some (.T (aR bs g hs))):ev P W Z (.idx (.v i) eC2)=.ok ⟨.lst (cC hs),false,true,[]⟩:=aZ (jF h) (aC _) rfl
theorem aJG(h:Z[i]? = some (.T (aR bs g hs))):ev P W Z (.bi .len (eL1 (.idx (.v i) eC2)))=.ok (.cl (.i hs.length)):=by have:=dC (aGU (P:=P) (W:=W) h) rfl;rwa [lM] at this
end
theorem sO{k:Nat}{h:List (List Way)}(q:hs[k]? = some h):eT ⟨.lst (cC hs),false,true,[]⟩ (.cl (.i (k:Int)))=.ok ⟨.lst (bR h),false,true,[]⟩:=pI (f:=λh=>D.lst (bR h)) rfl q
theorem aCF{h:List (List Way)}{p:Nat}{ws:List Way}(q:h[p]? = some ws):eT ⟨.lst (bR h),false,true,[]⟩ (.cl (.i (p:Int)))=.ok ⟨iO ws,false,true,[]⟩:=pI (f:=iO) rfl q
theorem sP(n:Nat)(h:List (List Way)){p:Nat}{ws:List Way}(I:h[p]? = some ws):cP (n+1) 28 [.lst (bR h),.i p]=.ok (iO ws,false,true):=by have U:=aK (P:=pg) (W:=cP n) (Z:=[.T (.lst (bR h)),.T (.i p)]) 0 rfl;have v1:=aN (P:=pg) (W:=cP n) (Z:=[.T (.lst (bR h)),.T (.i p)]) 1 rfl rfl;have q:=dC U rfl;rw[lM] at q;have q0:=(Ao.mp I).1;exact aH (F:=f28) rfl rfl (bE (uY (zY (aC (.i 0)) v1 q (by omega) (Am (by omega))) (aZ U v1 (aCF I))))
theorem aAf(n:Nat)(h:List (List Way)):cP (n+1) 28 [.lst (bR h),.i h.length]=.ok (.lst [],true,false):=by have q:=dC (aK (P:=pg) (W:=cP n) (Z:=[.T (.lst (bR h)),.T (.i h.length)]) 0 rfl) rfl;rw[lM] at q;exact aH (F:=f28) rfl rfl (v:=⟨.lst [],true,false,[]⟩) (bE (uY (zY (aC (.i 0)) (aN 1 rfl rfl) q (by omega) (A5 (by omega))) rfl))
abbrev St:=List Int×List Int
noncomputable def bV(s:St):D:=.tup [aS s.1,aS s.2]
noncomputable def aOY:Option St->D
 | none=>.non|some s=>bV s
theorem iQ(s:St):noL (bV s)=true:=jD (aU _) (aU _)
abbrev aL(p:Nat×Nat):D:=.tup [aI p.1,aI p.2]
noncomputable def bW(hs:W3)(s:St)(h:Nat):List Way:=(hs.getD h []).getD (s.2.getD h 0).toNat []
noncomputable def goneF(bs:List (Str×Int))(hs:W3)(s:St)(p:Nat×Nat):Option St:=
 if p.2<(bW hs s p.1).length then (behF bs (eF (bW hs s p.1) p.2) s.1).map λst=>(st,s.2.take p.1++[(eF (bW hs s p.1) p.2).nx]++s.2.drop (p.1+1)) else none
structure SOk (m:Nat) (hs:W3) (s:St):Prop where
 st:s.1.length=m
 pl:s.2.length=hs.length
 rg:∀k,k<hs.length->0<=s.2.getD k 0/\s.2.getD k 0<=(hs.getD k []).length
abbrev goF(bs:List (Str×Int))(g:Cn)(hs:W3)(s:St)(p:Nat×Nat)(s3 s4 s5 s6 s7 s8:Sl):Sg:=[.T (aR bs g hs),.T (bV s),.T (aL p),s3,s4,s5,s6,s7,s8]
theorem dD{α:Type}{l:List α}{k:Nat}(d:α)(h:k<l.length):l[k]? = some (l.getD k d):=by rw[Ag,Ad h];rfl
theorem sQ(n:Nat)(q5:bs.length<=4)(o:dL bs.length hs){s:St}(so:SOk bs.length hs s){p:Nat×Nat}(hp:p.1<hs.length):cP (n+33) 35 [aR bs g hs,bV s,aL p]=.ok (aOY (goneF bs hs s p),false,false):=by
 obtain⟨l2,l3⟩:=mF o
 let τ:=goF bs g hs s p
 have v1:∀s3 s4 s5 W I U,ev pg (cP (n+32)) (τ s3 s4 s5 W I U) eV1=.ok (.cl (bV s)):=λ_ _ _ _ _ _=>aN 1 rfl (iQ s);have q0:∀s3 s4 s5 W I U,ev pg (cP (n+32)) (τ s3 s4 s5 W I U) (.idx eV2 eC1)=.ok (.cl (aI p.2)):=λ_ _ _ _ _ _=>aZ ((λ_ _ _ _ _ _=>aN 2 rfl rfl) _ _ _ _ _ _) (aC _) (gM _ _ _ rfl);have v3:∀s4 s5 W I U,ev pg (cP (n+32)) (τ (.F (aI p.1)) s4 s5 W I U) eV3=.ok (.cl (aI p.1)):=λ_ _ _ _ _=>aD 3 rfl
 let μ:Sl->Sl->Sl->Sg:=λW I U=>τ (.F (aI p.1)) (.F (aS s.1)) (.F (aS s.2)) W I U
 have w5:∀W I U,ev pg (cP (n+32)) (μ W I U) eV5=.ok (.cl (aS s.2)):=λ_ _ _=>aD 5 rfl;obtain⟨r0,r1⟩:=so.rg p.1 hp;obtain⟨q,eq⟩:∃q:Nat,s.2.getD p.1 0=(q:Int):=⟨_,(CF r0).symm⟩
 have i5:∀W I U,ev pg (cP (n+32)) (μ W I U) (.idx eV5 eV3)=.ok (.cl (.i (q:Int))):=λW I U=>by have:=aZ (w5 W I U) (v3 _ _ _ _ _) (nC (by rw[so.pl];exact hp));rw[eq] at this;exact this
 have ih:∀W I U,ev pg (cP (n+32)) (μ W I U) (.idx (.idx eV0 eC2) eV3)=.ok ⟨.lst (bR (hs.getD p.1 [])),false,true,[]⟩:=λW I U=>aZ (aGU rfl) (v3 _ _ _ _ _) (sO (dD [] hp));have ro:bW hs s p.1=(hs.getD p.1 []).getD q []:=by unfold bW;rw[eq];rfl
 have pre:∀{v:Vl},exs pg (cP (n+32)) (μ .x .x .x) (drp 4 f35.body)=.ret v->exs pg (cP (n+32)) (τ .x .x .x .x .x .x) f35.body=.ret v:=λe=>cs (aT (aZ ((λ_ _ _ _ _ _=>aN 2 rfl rfl) _ _ _ _ _ _) (aC _) (gL _ _ rfl))) (cs (bJ (dH (zY (aC _) (v3 _ _ _ _ _) (aJG rfl) (by omega) (Am (by omega))))) (cs (aT (aZ (v1 _ _ _ _ _ _) (aC _) (gL _ _ (aU _)))) (cs (aT (aZ (v1 _ _ _ _ _ _) (aC _) (gM _ _ _ (aU _)))) e)));by_cases q4:q<(hs.getD p.1 []).length;have q1:(hs.getD p.1 [])[q]? = some (bW hs s p.1):=by rw[ro];exact dD [] q4
 have k5:ex pg (cP (n+32)) (μ .x .x .x) (hdS (drp 4 f35.body))=.next (μ (.T (iO (bW hs s p.1))) .x .x):=aGE (zW (ih _ _ _) (i5 _ _ _) (sP (n+31) _ q1) rfl rfl);have v6:∀I U,ev pg (cP (n+32)) (μ (.T (iO (bW hs s p.1))) I U) eV6=.ok ⟨iO (bW hs s p.1),false,true,[]⟩:=λ_ _=>aK 6 rfl;have q2:=dC (v6 .x .x) rfl;rw[lM] at q2;have t6:=zY (k:=decide (p.2<(bW hs s p.1).length)) (aC (.i 0)) (q0 (.F (aI p.1)) (.F (aS s.1)) (.F (aS s.2)) (.T (iO (bW hs s p.1))) .x .x) q2 (by omega) (by simp);by_cases hw:p.2<(bW hs s p.1).length
 . rw[Am hw] at t6;have hm:=xE hw
   let w:=eF (bW hs s p.1) p.2
   have k8:ex pg (cP (n+32)) (μ (.T (iO (bW hs s p.1))) (.F w.d) .x) (hdS (drp 7 f35.body))=.next (μ (.T (iO (bW hs s p.1))) (.F w.d) (.F (stD (behF bs w s.1)))):=aT (bX (aMn rfl) ((λ_=>aD 7 rfl) _) (aD 4 rfl) (aBg n so.st (by omega) (((o.ok _ (mG (dD [] hp))).ok _ (mG q1)).ok _ hm.1).1));have w8:ev pg (cP (n+32)) (μ (.T (iO (bW hs s p.1))) (.F w.d) (.F (stD (behF bs w s.1)))) eV8=.ok (.cl (stD (behF bs w s.1))):=aD 8 rfl;have t9:tst pg (cP (n+32)) (μ (.T (iO (bW hs s p.1))) (.F w.d) (.F (stD (behF bs w s.1)))) (.cmp .Is eV8 eCn)=.ok (behF bs w s.1).isNone:=bO w8 (aC _) (by cases behF bs w s.1 <;> rfl);have gf:goneF bs hs s p=(behF bs w s.1).map λst=>(st,s.2.take p.1++[w.nx]++s.2.drop (p.1+1)):=if_pos hw;cases q9:behF bs w s.1 with
   | none=>rw[q9] at t9 gf;rw[gf];rw[q9] at k8;exact aH (F:=f35) rfl rfl (v:=.cl .non) (pre (cs k5 (cs (bJ (dH t6)) (cs (aT (jI (v6 _ _) rfl (q0 _ _ _ _ _ _) hm.2 (eL _))) (cs k8 (gK t9 (bE (aC _))))))))|some st=>rw[q9] at t9 gf w8 k8;rw[gf];have q6:=so.pl;exact aH rfl rfl (v:=.cl (bV (st,s.2.take p.1++[w.nx]++s.2.drop (p.1+1)))) (pre (cs k5 (cs (bJ (dH t6)) (cs (aT (jI (v6 _ _) rfl (q0 _ _ _ _ _ _) hm.2 (eL _))) (cs k8 (cs (bJ t9) (bE (jE w8 (dI (dI (aMl (w5 _ _ _) (v3 _ _ _ _ _) (by omega)) (bL (aF (aZ ((λ_=>aD 7 rfl) _) (aC (.i 2)) (aBf _ _ _ _ rfl)) bB)) (aOW (s.2.take p.1) [w.nx] (by rw[A9];simp;omega))) (aMm (k:=p.1+1) (w5 _ _ _) (dB (v3 _ _ _ _ _) (aC (.i 1))) (by omega)) (aOW _ (s.2.drop (p.1+1)) (by rw[lA,A9,BI];simp;omega)))))))))))
 rw[A5 hw] at t6;rw[show goneF bs hs s p=none from if_neg hw];exact aH (F:=f35) rfl rfl (v:=.cl .non) (pre (cs k5 (gK (dH t6) (bE (aC _)))));have q3:q=(hs.getD p.1 []).length:=by omega
 have rn:bW hs s p.1=[]:=by rw[ro,Ag,B4 (by omega)];rfl
 rw[show goneF bs hs s p=none from if_neg (by rw[rn];simp)];exact aH (F:=f35) rfl rfl (v:=.cl .non) (pre (cs (bK (dK (ih _ _ _) (i5 _ _ _) (by rw[q3];exact aAf (n+31) _))) (gK (dH (zY (aC (.i 0)) (q0 (.F (aI p.1)) (.F (aS s.1)) (.F (aS s.2)) (.O []) .x .x) (dC (aV 6 rfl) rfl) (by omega) (A5 (by simp)))) (bE (aC _)))))
variable {bs:List (Str×Int)} {g:Cn} {hs:W3}
theorem aAg{st:List Int}:∀(ps:List (Nat×Sm)) (q r:List Int),putF bs st q ps=some r->r.length=q.length
 | [],q,r,h=>by cases h;rfl|p::ps,q,r,h=>by unfold putF at h;split at h;have:=aAg ps _ r h;rw[this,Az];cases h
theorem aGV{w:Way}{st r:List Int}(h:behF bs w st=some r):r.length=st.length:=by unfold behF at h;split at h;exact aAg _ _ _ h;cases h
theorem SOk.go(o:dL bs.length hs){s W:St}(q:SOk bs.length hs s){p:Nat×Nat}(hp:p.1<hs.length)(h:goneF bs hs s p=some W):SOk bs.length hs W:=by
 unfold goneF at h;split at h;rename_i I;obtain⟨st,h1,rfl⟩:=Bx.mp h;have q0:=q.pl;have hq:(s.2.getD p.1 0).toNat<(hs.getD p.1 []).length:=by
  by_cases z:(s.2.getD p.1 0).toNat<(hs.getD p.1 []).length;exact z;have e:bW hs s p.1=[]:=by unfold bW;rw[Ag,B4 (by omega)];rfl
  rw[e] at I;exact absurd I (Cj _)
 refine⟨by rw[aGV h1];exact q.st,by simp only[lA,A9,BI,BU];omega,λk U=>?_⟩;have tl:(s.2.take p.1).length=p.1:=by rw[A9];omega
 by_cases h1:k<p.1;have:(s.2.take p.1++[(eF (bW hs s p.1) p.2).nx]++s.2.drop (p.1+1)).getD k 0=s.2.getD k 0:=by rw[Ag,AU,Be (by omega),EA,if_pos h1,Ag]
 rw[this];exact q.rg k U;by_cases h2:k=p.1;subst h2;have:(s.2.take p.1++[(eF (bW hs s p.1) p.2).nx]++s.2.drop (p.1+1)).getD p.1 0=(eF (bW hs s p.1) p.2).nx:=by rw[Ag,AU,AB (by omega),tl,DM];rfl
 rw[this];have:=(((o.ok _ (mG (dD [] hp))).ok _ (mG (dD [] hq))).ok (eF (bW hs s p.1) p.2) (xE I).1).2;omega;have:(s.2.take p.1++[(eF (bW hs s p.1) p.2).nx]++s.2.drop (p.1+1)).getD k 0=s.2.getD k 0:=by
  have l1:(s.2.take p.1++[(eF (bW hs s p.1) p.2).nx]).length=p.1+1:=by rw[lA,tl];rfl
  rw[Ag,AB (by omega),l1,CO,Ag]
  congr 2
  omega
 rw[this];exact q.rg k U;cases h
theorem xJ(n:Nat)(hb:bs∈boxSet){st:List Int}(h:st∈standsL bs):cP (n+3) 8 [.lst (aE bs),aS st]=.ok (.bl true,false,false):=by
 obtain⟨hl,hr⟩:=nK h;obtain⟨l3,l4⟩:=fK hb;have v0:=aK (P:=pg) (W:=cP (n+2)) (Z:=[.T (.lst (aE bs)),.T (aS st)]) 0 rfl;have q:=aN (P:=pg) (W:=cP (n+2)) (Z:=[.T (.lst (aE bs)),.T (aS st)]) 1 rfl (aU st);have n0:=dC v0 rfl;have U:=dA q (kT _);rw[show(aE bs).length=bs.length from lM _] at n0;rw[lM] at U;have k1:=bJ (a:=.k (.ret (.c (.bl false))) .z) (dX (dH (eB (cs:=[.tTuple]) q rfl)) (bO (o:=.NotEq) U n0 (by
  simp_all)))
 have hz:fR (aE bs) (st.map D.int)=(bs.zip st).map λx=>.tup [box x.1,.i x.2]:=by
  clear hl hr k1 q U;have:∀(bs:List (Str×Int)) (st:List Int),fR (bs.map box) (st.map D.int)=(bs.zip st).map λx=>.tup [box x.1,.i x.2]:=λbs=>by
   induction bs with
   | nil=>intro st;cases st <;> rfl|cons b bs I=>
    intro st;cases st with
    | nil=>rfl|cons i st=>show .tup [box b,.i i]::fR (bs.map box) (st.map D.int)=_;rw[I st];rfl
  exact this bs st
 have hc:ev pg (cP (n+2)) [.T (.lst (aE bs)),.T (aS st)] (.comp 2 [] (.t [0,1]) (.zip eV0 eV1) .z (.call 15 (eL3 eV1 eC0 (.idx eV0 eC1))))=.ok ⟨.lst ((bs.zip st).map λ_=>.bl true),true,false,[]⟩:=by refine eP (al:=[]) (λx=>Vl.cl (.tup [box x.1,.i x.2])) (λ_=>.bl true) (λ_=>rfl) ?_ (by rw[List.length_zip];unfold lim;omega) λx hx=>?_;rw[jT,v0,aA,q,aA];show R.ok (items _ (fR (aE bs) (st.map D.int)),[])=_;rw[hz,cE (λ_=>rfl)];obtain⟨i,hi⟩:=Bv hx;rw[Ds] at hi;have:=hr i x.2 x.1 hi.2 hi.1;exact⟨[.F (box x.1),.F (.i x.2)],nG _ rfl rfl,bX (aD 1 rfl) (aC _) (aZ (aD 0 rfl) (aC (.i 1)) (gM _ _ _ rfl)) (iP n x.2 0 x.1.2 this.1 this.2)⟩
 refine aH (F:=f8) rfl rfl (v:=.cl (.bl true)) (cs k1 (bE (dA hc ?_)));have:cJ ((bs.zip st).map λ_=>D.bl true)=some ((bs.zip st).map λ_=>true):=by
  induction (bs.zip st) with
  | nil=>rfl|cons x r I=>rw[mC];unfold cJ;rw[I];rfl
 show(match cJ ((bs.zip st).map λ_=>D.bl true) with|some bs=>R.ok (Vl.cl (.bl (bs.all id)))|none=>.bad)=_;rw[this];grind
theorem tS(n:Nat)(U:bs∈boxSet){q:Cn}(w:q.wf bs.length true)(z:q.sz<=31):cP (n+32) 9 [.lst (aE bs),q.d]=.ok (.lst (((standsL bs).filter λst=>q.hold st st).map aS),true,false):=by
 have W:(standsL bs).length<=24:=by have:=aJA (aAc U) bs.length (Ap _);rwa [BJ] at this
 refine aH (F:=f9) rfl rfl (bE (aMc (al:=[]) (λst=>Vl.cl (aS st)) aS (λst=>q.hold st st) aU ?_ (by unfold lim;omega) λst I=>⟨[.F (aS st),.T q.d],rfl,gB (aN 1 rfl q.noL) (aD 0 rfl) (aC _) (sL n (nK I).1 w z),aD 0 rfl⟩));rw[bQ,cQ (aK 0 rfl) (aDY rfl (n+30) (aAc U)),aA];show R.ok (items _ ((standsL bs).map aS),[])=_;rw[cE aU]
theorem aAh(q:bs∈boxSet)(p:Bool):(dQ p).wf bs.length true/\(dQ p).sz<=31:=by
 have:=fK q;cases p with
 | true=>exact⟨trivial,by decide⟩|false=>exact⟨⟨by show 0<bs.length;omega,by decide,by decide⟩,by decide⟩
theorem aEj(q:bs∈boxSet)(p:Bool):1<=((standsL bs).filter λst=>(dQ p).hold st st).length:=by rcases box_six q with rfl|rfl|rfl|rfl|rfl|rfl <;> cases p <;> decide +kernel
theorem aEk(n:Nat)(U:bs∈boxSet){ns:List Int}(W:ns.length<=63)(p:Bool):∃st∈standsL bs,(dQ p).hold st st=true/\cP (n+33) 49 [.lst (ns.map D.int),aR bs (dQ p) hs]=.ok (aS st,false,false):=by
 obtain⟨w,z⟩:=aAh U p
 let xs:=pR ((ns++[0]).getD 0 0) 10
 have I:ev pg (cP (n+32)) [.T (.lst (ns.map D.int)),.T (aR bs (dQ p) hs),.O (((standsL bs).filter λst=>(dQ p).hold st st).map aS)] (.call 43 (eL2 (.idx (.op .Add eV0 (.lst (eL1 eC0))) eC0) aMd))=.ok ⟨.lst (xs.map D.int),true,false,[]⟩:=dK (nN W (by decide) rfl (aF (aC _) bB) (aC _) (by simp)) (aC (.i 10)) (gD rfl (n+31) _ (by decide));obtain⟨st,q,e⟩:=oO (aV 2 rfl) rfl (fP (k:=9) I rfl (aC _) (by rw[iN];decide)) (aEj U p) aU;rw[CP] at q;exact⟨st,q.1,q.2,aH rfl rfl (v:=.cl (aS st)) (cs (bK (dK (aMn rfl) (aOX rfl) (tS n U w z))) (bE e))⟩
variable {bs:List (Str×Int)} {g:Cn} {hs:W3}
abbrev cM(hs:W3):List Int:=Al hs.length 0
theorem aIR(o:dL bs.length hs){st:List Int}(h:st.length=bs.length):SOk bs.length hs (st,cM hs):=⟨h,AQ,λk q=>by
 have:(cM hs).getD k 0=0:=by rw[Ag,EW,if_pos q];rfl
 rw[this];omega⟩
theorem aAi{P:Pg}{W:Caller}{Z:Sg}{i:Nat}(I:hs.length<=3)(h:Z[i]? = some (.T (aR bs g hs))):ev P W Z (.bi .tuple (eL1 (.comp 1 [] (.n 0) (.seq (.idx (.v i) eC2)) .z eC0)))=.ok (.cl (aS (cM hs))):=by
 have q:ev P W Z (.comp 1 [] (.n 0) (.seq (.idx (.v i) eC2)) .z eC0)=.ok ⟨.lst (hs.map λ_=>.i 0),true,false,[]⟩:=by
  refine eP (al:=[]) (λh=>Vl.mk (.lst (bR h)) false true []) (λ_=>.i 0) (λ_=>rfl) ?_ (by unfold lim;omega) λh _=>⟨[.T (.lst (bR h))],rfl,aC _⟩
  rw[bQ,aGU h,aA];show R.ok (items _ (cC hs),[])=_;unfold items;rw[Aw];rfl
 have e:(hs.map λ_=>D.int 0)=(cM hs).map D.int:=by rw[G0];exact Hy ..
 rw[e] at q;refine dA q ?_;show R.ok (Vl.mk (.tup ((cM hs).map D.int)) false (false&&!noLs ((cM hs).map D.int)) (if noLs ((cM hs).map D.int)=true then [] else []))=_;rw[eR];rfl
theorem aEl(n:Nat)(q:hs.length<=3)(st:List Int):cP (n+1) 37 [aR bs g hs,aS st]=.ok (bV (st,cM hs),false,false):=
 aH (F:=f37) rfl rfl (bE (jE (aN 1 rfl (aU st)) (aAi q rfl)))
structure Wov (bs:List (Str×Int)) (hs:W3) (s0:St) (ps:List (Nat×Nat)) (ss:List St):Prop where
 len:ss.length=ps.length+1
 z:ss.getD 0 s0=s0
 go:∀i,i<ps.length->goneF bs hs (ss.getD i s0) (ps.getD i (0,0))=some (ss.getD (i+1) s0)
 hd:∀p∈ps,p.1<hs.length
 ok:∀i,SOk bs.length hs (ss.getD i s0)
theorem iR{α:Type}(l r:List α)(d:α){i:Nat}(h:i<l.length):(l++r).getD i d=l.getD i d:=by rw[Ag,Ag,Be h]
theorem kW{α:Type}(l:List α)(x d:α):(l++[x]).getD l.length d=x:=by rw[Ag,AB (Ap _),DM];rfl
theorem Wov.nil{s0:St}(q:SOk bs.length hs s0):Wov bs hs s0 [] [s0]:=⟨rfl,rfl,λi h=>absurd h (Cj _),λ_ h=>absurd h AI,λi=>by
 cases i with
 | zero=>exact q|succ i=>exact q⟩
theorem Wov.snoc(o:dL bs.length hs){s0 W:St}{ps:List (Nat×Nat)}{ss:List St}(U:Wov bs hs s0 ps ss){p:Nat×Nat}(hp:p.1<hs.length)(h:goneF bs hs (ss.getD ps.length s0) p=some W):Wov bs hs s0 (ps++[p]) (ss++[W]):=by
 have hl:=U.len;refine⟨by rw[lA,lA,hl];rfl,by rw[iR _ _ _ (by omega)];exact U.z,λi hi=>?_,λq hq=>?_,λi=>?_⟩;rw[lA,BU] at hi;by_cases I:i<ps.length;rw[iR ss _ _ (by omega),iR ps _ _ I,iR ss _ _ (by omega)];exact U.go i I;have:i=ps.length:=by omega
 subst this;rw[iR ss _ _ (by omega),kW];have e:=kW ss W s0;rw[hl] at e;rw[e];exact h;rcases Bl.mp hq with z|z;exact U.hd q z;rw[A0.mp z];exact hp;by_cases I:i<ss.length;rw[iR ss _ _ I];exact U.ok i;by_cases he:i=ss.length;subst he;rw[kW];exact((U.ok ps.length).go o hp h);rw[Ag,B4 (by simp;omega)];have:=U.ok 0;rw[U.z] at this;exact this
theorem fL{α q:Type}(f:α->q)(l:List α)(d:α){i:Nat}(h:i<l.length):(l.take (i+1)).map f=(l.take i).map f++[f (l.getD i d)]:=by rw[E5,Ax,Ad h,Ag,Ad h];rfl
theorem aAj{α:Type}(f:α->D)(q:α):∀(xs:List α) (a:Nat),iJ (a:Int) (xs.map f)=(Ar xs.length).map λi=>.tup [aI (a+i),f (xs.getD i q)]
 | [],_=>rfl|x::xs,a=>by rw[lC,Cq,mC,mC,Aw];show .tup [.i (a:Int),f x]::iJ ((a:Int)+1) (xs.map f)=_;rw[show((a:Int)+1)=((a+1:Nat):Int) by omega,aAj f q xs (a+1)];refine congrArg _ (AX λi _=>?_);rw[show a+1+i=a+(i+1) by omega];rfl
theorem vB(n:Nat)(hb:bs∈boxSet)(o:dL bs.length hs)(gw:g.wf bs.length true)(gz:g.sz<=31){st:List Int}(q0:st∈standsL bs)(hg:g.hold st st=true){ps:List (Nat×Nat)}{ss:List St}(I:Wov bs hs (st,cM hs) ps ss)(hp:ps.length<=100) :
 cP (n+34) 36 [aR bs g hs,aS st,.lst (ps.map aL)]=.ok (.lst (ss.map bV),true,false):=by
 obtain⟨l3,l4⟩:=fK hb;obtain⟨h2,h3⟩:=mF o
 let s0:St:=(st,cM hs)
 let q:Sl->Sl->Sl->Sl->Sg:=λs3 s4 s5 s6=>[.T (aR bs g hs),.T (aS st),.T (.lst (ps.map aL)),s3,s4,s5,s6]
 have k1:ex pg (cP (n+33)) (q .x .x .x .x) (hdS f36.body)=.next (q .x .x .x .x):=bJ (dX (dH (by
  have e:evs pg (cP (n+33)) (q .x .x .x .x) (eL2 (.idx eV0 eC0) eV1)=.ok [⟨.lst (aE bs),false,true,[]⟩,.cl (aS st)]:=by rw[aJ,aMn rfl,aA,aJ,(λ_ _ _ _=>aN 1 rfl (aU st)),aA,cB];rfl
  rw[iM,e,aA];show(cP (n+33) 8 [.lst (aE bs),aS st] >>= λr=>jL (iW _ r))=_;rw[xJ (n+30) hb q0];rfl)) (dH (gB (aOX rfl) ((λ_ _ _ _=>aN 1 rfl (aU st)) _ _ _ _) (aC _) (by
  have:=sL (n+2) (nK q0).1 gw gz;rw[hg] at this;exact this))))
 have k3:ex pg (cP (n+33)) (q (.F (bV s0)) .x .x .x) (hdS (drp 2 f36.body))=.next (q (.F (bV (ss.getD 0 s0))) (.O ((ss.take 1).map bV)) .x .x):=by rw[fL bV ss s0 (by rw[I.len];omega),show ss.getD 0 s0=s0 from I.z];exact bK (dP (aF (aD 3 rfl) bB))
 have hw:walk pg (cP (n+33)) (q (.F (bV (ss.getD 0 s0))) (.O ((ss.take 1).map bV)) .x .x) (.enum eV2)=.ok ((Ar ps.length).map (λi=>Vl.cl (.tup [aI i,aL (ps.getD i (0,0))])),[]):=by rw[aIJ (aK 2 rfl) rfl];have:=aAj aL (0,0) ps 0;rw[show((0:Nat):Int)=0 from rfl] at this;rw[this];refine congrArg R.ok (congrArg (·,[]) ((cE (λi=>rfl) _).trans (AX λi _=>?_)));rw[Nat.zero_add]
 obtain⟨Z',ef,s5,s6,rfl⟩:=cS (t:=.t [5,6]) (b:=match hdS (drp 3 f36.body) with|.for _ _ b=>b|_=>.z) (λi Z=>∃s5 s6,Z=q (.F (bV (ss.getD i s0))) (.O ((ss.take (i+1)).map bV)) s5 s6) hw ⟨_,_,rfl⟩ λi hi Z ⟨s5,s6,q1⟩=>by
  have W:i<ps.length:=by simpa using hi
  subst q1;have hl:=I.len;have gr:=sQ (g:=g) n l4 o (I.ok i) (I.hd (ps.getD i (0,0)) (mG (dD (0,0) W)));rw[I.go i W] at gr;refine⟨q (.F (bV (ss.getD i s0))) (.O ((ss.take (i+1)).map bV)) (.F (aI i)) (.F (aL (ps.getD i (0,0)))),_,?_,cs (aT (bX (jF rfl) (aD 3 rfl) (aD 6 rfl) gr)) (cs (bJ (bO (aD 3 rfl) (aC _) rfl)) (bG (gN (aD 3 rfl) rfl (by rw[lM,A9];unfold lim;omega) rfl (fL bV ss s0 (by omega))))),_,_,rfl⟩;rw[AD,Bd];exact nG _ rfl rfl
 have U:(ss.take ((Ar ps.length).map (λi=>Vl.cl (.tup [aI i,aL (ps.getD i (0,0))]))).length.succ)=ss:=by rw[lM,AS];exact Bz (by rw[I.len];exact Ap _)
 refine aH (F:=f36) rfl rfl (v:=⟨.lst (ss.map bV),true,false,[]⟩) (cs k1 (cs (aT (eO (jF rfl) ((λ_ _ _ _=>aN 1 rfl (aU st)) _ _ _ _) (aEl (n+32) h3 st))) (cs k3 (cs ef (mE ?_)))));show O.ret ⟨.lst ((ss.take ((Ar ps.length).map (λi=>Vl.cl (.tup [aI i,aL (ps.getD i (0,0))]))).length.succ).map bV),true,false,[]⟩=_;rw[U]
noncomputable def tT(ps:List (Nat×Nat))(ss:List St)(s0:St)(i:Nat):D:=.tup [aI (ps.getD i (0,0)).1,.i ((ss.getD i s0).2.getD (ps.getD i (0,0)).1 0),aI (ps.getD i (0,0)).2]
theorem oP{α q:Type}(f:α->D)(h:q->D)(I:α)(U:q):∀(xs:List α) (ys:List q),xs.length<=ys.length->fR (xs.map f) (ys.map h)=(Ar xs.length).map λi=>.tup [f (xs.getD i I),h (ys.getD i U)]
 | [],ys,_=>by cases ys <;> rfl|x::xs,[],hl=>by simp at hl|x::xs,y::ys,hl=>by rw[lC,Cq,mC,mC,mC,Aw];show .tup [f x,h y]::fR (xs.map f) (ys.map h)=_;rw[oP f h I U xs ys (by simpa using hl)];rfl
theorem aBs(n:Nat)(hb:bs∈boxSet)(o:dL bs.length hs)(gw:g.wf bs.length true)(gz:g.sz<=31){st:List Int}(U:st∈standsL bs)(hg:g.hold st st=true){ps:List (Nat×Nat)}{ss:List St}(q:Wov bs hs (st,cM hs) ps ss)(hp:ps.length<=100) :
 cP (n+35) 38 [aR bs g hs,aS st,.lst (ps.map aL)]=.ok (.lst ((Ar ps.length).map (tT ps ss (st,cM hs))),true,false):=by
 let s0:St:=(st,cM hs)
 have hc:ev pg (cP (n+34)) [.T (aR bs g hs),.T (aS st),.T (.lst (ps.map aL)),.O (ss.map bV)] (match hdS (drp 1 f38.body) with|.ret e=>e|_=>.c .non)=.ok ⟨.lst ((Ar ps.length).map (tT ps ss s0)),true,false,[]⟩:=by refine eP (al:=[3]) (λi=>Vl.cl (.tup [aL (ps.getD i (0,0)),bV (ss.getD i s0)])) (tT ps ss s0) (λ_=>rfl) ?_ (by rw[AS];unfold lim;omega) λi hi=>?_;rw[jT,aK 2 rfl,aA,aV 3 rfl,aA];show R.ok (items _ (fR (ps.map aL) (ss.map bV)),[3])=_;rw[oP aL bV (0,0) s0 ps ss (by rw[q.len];omega),cE (λi=>jD rfl (iQ _))];have I:=B5.mp hi;have v0:=aD (P:=pg) (W:=cP (n+34)) (Z:=[.F (aL (ps.getD i (0,0))),.F (bV (ss.getD i s0))]) 0 rfl;have i0:=aZ v0 (aC (.i 0)) (gL _ _ rfl);exact⟨[.F (aL (ps.getD i (0,0))),.F (bV (ss.getD i s0))],nG _ rfl (iQ _),aBh i0 (aZ (aZ (aD 1 rfl) (aC (.i 1)) (gM _ _ _ (aU _))) i0 (nC (by rw[(q.ok i).pl];exact(q.hd (ps.getD i (0,0)) (mG (dD (0,0) I)))))) (aZ v0 (aC (.i 1)) (gM _ _ _ rfl))⟩
 exact aH rfl rfl (v:=⟨.lst ((Ar ps.length).map (tT ps ss s0)),true,false,[]⟩) (cs (bK (fN (jF rfl) (aN 1 rfl (aU st)) (aK 2 rfl) (vB n hb o gw gz U hg q hp))) (bE hc))
variable {bs:List (Str×Int)} {g:Cn} {hs:W3}
abbrev gsF(bs:List (Str×Int))(g:Cn)(hs:W3)(s:St)(gl:List (Nat×Nat))(s3 s4:Sl):Sg:=[.T (aR bs g hs),.T (bV s),.O (gl.map aL),s3,s4]
abbrev gsB:Ss:=match hdS (drp 1 f50.body) with|.for _ _ b=>b|_=>.z
abbrev gsI:Ss:=match hdS gsB with|.for _ _ b=>b|_=>.z
theorem aEm(n:Nat)(q4:bs.length<=4)(o:dL bs.length hs){s:St}(so:SOk bs.length hs s):∃gl:List (Nat×Nat),(∀p∈gl,p.1<hs.length/\(goneF bs hs s p).isSome=true)/\gl.length<=12/\cP (n+34) 50 [aR bs g hs,bV s]=.ok (.lst (gl.map aL),true,false):=by
 obtain⟨h2,h3⟩:=mF o;obtain⟨Z',ef,gl,s3,U,g1,g2,rfl⟩:=cS (t:=.n 3) (λi Z=>∃(gl:List (Nat×Nat)) (s3 U:Sl),(∀p∈gl,p.1<hs.length/\(goneF bs hs s p).isSome=true)/\gl.length<=4*i/\Z=gsF bs g hs s gl s3 U) (cH (aJG (i:=0) rfl) rfl (by omega)) ⟨[],_,_,λ_ z=>absurd z AI,Ap _,rfl⟩ λi hi Z ⟨gl,s3,U,g1,g2,I⟩=>by
  have q0:i<hs.length:=by simpa using hi
  subst I;obtain⟨W,e2,q3,t4,q1,q2,rfl⟩:=cS (t:=.n 4) (b:=gsI) (λj Z=>∃(gl:List (Nat×Nat)) (U:Sl),(∀p∈gl,p.1<hs.length/\(goneF bs hs s p).isSome=true)/\gl.length<=4*i+j/\Z=gsF bs g hs s gl (.F (aI i)) U) (cH (aC (.i 4)) rfl (by decide)) ⟨gl,_,g1,g2,rfl⟩ λj hj Z ⟨gl,t4,q1,q2,I⟩=>by
   have q5:j<4:=by simpa using hj
   subst I
   let W:=gsF bs g hs s gl (.F (aI i)) (.F (aI j))
   have tp:ev pg (cP (n+33)) W (.tup (eL2 eV3 eV4))=.ok (.cl (aL (i,j))):=jE (aD 3 rfl) (aD 4 rfl);have t:=bO (o:=.IsNot) (k:=(goneF bs hs s (i,j)).isSome) (bX (jF (i:=0) rfl) (aN 1 rfl (iQ s)) tp (sQ n q4 o so q0)) (aC .non) (by cases goneF bs hs s (i,j) <;> rfl);cases q:(goneF bs hs s (i,j)).isSome with
   | true=>rw[q] at t;refine⟨W,gsF bs g hs s (gl++[(i,j)]) (.F (aI i)) (.F (aI j)),?_,bG (nH t (bG (gN tp rfl (by rw[lM];unfold lim;omega) rfl (by rw[Ax];rfl)))),_,_,kA q1 ⟨q0,q⟩,by rw[lA];simp;omega,rfl⟩;rw[AD,Bd,dW];rfl|false=>rw[q] at t;refine⟨W,W,?_,bG (bJ t),gl,_,q1,by omega,rfl⟩;rw[AD,Bd,dW];rfl
  refine⟨gsF bs g hs s gl (.F (aI i)) U,_,?_,bG e2,q3,_,_,q1,by simp at q2;omega,rfl⟩;rw[AD,Bd,dW];rfl
 refine⟨gl,g1,by simp at g2;omega,aH (F:=f50) rfl rfl (cs (Z':=gsF bs g hs s [] .x .x) rfl (cs ef (mE rfl)))⟩
abbrev spF(ns:List Int)(bs:List (Str×Int))(g:Cn)(hs:W3)(st:List Int)(at' m:Nat)(s:St)(ps:List (Nat×Nat))(s7 s8 s9 s10:Sl):Sg:=[.T (.lst (ns.map D.int)),.T (aR bs g hs),.T (aS st),.T (.i at'),.T (.i m),.F (bV s),.O (ps.map aL),s7,s8,s9,s10]
abbrev spB:Ss:=match hdS (drp 2 f51.body) with|.for _ _ b=>b|_=>.z
theorem aBt(n:Nat)(q2:bs.length<=4)(o:dL bs.length hs){ns:List Int}(hn:ns.length<=63){st:List Int}{a m i:Nat}(ha:a<=10)(hi:i<=100){ps:List (Nat×Nat)}{ss:List St}(W0:Wov bs hs (st,cM hs) ps ss)(pl:ps.length<=i)(s8 I q:Sl) :
 ∃(W:List (Nat×Nat)) (q4:List St) (t8 t9 w4:Sl),Wov bs hs (st,cM hs) W q4/\W.length<=i+1/\exs pg (cP (n+34)) (spF ns bs g hs st a m (ss.getD ps.length (st,cM hs)) ps (.F (aI i)) s8 I q) spB=.next (spF ns bs g hs st a m (q4.getD W.length (st,cM hs)) W (.F (aI i)) t8 t9 w4):=by
 let s:=ss.getD ps.length (st,cM hs)
 have so:SOk bs.length hs s:=W0.ok _;obtain⟨gl,g1,g2,g3⟩:=aEm n q2 o so
 let U:St->List (Nat×Nat)->Sl->Sl->Sl->Sg:=λs ps s8 I q=>spF ns bs g hs st a m s ps (.F (aI i)) s8 I q
 have v5:∀s ps s8 I q,ev pg (cP (n+34)) (U s ps s8 I q) eV5=.ok (.cl (bV s)):=λ_ _ _ _ _=>aD 5 rfl;have v0:∀s ps s8 I q,ev pg (cP (n+34)) (U s ps s8 I q) eV0=.ok ⟨.lst (ns.map D.int),false,true,[]⟩:=λ_ _ _ _ _=>aK 0 rfl;have v7:∀s ps s8 I q,ev pg (cP (n+34)) (U s ps s8 I q) eV7=.ok (.cl (aI i)):=λ_ _ _ _ _=>aD 7 rfl;have v8:∀s ps I q,ev pg (cP (n+34)) (U s ps (.O (gl.map aL)) I q) eV8=.ok ⟨.lst (gl.map aL),false,false,[8]⟩:=λ_ _ _ _=>aV 8 rfl;cases hg:gl with
 | nil=>exact⟨ps,ss,_,_,_,W0,by omega,cs (bK (dK (jF rfl) (v5 _ _ _ _ _) g3)) (bG (bJ (bO (v8 _ _ _ _) rfl (by rw[hg];rfl))))⟩|cons p0 gr=>
  have q8:1<=gl.length:=by rw[hg];simp
  have t1:tst pg (cP (n+34)) (U s ps (.O (gl.map aL)) I q) (.cmp .NotEq eV8 (.lst .z))=.ok true:=bO (v8 _ _ _ _) rfl (by
   have e:eqD (.lst (gl.map aL)) (.lst [])=some false:=by show(if (gl.map aL).length=([]:List D).length then _ else some false)=_;rw[if_neg (by rw[lM,lN];omega)]
   show(eqD (.lst (gl.map aL)) (.lst [])).map (!·)=_;rw[e];rfl)
  have q5:opD .Mult (.cl (.i 11)) (.cl (.i (i:Int)))=.ok (.cl (.i (11*i))):=mul_int (by
   unfold gH;rw[Am (by omega),Am (by omega)];rfl)
  have q0:∀I,ev pg (cP (n+34)) (U s ps (.O (gl.map aL)) I q) (.bi .len (eL1 eV0))=.ok (.cl (.i ns.length)):=λI=>by have:=dC (v0 s ps (.O (gl.map aL)) I q) rfl;rwa [lM] at this
  have ai:∀I,ev pg (cP (n+34)) (U s ps (.O (gl.map aL)) I q) (.op .Add eV3 eV7)=.ok (.cl (.i ((a+i:Nat):Int))):=λI=>by have:=dB (aN (Z:=U s ps (.O (gl.map aL)) I q) 3 rfl rfl) (v7 _ _ _ _ _);rw[show(a:Int)+(i:Int)=((a+i:Nat):Int) by omega] at this;exact this
  have m2:∃x:Int,ex pg (cP (n+34)) (U s ps (.O (gl.map aL)) (.F (.i (11*(i:Int)+ns.length))) q) (.iff (.cmp .Lt (.op .Add eV3 eV7) (.bi .len (eL1 eV0))) (.k (.set (.n 9) (.idx eV0 (.op .Add eV3 eV7))) .z) .z)=.next (U s ps (.O (gl.map aL)) (.F (.i x)) q):=by have t:=bO (o:=.Lt) (ai (.F (.i (11*(i:Int)+ns.length)))) (q0 _) rfl;by_cases q7:a+i<ns.length;rw[Am (by omega)] at t;exact⟨ns.getD (a+i) 0,nH t (bG (aT (fP (v0 _ _ _ _ _) rfl (ai _) q7)))⟩;rw[A5 (by omega)] at t;exact⟨_,bJ t⟩
  obtain⟨x,m2⟩:=m2;obtain⟨p,hp,q6⟩:=oO (v8 s ps (.F (.i x)) q) rfl (fP (k:=0) (dK (aD 9 rfl) (aC (.i 1)) (gD (f:=43) rfl (n+33) x (by decide))) rfl (aC _) (by rw[iN];decide)) q8 (λ_=>rfl);obtain⟨q3,q9⟩:=g1 p hp;obtain⟨s',es⟩:=Dw.mp q9;have q1:=sQ (g:=g) (n+1) q2 o so q3;rw[es] at q1;have w3:(ss++[s']).getD (ps++[p]).length (st,cM hs)=s':=by rw[show(ps++[p]).length=ss.length by rw[lA,W0.len];rfl];exact kW _ _ _
  refine⟨ps++[p],ss++[s'],.O (gl.map aL),.F (.i x),.F (aL p),W0.snoc o q3 es,by rw[lA,BU];omega,?_⟩;rw[w3];exact cs (bK (dK (jF rfl) (v5 _ _ _ _ _) g3)) (bG (nH t1 (cs (aT (dB (dI (aC (.i 11)) (v7 _ _ _ _ _) q5) (q0 _))) (cs m2 (cs (aT q6) (cs (gN (aD 10 rfl) rfl (by rw[lM];unfold lim;omega) rfl (by rw[Ax];rfl)) (bG (aT (bX (jF rfl) (v5 _ _ _ _ _) (aD 10 rfl) q1)))))))))
theorem aEn(n:Nat)(hb:bs∈boxSet)(o:dL bs.length hs){ns:List Int}(hn:ns.length<=63){st:List Int}(q0:st∈standsL bs){a m:Nat}(ha:a<=10)(hm:m<=100):∃(ps:List (Nat×Nat)) (ss:List St),Wov bs hs (st,cM hs) ps ss/\ps.length<=m/\cP (n+35) 51 [.lst (ns.map D.int),aR bs g hs,aS st,.i a,.i m]=.ok (.lst (ps.map aL),true,false):=by
 obtain⟨l3,l4⟩:=fK hb;obtain⟨h2,h3⟩:=mF o;obtain⟨Z',ef,ps,ss,s7,I,U,q,W,pl,rfl⟩:=cS (t:=.n 7) (λi Z=>∃(ps:List (Nat×Nat)) (ss:List St) (s7 I U q:Sl),Wov bs hs (st,cM hs) ps ss/\ps.length<=i/\Z=spF ns bs g hs st a m (ss.getD ps.length (st,cM hs)) ps s7 I U q) (cH (aN 4 rfl rfl) rfl (by omega)) ⟨[],[(st,cM hs)],_,_,_,_,Wov.nil (aIR o (nK q0).1),Ap _,rfl⟩ λi hi Z ⟨ps,ss,s7,I,U,q,W,pl,q1⟩=>by
  have q5:i<m:=by simpa using hi
  subst q1;obtain⟨q3,q4,t8,t9,q6,W',q2,e⟩:=aBt n l4 o hn ha (by omega) W pl I U q;refine⟨spF ns bs g hs st a m (ss.getD ps.length (st,cM hs)) ps (.F (aI i)) I U q,_,?_,e,q3,q4,_,_,_,_,W',q2,rfl⟩;rw[AD,Bd,dW];rfl
 exact⟨ps,ss,W,by simpa using pl,aH rfl rfl (v:=⟨.lst (ps.map aL),true,false,[]⟩) (cs (aT (jE (aN 2 rfl (aU st)) (aAi h3 rfl))) (cs rfl (cs ef (mE rfl))))⟩
inductive Px where
 | s (x:Sm)|c (x:Cn)
noncomputable def Px.d:Px->D
 | .s x=>x.d|.c x=>x.d
noncomputable def Px.sz:Px->Nat
 | .s x=>x.sz|.c x=>x.sz
noncomputable def Px.word:Px->Str
 | .s (.num _) => "number"|.s (.box _) => "box"|.s (.aft _) => "after"|.s (.two p _ _)=>aDZ p|.c .yes => "yes"|.c (.cmp i _ _)=>wZ i|.c (.nt _) => "not"|.c (.two p _ _)=>sK p
noncomputable def Px.items:Px->List (Int ⊕ Px)
 | .s (.num k)=>[.inl k]
 | .s (.box k)=>[.inl k]
 | .s (.aft k)=>[.inl k]
 | .s (.two _ a b)=>[.inr (.s a),.inr (.s b)]
 | .c .yes=>[]
 | .c (.cmp _ a b)=>[.inr (.s a),.inr (.s b)]
 | .c (.nt x)=>[.inr (.c x)]
 | .c (.two _ a b)=>[.inr (.c a),.inr (.c b)]
noncomputable def itD:Int ⊕ Px->D
 | .inl k=>.i k|.inr p=>p.d
theorem Px.noL:∀p:Px,Hp.noL p.d=true
 | .s x=>x.noL|.c x=>x.noL
theorem aMo:∀t,noL (itD t)=true
 | .inl _=>rfl|.inr p=>p.noL
theorem Px.d_eq:∀p:Px,p.d=.tup (.str p.word::p.items.map itD)
 | .s (.num _)=>rfl|.s (.box _)=>rfl|.s (.aft _)=>rfl|.s (.two _ _ _)=>rfl|.c .yes=>rfl|.c (.cmp _ _ _)=>rfl|.c (.nt _)=>rfl|.c (.two _ _ _)=>rfl
theorem xK:∀(p q:Px),Co q∈p.items->q.sz+1<=p.sz:=λp q h=>by
 cases p with
 | s x=>cases x with
  | two t a b=>simp only[Px.items,AA,EM,AI,E9] at h;rcases h with rfl|rfl <;> simp only[Px.sz,Sm.sz] <;> omega
  | num _=>simp[Px.items] at h|box _=>simp[Px.items] at h|aft _=>simp[Px.items] at h
 | c x=>cases x with
  | yes=>simp[Px.items] at h|cmp t a b=>simp only[Px.items,AA,EM,AI,E9] at h;rcases h with rfl|rfl <;> simp only[Px.sz,Cn.sz] <;> omega
  | nt y=>simp only[Px.items,AA,EM,AI,E9] at h;subst h;simp only[Px.sz,Cn.sz];omega|two t a b=>simp only[Px.items,AA,EM,AI,E9] at h;rcases h with rfl|rfl <;> simp only[Px.sz,Cn.sz] <;> omega
theorem Px.pos:∀p:Px,1<=p.sz
 | .s x=>x.sz_pos|.c x=>x.sz_pos
noncomputable def rdS:Sm->List Nat
 | .box k=>[k]
 | .two _ a b=>rdS a++rdS b|_=>[]
noncomputable def rdC:Cn->List Nat
 | .yes=>[]
 | .cmp _ a b=>rdS a++rdS b|.nt c=>rdC c|.two _ a b=>rdC a++rdC b
noncomputable def Px.rd:Px->List Nat
 | .s x=>rdS x|.c x=>rdC x
noncomputable def rdT:Int ⊕ Px->List Nat
 | .inl _=>[]
 | .inr p=>p.rd
noncomputable def Px.bx:Px->Option Nat
 | .s (.box k)=>some k|_=>none
theorem aOZ:∀i,(wZ i == "box")=false:=by decide +kernel
theorem aPa:∀i,(sK i == "box")=false:=by decide +kernel
theorem aCG:∀p:Px,(p.word == "box")=p.bx.isSome
 | .s (.num _)=>by show(("number" : Str) == "box")=false;decide +kernel|.s (.box _)=>by show(("box" : Str) == "box")=true;grind|.s (.aft _)=>by show(("after" : Str) == "box")=false;decide +kernel|.s (.two p _ _)=>aOQ p|.c .yes=>by show(("yes" : Str) == "box")=false;decide +kernel|.c (.cmp i _ _)=>aOZ i|.c (.nt _)=>by show(("not" : Str) == "box")=false;decide +kernel|.c (.two p _ _)=>aPa p
theorem aCH{p:Px}{k:Nat}(h:p.bx=some k):p=.s (.box k):=by
 cases p with
 | s x=>cases x <;> cases h;rfl|c x=>cases h
theorem aGW{p:Px}(h:p.bx=none):p.rd=(p.items.map rdT).flatten:=by
 cases p with
 | s x=>cases x with|box k=>cases h|num _=>rfl|aft _=>rfl|two _ a b=>simp[Px.rd,Px.items,rdT,rdS]
 | c x=>cases x with|yes=>rfl|cmp _ a b=>simp[Px.rd,Px.items,rdT,rdC]|nt y=>simp[Px.rd,Px.items,rdT,rdC]|two _ a b=>simp[Px.rd,Px.items,rdT,rdC]
noncomputable def prS:Sm->List Px
 | .two p a b=>.s (.two p a b)::(prS a++prS b)|x=>[.s x]
noncomputable def prC:Cn->List Px
 | .yes=>[.c .yes]
 | .cmp i a b=>.c (.cmp i a b)::(prS a++prS b)|.nt x=>.c (.nt x)::prC x|.two p a b=>.c (.two p a b)::(prC a++prC b)
noncomputable def Px.pr:Px->List Px
 | .s x=>prS x|.c x=>prC x
noncomputable def prT:Int ⊕ Px->List Px
 | .inl _=>[]
 | .inr p=>p.pr
theorem aGX(p:Px):p.pr=p::(p.items.map prT).flatten:=by
 cases p with
 | s x=>cases x with|box k=>rfl|num _=>rfl|aft _=>rfl|two _ a b=>simp[Px.pr,Px.items,prT,prS]
 | c x=>cases x with|yes=>rfl|cmp _ a b=>simp[Px.pr,Px.items,prT,prC]|nt y=>simp[Px.pr,Px.items,prT,prC]|two _ a b=>simp[Px.pr,Px.items,prT,prC]
theorem sR:∀x:Sm,(prS x).filterMap Px.bx=rdS x
 | .num _=>rfl|.box _=>rfl|.aft _=>rfl|.two p a b=>by show(EB Px.bx (.s (.two p a b)::(prS a++prS b)))=_;rw[BZ rfl,Db,sR a,sR b];rfl
theorem xL:∀x:Cn,(prC x).filterMap Px.bx=rdC x
 | .yes=>rfl|.cmp i a b=>by show(EB Px.bx (.c (.cmp i a b)::(prS a++prS b)))=_;rw[BZ rfl,Db,sR a,sR b];rfl|.nt x=>by show(EB Px.bx (.c (.nt x)::prC x))=_;rw[BZ rfl,xL x];rfl|.two p a b=>by show(EB Px.bx (.c (.two p a b)::(prC a++prC b)))=_;rw[BZ rfl,Db,xL a,xL b];rfl
theorem aJH:∀p:Px,p.pr.filterMap Px.bx=p.rd
 | .s x=>sR x|.c x=>xL x
theorem nO:∀x:Sm,(prS x).length=x.sz
 | .num _=>rfl|.box _=>rfl|.aft _=>rfl|.two p a b=>by show(prS a++prS b).length+1=1+a.sz+b.sz;rw[lA,nO a,nO b];omega
theorem qG:∀x:Cn,(prC x).length=x.sz
 | .yes=>rfl|.cmp i a b=>by show(prS a++prS b).length+1=1+a.sz+b.sz;rw[lA,nO a,nO b];omega|.nt x=>by show(prC x).length+1=1+x.sz;rw[qG x];omega|.two p a b=>by show(prC a++prC b).length+1=1+a.sz+b.sz;rw[lA,qG a,qG b];omega
theorem aBu:∀p:Px,p.pr.length=p.sz
 | .s x=>nO x|.c x=>qG x
theorem xM(p:Px):p.rd.length<=p.sz:=by rw[<-aJH,<-aBu];grind
theorem mH{m:Nat}:∀x:Sm,x.wf m true->∀k∈rdS x,k<m
 | .num _,_,_,h=>by cases h|.box j,w,k,h=>by rw[A0.mp h];exact w|.aft _,_,_,h=>by cases h|.two _ a b,w,k,h=>by rcases Bl.mp h with z|z;exact mH a w.1 k z;exact mH b w.2 k z
theorem sU{m:Nat}:∀x:Cn,x.wf m true->∀k∈rdC x,k<m
 | .yes,_,_,h=>by cases h|.cmp _ a b,w,k,h=>by rcases Bl.mp h with z|z;exact mH a w.1 k z;exact mH b w.2 k z
 | .nt x,w,k,h=>sU x w k h|.two _ a b,w,k,h=>by rcases Bl.mp h with z|z;exact sU a w.1 k z;exact sU b w.2 k z
section
variable {P:Pg} {W:Caller} {Z:Sg}
theorem sV{p:Px}{i:Nat}(h:Z[i]? = some (.T p.d)):walk P W Z (.seq (.sli (.v i) (eL1 eC1) .z))=.ok (p.items.map (λt=>Vl.cl (itD t)),[]):=by
 have I:noLs (.str p.word::p.items.map itD)=true:=by have:=p.noL;rw[p.d_eq] at this;exact this
 have v:ev P W Z (.v i)=.ok (.cl (.tup (.str p.word::p.items.map itD))):=by rw[<-p.d_eq];exact aN i h p.noL
 have e:ev P W Z (.sli (.v i) (eL1 eC1) .z)=.ok (.cl (.tup (p.items.map itD))):=by have q:evs P W Z (eL1 eC1)=.ok [.cl (.i ((1:Nat):Int))]:=rfl;show(ev P W Z (.v i) >>= λx=>evs P W Z (eL1 eC1) >>= λl=>evs P W Z .z >>= λh=>_)=_;rw[v,aA,q,aA,cB,aA];show R.iff (aM ((1:Nat):Int)) (eU (.cl (.tup (.str p.word::p.items.map itD))) (some ((1:Nat):Int)) none)=_;rw[fY (by decide),aMk I,aBr];rfl
 rw[bQ,e,aA];show R.ok (items _ (p.items.map itD),[])=_;rw[cE aMo]
end
theorem aEo:∀p:Px,p.items.length<=2
 | .s (.num _)=>by simp[Px.items]|.s (.box _)=>by simp[Px.items]|.s (.aft _)=>by simp[Px.items]|.s (.two _ _ _)=>by simp[Px.items]|.c .yes=>by simp[Px.items]|.c (.cmp _ _ _)=>by simp[Px.items]|.c (.nt _)=>by simp[Px.items]|.c (.two _ _ _)=>by simp[Px.items]
theorem fI{α q:Type}(f:α->List q)(l:List α){i:Nat}(h:i<l.length):((l.take (i+1)).map f).flatten=((l.take i).map f).flatten++f l[i]:=by rw[E5,Ad h,Ax,List.flatten_append];simp
theorem pZ{p:Px}{α:Type}(f:Int ⊕ Px->List α)(q:∀t∈p.items,(f t).length<=100):∀i,((p.items.take i).map f).flatten.length<=200:=λi=>by
 have h2:=aEo p;have:∀l:List (Int ⊕ Px),(∀t∈l,(f t).length<=100)->(l.map f).flatten.length<=100*l.length:=λl=>by
  induction l with
  | nil=>intro _;exact Ap _|cons t l U=>grind
 have h1:=this (p.items.take i) λt I=>q t (Dm I);have:(p.items.take i).length<=2:=by rw[A9];omega
 omega
theorem oQ:∀(N:Nat) (p:Px),p.sz<=N->p.sz<=50->∀n,cP (n+N) 52 [p.d]=.ok (.lst (p.rd.map aI),true,false)
 | 0,p,h,_,_=>absurd h (by have:=p.pos;omega)|N+1,p,h,h50,n=>by
  have v0:∀s1 s2,ev pg (cP (n+N)) [.T p.d,s1,s2] (.idx eV0 eC0)=.ok (.cl (.str p.word)):=λs1 s2=>by refine aZ (aN 0 rfl p.noL) (aC _) ?_;rw[p.d_eq];exact gL _ _ rfl
  have t0:=cI (v0 .x .x) (aCG p);cases hb:p.bx with
  | some k=>have e:=aCH hb;subst e;exact aH (F:=f52) rfl rfl (gK t0 (bE (dP (aF (aZ (aN 0 rfl rfl) (aC (.i 1)) (gM _ _ _ rfl)) bB))))|none=>
   rw[hb] at t0
   let I:Nat->Sl->Sg:=λi s2=>[.T p.d,.O ((((p.items.take i).map rdT).flatten).map aI),s2]
   obtain⟨Z',ef,s2,rfl⟩:=cS (t:=.n 2) (b:=match hdS (drp 2 f52.body) with|.for _ _ b=>b|_=>.z) (λi Z=>∃s2,Z=I i s2) (sV (i:=0) rfl) ⟨_,rfl⟩ λi hi Z ⟨s2,q1⟩=>by
    have U:i<p.items.length:=by simpa using hi
    subst q1;have w2:ev pg (cP (n+N)) (I i (.F (itD p.items[i]))) eV2=.ok (.cl (itD p.items[i])):=aD 2 rfl;have hm:=AK U;cases W:p.items[i] with
    | inl k=>
     rw[W] at w2;refine⟨I i (.F (itD p.items[i])),I (i+1) (.F (itD p.items[i])),?_,?_,_,rfl⟩;rw[AD,dW];rfl;have:I (i+1) (.F (itD p.items[i]))=I i (.F (itD p.items[i])):=by
      show [_,_,_]=[_,_,_]
      rw[fI rdT p.items U,W];simp[rdT]
     rw[this,W];exact bG (bJ (eB w2 rfl))
    | inr q=>
     rw[W] at w2 hm;have qs:=xK p q hm;have fl:=pZ rdT (λt ht=>by
      cases t with
      | inl _=>exact Bw _|inr q=>have:=xM q;have:=xK p q ht;show q.rd.length<=100;omega) i
     refine⟨I i (.F (itD p.items[i])),I (i+1) (.F (itD p.items[i])),?_,?_,_,rfl⟩;rw[AD,dW];rfl;rw[W];refine bG (nH (eB w2 (by show isI [.tTuple] pg q.d=some true;rw[q.d_eq];rfl)) (bG ?_));have e:=bK (i:=1) (dI (aV 1 rfl) (cQ w2 (oQ N q (by omega) (by omega) n)) (pS rfl rfl (bI cR _) (bI cR _) (by
      rw[lM,lM];have:=xM q;unfold lim;omega)))
     refine e.trans ?_;show O.next [_,_,_]=O.next [_,_,_];rw[fI rdT p.items U,W,Ax];rfl
   have q0:((p.items.take (p.items.map λt=>Vl.cl (itD t)).length).map rdT).flatten=p.rd:=by rw[lM,BJ,aGW hb]
   refine aH (F:=f52) rfl rfl (v:=⟨.lst (p.rd.map aI),true,false,[]⟩) (cs (bJ t0) (cs rfl (cs ef (mE ?_))));show O.ret ⟨.lst ((((p.items.take (p.items.map λt=>Vl.cl (itD t)).length).map rdT).flatten).map aI),true,false,[]⟩=_;rw[q0]
section
variable {P:Pg} {W:Caller} {Z:Sg}
theorem aGY{i:Nat}{e:E}{ds ds' r:List D}(h:ev P W Z e=.ok ⟨.lst ds',true,false,[]⟩)(n:noLs ds'=true)(hi:Z[i]? = some (.O ds))(I:r.length<=lim)(q:r=ds++ds'):ex P W Z (.ext i e)=.next (Z.set i (.O r)):=by
 subst q;have s:uB (⟨.lst ds',true,false,[]⟩:Vl)=some (.cl .non,ds'):=by show some (Vl.mk .non false (false&&!noLs ds') (if noLs ds'=true then [] else []),ds')=_;rw[n];rfl
 rw[aGr,h,cA,s];show put Z i (.cl .non) (λds=>some (ds++ds'))=_;unfold put lH;rw[uX,jC,hi];simp_all
theorem aBv{k:Nat}{caps al:List Nat}{T:T}{it:It}{c elt:E}{α:Type}{ts:List α}(f:α->Vl)(g:α->D)(p:α->Bool)(ng:∀t,noL (g t)=true)(hw:walk P W Z it=.ok (ts.map f,al))(hl:ts.length<=lim)
 (hb:∀t∈ts,∃q,cN (Al k .x++caps.map λi=>((freeze Z al)[i]?).getD .x) (f t) T=.ok q/\tst P W q c=.ok (p t)/\(p t=true->ev P W q elt=.ok (.cl (g t)))):ev P W Z (.comp k caps T it (.k c .z) elt)=.ok ⟨.lst ((ts.filter p).map g),true,false,[]⟩:=by
 rw[mX,hw,aA,jZ (g:=g) (p:=p) λt ht=>by
  obtain⟨q,I,U,e3⟩:=hb t ht;rw[I];show(tsts P W q (.k c .z) >>= λk=>if k then (ev P W q elt >>= λy=>R.ok (some y)) else R.ok none)=_;rw[uV,U,aA];cases hp:p t with
  | false=>rfl|true=>
   simp_all]
 show R.iff (decide (((ts.filter p).map λt=>Vl.cl (g t)).length<=lim)) (R.ok (fV k caps al _))=_;rw[xA ng,Am (by rw[lM];grind)];rfl
end
theorem vC:∀(N:Nat) (p:Px),p.sz<=N->p.sz<=50->∀n,cP (n+N) 11 [p.d]=.ok (.lst (p.pr.map Px.d),true,false)
 | 0,p,h,_,_=>absurd h (by have:=p.pos;omega)|N+1,p,h,h50,n=>by
  let I:Nat->Sl->Sg:=λi s2=>[.T p.d,.O ((p::((p.items.take i).map prT).flatten).map Px.d),s2]
  obtain⟨Z',ef,s2,rfl⟩:=cS (t:=.n 2) (b:=match hdS (drp 1 f11.body) with|.for _ _ b=>b|_=>.z) (λi Z=>∃s2,Z=I i s2) (sV (i:=0) rfl) ⟨_,rfl⟩ λi hi Z ⟨s2,q1⟩=>by
   have U:i<p.items.length:=by simpa using hi
   subst q1;have w2:ev pg (cP (n+N)) (I i (.F (itD p.items[i]))) eV2=.ok (.cl (itD p.items[i])):=aD 2 rfl;have hm:=AK U;cases W:p.items[i] with
   | inl k=>
    rw[W] at w2;refine⟨I i (.F (itD p.items[i])),I (i+1) (.F (itD p.items[i])),?_,?_,_,rfl⟩;rw[AD,dW];rfl;have:I (i+1) (.F (itD p.items[i]))=I i (.F (itD p.items[i])):=by
     show [_,_,_]=[_,_,_]
     rw[fI prT p.items U,W];simp[prT]
    rw[this,W];exact bG (bJ (eB w2 rfl))
   | inr q=>
    rw[W] at w2 hm;have qs:=xK p q hm;have fl:=pZ prT (λt ht=>by
     cases t with
     | inl _=>exact Bw _|inr q=>have:=aBu q;have:=xK p q ht;show q.pr.length<=100;omega) (i+1)
    refine⟨I i (.F (itD p.items[i])),I (i+1) (.F (itD p.items[i])),?_,?_,_,rfl⟩;rw[AD,dW];rfl;rw[W];exact bG (nH (eB w2 (by show isI [.tTuple] pg q.d=some true;rw[q.d_eq];rfl)) (bG (aGY (cQ w2 (vC N q (by omega) (by omega) n)) (bI Px.noL _) rfl (by
     rw[lM,lC];unfold lim;omega) (by rw[fI prT p.items U,W,<-Ax];rfl))))
  have q0:p::((p.items.take (p.items.map λt=>Vl.cl (itD t)).length).map prT).flatten=p.pr:=by rw[lM,BJ,<-aGX]
  refine aH rfl rfl (v:=⟨.lst (p.pr.map Px.d),true,false,[]⟩) (cs (bK (dP (aF (aN 0 rfl p.noL) bB))) (cs ef (mE ?_)));show O.ret ⟨.lst ((p::((p.items.take (p.items.map λt=>Vl.cl (itD t)).length).map prT).flatten).map Px.d),true,false,[]⟩=_;rw[q0]
abbrev dM(ks:List Nat):D:=.lst (ks.map aI)
theorem vD:∀{ks:List Nat},(∀k∈ks,k<4)->vX (ks.map aI)=some ks
 | [],_=>rfl|k::ks,h=>by have h1:=h k A3;show(if 0<=(k:Int)/\(k:Int)<=3 then (match vX (ks.map aI) with|some r=>some ((k:Int).toNat::r)|none=>none) else none)=_;rw[if_pos (by omega),(vD λj q=>h j (Au _ q)),BD]
theorem nP{ks:List Nat}(h:∀k∈ks,k<4)(k:Nat):k∈fQ ks↔k∈ks:=by unfold fQ;rw[CP,B5,AR];grind
theorem aCI{ks:List Nat}(k:Nat)(h:k∈fQ ks):k<4:=B5.mp (CP.mp h).1
theorem sW(ks:List Nat):(fQ ks).length<=4:=AL (DQ _ _) (by decide)
theorem aGZ{P:Pg}{W:Caller}{Z:Sg}{a:E}{v:Vl}{ks:List Nat}(h:ev P W Z a=.ok v)(I:v.d=dM ks)(q:∀k∈ks,k<4):ev P W Z (.sset a)=.ok ⟨dM (fQ ks),true,false,[]⟩:=by show(ev P W Z a >>= λx=>_)=_;rw[h,aA];rw[I];show(match vX (ks.map aI) with|some ns=>R.ok (⟨.lst ((fQ ns).map λ(k:Nat)=>.i (k:Int)),true,false,[]⟩:Vl)|none=>.bad)=_;rw[vD q]
noncomputable def Px.wf(m:Nat):Px->Prop
 | .s x=>x.wf m true|.c x=>x.wf m true
theorem Px.rd_lt{m:Nat}:∀{p:Px},p.wf m->∀k∈p.rd,k<m
 | .s x,w=>mH x w|.c x,w=>sU x w
theorem aAk{α I:Type}(f:α->Option I)(d:I):∀l:List α,((l.filter λa=>(f a).isSome).map λa=>(f a).getD d)=l.filterMap f
 | []=>rfl|a::l=>by
  have q:=aAk f d l;cases h:f a with
  | none=>rw[BZ h,<-q,EZ (by rw[h];grind)]|some b=>rw[EK h,<-q,EY (by rw[h];rfl),mC,h];rfl
theorem vE(n:Nat){p:Px}{N m:Nat}(w:p.wf m)(hm:m<=4)(hN:p.sz<=N)(I:p.sz<=50):cP (n+N+1) 10 [p.d]=.ok (dM (fQ p.rd),true,false):=by
 have hw:walk pg (cP (n+N)) [.T p.d] (.seq (.call 11 (eL1 eV0)))=.ok (p.pr.map (λq=>Vl.cl q.d),[]):=by rw[bQ,cQ (aN 0 rfl p.noL) (vC N p hN I n),aA];show R.ok (items _ (p.pr.map Px.d),[])=_;rw[cE Px.noL]
 have W:ev pg (cP (n+N)) [.T p.d] (.comp 1 [] (.n 0) (.seq (.call 11 (eL1 eV0))) (eL1 (.cmp .Eq (.idx eV0 eC0) (.c (.str "box")))) (.idx eV0 eC1))=.ok ⟨.lst ((p.pr.filter λq=>q.bx.isSome).map λq=>aI (q.bx.getD 0)),true,false,[]⟩:=by
  refine aBv (ts:=p.pr) (λq=>Vl.cl q.d) (λq=>aI (q.bx.getD 0)) (λq=>q.bx.isSome) (λ_=>rfl) hw (by rw[aBu];unfold lim;omega) λq _=>⟨[.F q.d],dW _,?_,λh=>?_⟩
  refine cI (aZ (aD 0 rfl) (aC _) ?_) (aCG q);rw[q.d_eq];exact gL _ _ rfl;obtain⟨k,U⟩:=Dw.mp h;have e:=aCH U;subst e;exact aZ (aD 0 rfl) (aC (.i 1)) (gM _ _ _ rfl)
 have e:((p.pr.filter λq=>q.bx.isSome).map λq=>aI (q.bx.getD 0))=p.rd.map aI:=by rw[<-aJH,<-aAk Px.bx 0,Aw];rfl
 rw[e] at W;exact aH (F:=f10) rfl rfl (bE (aGZ W rfl λk U=>A6 (Px.rd_lt w k U) hm))
noncomputable def Way.wr(w:Way):List Nat:=w.ps.map (·.1)
noncomputable def Way.rdl(w:Way):List Nat:=rdC w.g++(w.ps.map λp=>rdS p.2).flatten
noncomputable def Way.rds(w:Way):List Nat:=fQ (fQ (rdC w.g)++(w.ps.map λp=>fQ (rdS p.2)).flatten)
theorem nQ{α:Type}{f:α->List Nat}{l:List α}{k:Nat}:k∈(l.map f).flatten↔∃a∈l,k∈f a:=by rw[List.mem_flatten];grind
variable {m:Nat}
theorem aJI(U:m<=4){w:Way}(o:cO m w):∀k∈fQ (rdC w.g)++(w.ps.map λp=>fQ (rdS p.2)).flatten,k<4:=λk q=>by rcases Bl.mp q with z|z;exact aCI k z;obtain⟨p,_,I⟩:=nQ.mp z;exact aCI k I
theorem qH(I:m<=4){w:Way}(o:cO m w)(k:Nat):k∈w.rds↔k∈w.rdl:=by unfold Way.rds Way.rdl;rw[nP (aJI I o),Bl,Bl,nP λk h=>A6 (sU _ o.g k h) I,nQ,nQ];refine or_congr Iff.rfl ⟨λ⟨p,q,h⟩=>⟨p,q,?_⟩,λ⟨p,q,h⟩=>⟨p,q,?_⟩⟩;exact(nP (λk h=>A6 (mH _ (o.ps p q).wf k h) I) k).mp h;exact(nP (λk h=>A6 (mH _ (o.ps p q).wf k h) I) k).mpr h
theorem aHa:∀{ps:List (Nat×Sm)} {a:Nat},Up ps->(∀p∈ps,a<=p.1/\p.1<m)->a<=m->ps.length+a<=m
 | [],a,_,_,h=>by simpa using h|p::ps,a,u,h,_=>by have W:=h p A3;have U:=Cy.mp u;have:=aHa U.2 (λq I=>⟨U.1 q I,(h q (Au _ I)).2⟩) W.2;rw[lC];omega
theorem oR{w:Way}(o:cO m w):w.ps.length<=m:=by have:=aHa o.up (λp q=>⟨Bw _,(o.ps p q).box⟩) (Bw _);omega
theorem sX{α:Type}{f:α->List Nat}{b:Nat}:∀{l:List α},(∀a∈l,(f a).length<=b)->(l.map f).flatten.length<=b*l.length
 | [],_=>Ap _|a::l,h=>by have:=sX λx q=>h x (Au _ q);have:=h a A3;rw[mC,Ce,lA,lC,J1,Nat.mul_one];omega
section
variable {P:Pg} {W:Caller} {Z:Sg} {w:Way}
theorem w_g{e:E}(h:ev P W Z e=.ok (.cl w.d)):ev P W Z (.idx e eC0)=.ok (.cl w.g.d):=aZ h (aC _) (gL _ _ w.g.noL)
theorem aMp{e:E}(h:ev P W Z e=.ok (.cl w.d)):walk P W Z (.seq (.idx e eC1))=.ok (w.ps.map (λp=>Vl.cl (fA p)),[]):=by rw[bQ,aZ h (aC _) (gM _ _ _ (gE w.ps)),aA];show R.ok (items _ (w.ps.map fA),[])=_;rw[mD]
theorem aPb{e:E}(h:ev P W Z e=.ok (.cl w.d))(q:m<=4)(o:cO m w):ev P W Z (.comp 2 [] (.t [0,1]) (.seq (.idx e eC1)) .z eV0)=.ok ⟨dM w.wr,true,false,[]⟩:=by
 have:=eP (k:=2) (caps:=[]) (T:=.t [0,1]) (λp=>Vl.cl (fA p)) (λp=>aI p.1) (λ_=>rfl) (aMp h) (by have:=oR o;unfold lim;omega) λp _=>⟨[.F (aI p.1),.F p.2.d],nG _ rfl p.2.noL,aD 0 rfl⟩
 rw[this];unfold Way.wr;rw[dM,Aw];rfl
end
theorem aBw(n:Nat)(q:m<=4){w:Way}(o:cO m w):cP (n+1) 13 [w.d]=.ok (dM w.wr,true,false):=
 aH (F:=f13) rfl rfl (bE (aPb (aN 0 rfl (eL w)) q o))
theorem aEp(n:Nat)(W:m<=4){w:Way}(o:cO m w):cP (n+33) 12 [w.d]=.ok (dM w.rds,true,false):=by
 let U:Nat->Sl->Sl->Sg:=λi s2 I=>[.T w.d,.O ((fQ (rdC w.g)++((w.ps.take i).map λp=>fQ (rdS p.2)).flatten).map aI),s2,I]
 have pl:=oR o;have v0:ev pg (cP (n+32)) [.T w.d,.x,.x,.x] eV0=.ok (.cl w.d):=aN 0 rfl (eL w);have k1:ex pg (cP (n+32)) [.T w.d,.x,.x,.x] (hdS f12.body)=.next (U 0 .x .x):=by have:=bK (i:=1) (cQ (w_g v0) (vE n (p:=.c w.g) o.g W o.gs (AL o.gs (by decide))));refine this.trans ?_;show O.next [_,_,_,_]=O.next [_,_,_,_];rw[Ip,mN,He,AO];rfl
 obtain⟨Z',ef,s2,I,rfl⟩:=cS (P:=pg) (t:=.t [2,3]) (b:=match hdS (drp 1 f12.body) with|.for _ _ b=>b|_=>.z) (λi Z=>∃s2 I,Z=U i s2 I) (aMp (aN 0 rfl (eL w))) ⟨_,_,rfl⟩ λi hi Z ⟨s2,I,q0⟩=>by
  have q:i<w.ps.length:=by simpa using hi
  subst q0;have op:=o.ps _ (AK q);have ff:=sX (f:=λp:Nat×Sm=>fQ (rdS p.2)) (l:=w.ps.take (i+1)) λ_ _=>sW _;have:=sW (rdC w.g);have tl:(w.ps.take (i+1)).length<=4:=by rw[A9];omega
  refine⟨U i (.F (aI w.ps[i].1)) (.F w.ps[i].2.d),U (i+1) (.F (aI w.ps[i].1)) (.F w.ps[i].2.d),?_,bG (aGY (cQ (aD 3 rfl) (vE (n+28) (p:=.s w.ps[i].2) op.wf W op.sz (AL op.sz (by decide)))) (bI cR _) rfl (by
   rw[lM,lA];unfold lim;omega) (by rw[fI (λp:Nat×Sm=>fQ (rdS p.2)) w.ps q,<-Ax,AU];rfl)),_,_,rfl⟩
  rw[AD];exact nG _ rfl w.ps[i].2.noL
 refine aH (F:=f12) rfl rfl (cs k1 (cs ef (bE (aGZ (aV 1 rfl) ?_ (aJI W o)))));grind
noncomputable def kC(hs:W3)(h p j:Nat)(w:Way):Prop:=∃hd ws,hs[h]? = some hd/\hd[p]? = some ws/\ws[j]? = some w
theorem kC.ok{hs:W3}{h p j:Nat}{w:Way}(a:kC hs h p j w)(o:dL m hs):cO m w:=by obtain⟨hd,ws,h1,h2,q⟩:=a;exact(((o.ok hd (mG h1)).ok ws (mG h2)).ok w (mG q)).1
abbrev tkD(h p j:Nat):D:=.tup [aI h,aI p,aI j]
noncomputable def gO(h:Nat)(w:Way):D:=.tup [aI h,dM w.wr,dM (w.rds++w.wr)]
section
variable {P:Pg} {W:Caller} {Z:Sg} {h p j:Nat}
theorem aBx{e:E}(a:ev P W Z e=.ok (.cl (tkD h p j))):ev P W Z (.idx e eC0)=.ok (.cl (aI h)):=aZ a (aC _) (gL _ _ rfl)
theorem aPc{e:E}(a:ev P W Z e=.ok (.cl (tkD h p j))):ev P W Z (.idx e eC1)=.ok (.cl (aI p)):=aZ a (aC _) (gM _ _ _ rfl)
theorem aPd{e:E}(a:ev P W Z e=.ok (.cl (tkD h p j))):ev P W Z (.idx e eC2)=.ok (.cl (aI j)):=aZ a (aC _) (aOU _ _ _ rfl)
end
variable {bs:List (Str×Int)} {g:Cn} {hs:W3}
theorem aEq(n:Nat)(q:bs.length<=4)(o:dL bs.length hs){h p j:Nat}{w:Way}(a:kC hs h p j w):cP (n+34) 40 [aR bs g hs,tkD h p j]=.ok (gO h w,false,false):=by
 have W:=a.ok o;obtain⟨hd,ws,h1,h2,h3⟩:=a;have pl:=oR W
 let I:Sl->Sg:=λs=>[.T (aR bs g hs),.T (tkD h p j),s]
 have U:∀s,ev pg (cP (n+33)) (I s) eV1=.ok (.cl (tkD h p j)):=λs=>aN 1 rfl rfl;have k1:ex pg (cP (n+33)) (I .x) (hdS f40.body)=.next (I (.F w.d)):=aT (aZ (zW (aZ (aGU rfl) (aBx (U _)) (sO h1)) (aPc (U _)) (sP (n+32) hd h2) rfl rfl) (aPd (U _)) (by
  rw[pI rfl h3];exact congrArg R.ok (cK (eL w))))
 have v2:ev pg (cP (n+33)) (I (.F w.d)) eV2=.ok (.cl w.d):=aD 2 rfl;have cw:=cQ v2 (aBw (n+32) q W);have cr:=dI (cQ v2 (aEp n q W)) cw (pS rfl rfl (bI cR _) (bI cR _) (by
  have:=sW (fQ (rdC w.g)++(w.ps.map λp=>fQ (rdS p.2)).flatten);rw[lM,lM];unfold Way.rds Way.wr lim;rw[lM];omega))
 have e:evs pg (cP (n+33)) (I (.F w.d)) (eL3 (.idx eV1 eC0) (.call 13 (eL1 eV2)) (.op .Add (.call 12 (eL1 eV2)) (.call 13 (eL1 eV2))))=.ok [.cl (aI h),⟨dM w.wr,true,false,[]⟩,⟨.lst (w.rds.map aI++w.wr.map aI),true,false,[]⟩]:=by rw[aJ,aBx (U _),aA,aJ,cw,aA,aJ,cr,aA,cB];rfl
 refine aH (F:=f40) rfl rfl (v:=.cl (gO h w)) (cs k1 (bE ?_));rw[sD,e,aA,<-Ax];rfl
theorem aHb(a b:Nat):((a:Int)==(b:Int))=(a==b):=by grind
theorem aAl(k:Nat):∀ks:List Nat,tP (aI k) (ks.map aI)=some (decide (k∈ks))
 | []=>rfl|a::ks=>by show(match eqD (aI a) (aI k),tP (aI k) (ks.map aI) with|some a,some b=>some (a||b)|_,_=>none)=_;rw[(aAl k ks),aCt,aHb];grind
theorem xN(k:Nat)(ks:List Nat):dJ .In (aI k) (dM ks)=some (decide (k∈ks)):=by show tP (aI k) (ks.map aI)=_;rw[aAl]
theorem oT{α:Type}(f:α->Bool):∀l:List α,cJ (l.map λa=>D.bl (f a))=some (l.map f)
 | []=>rfl|a::l=>by show(match cJ (l.map λa=>D.bl (f a)) with|some bs=>some (f a::bs)|none=>none)=_;rw[oT f l];rfl
theorem aAm(n:Nat){as cs:List Nat}(I:as.length<=100):cP (n+1) 42 [dM as,dM cs]=.ok (.bl (as.any λk=>decide (k∈cs)),false,false):=by
 have q:ev pg (cP n) [.T (dM as),.T (dM cs)] (.comp 1 [1] (.n 0) (.seq eV0) .z (.cmp .In eV0 eV1))=.ok ⟨.lst (as.map λk=>D.bl (decide (k∈cs))),true,false,[]⟩:=by
  refine eP (al:=[]) (λk=>Vl.cl (aI k)) (λk=>D.bl (decide (k∈cs))) (λ_=>rfl) ?_ (by unfold lim;omega) λk _=>⟨[.F (aI k),.T (dM cs)],dW _,nB (aD 0 rfl) (aK 1 rfl) (xN k cs)⟩
  rw[bQ,aK 0 rfl,aA];show R.ok (items _ (as.map aI),[])=_;rw[cE cR]
 refine aH (F:=f42) rfl rfl (v:=.cl (.bl (as.any λk=>decide (k∈cs)))) (bE (dA q ?_));show(match cJ (as.map λk=>D.bl (decide (k∈cs))) with|some bs=>R.ok (Vl.cl (.bl (bs.any id)))|none=>.bad)=_;rw[oT];simp_all
noncomputable def oU(h h':Nat)(w w':Way):Bool:=!(h==h')&&(!(w.wr.any λk=>decide (k∈w'.rds++w'.wr))&&!(w'.wr.any λk=>decide (k∈w.rds++w.wr)))
section
variable {P:Pg} {W:Caller} {Z:Sg} {h:Nat} {w:Way}
theorem aIS{i:Nat}(a:Z[i]? = some (.T (gO h w))):ev P W Z (.v i)=.ok ⟨gO h w,false,true,[]⟩:=by show cX Z i=_;unfold cX;rw[a];rfl
theorem aPe{i:Nat}(a:Z[i]? = some (.T (gO h w))):ev P W Z (.idx (.v i) eC0)=.ok (.cl (aI h)):=aZ (aIS a) (aC _) rfl
theorem aPf{i:Nat}(a:Z[i]? = some (.T (gO h w))):ev P W Z (.idx (.v i) eC1)=.ok ⟨dM w.wr,false,true,[]⟩:=aZ (aIS a) (aC _) rfl
theorem aPg{i:Nat}(a:Z[i]? = some (.T (gO h w))):ev P W Z (.idx (.v i) eC2)=.ok ⟨dM (w.rds++w.wr),false,true,[]⟩:=aZ (aIS a) (aC _) rfl
end
theorem aHc(a b:Nat):dJ .NotEq (aI a) (aI b)=some (!(a==b)):=by rw[aGv,aCt,aHb];rfl
theorem aEr(n:Nat)(I:m<=4){h h':Nat}{w q:Way}(o:cO m w)(o':cO m q):cP (n+2) 41 [gO h w,gO h' q]=.ok (.bl (oU h h' w q),false,false):=by
 have l:∀{w:Way},cO m w->w.wr.length<=100:=λ{w} o=>by have:=oR o;unfold Way.wr;rw[lM];omega
 exact aH (F:=f41) rfl rfl (bE (aGw (nB (aPe rfl) (aPe rfl) (aHc h h')) (aGw (aMa (eO (aPf rfl) (aPg rfl) (aAm n (l o)))) (aMa (eO (aPf rfl) (aPg rfl) (aAm n (l o')))))))
variable {m:Nat} {bs:List (Str×Int)} {g:Cn} {hs:W3}
noncomputable def cL(w:Way):D:=.tup [dM w.rdl,dM w.wr]
theorem aCJ{w:Way}(U:m<=4)(o:cO m w):∀i,(rdC w.g++((w.ps.take i).map λp=>rdS p.2).flatten).length<=100:=λi=>by
 have pl:=oR o;have h1:(rdC w.g).length<=31:=AL (xM (.c w.g)) o.gs;have I:=sX (f:=λp:Nat×Sm=>rdS p.2) (l:=w.ps.take i) λp q=>AL (xM (.s p.2)) (o.ps p (Dm q)).sz;have W:(w.ps.take i).length<=4:=by rw[A9];omega
 rw[lA];omega
theorem aMq{P:Pg}{W:Caller}{Z:Sg}{h p j:Nat}{w:Way}(a:kC hs h p j w){i:Nat}{e:E}(hi:Z[i]? = some (.T (aR bs g hs)))(q:ev P W Z e=.ok (.cl (tkD h p j))):ev P W Z (.idx (.idx (.idx (.idx (.v i) eC2) (.idx e eC0)) (.idx e eC1)) (.idx e eC2))=.ok (.cl w.d):=by obtain⟨hd,ws,h1,h2,I⟩:=a;refine aZ (aZ (aZ (aGU hi) (aBx q) (sO h1)) (aPc q) (aCF h2)) (aPd q) ?_;rw[pI rfl I];exact congrArg R.ok (cK (eL w))
theorem sY(n:Nat)(q0:bs.length<=4)(o:dL bs.length hs){h p j:Nat}{w:Way}(a:kC hs h p j w):cP (n+32) 53 [aR bs g hs,tkD h p j]=.ok (cL w,false,false):=by
 have wo:=a.ok o
 let τ:Nat->Sl->Sl->Sg:=λi I U=>[.T (aR bs g hs),.T (tkD h p j),.F w.d,.O ((rdC w.g++((w.ps.take i).map λp=>rdS p.2).flatten).map aI),I,U]
 let ρ:Sl->Sl->Sg:=λs2 s3=>[.T (aR bs g hs),.T (tkD h p j),s2,s3,.x,.x]
 have k2:ex pg (cP (n+31)) (ρ (.F w.d) .x) (hdS (drp 1 f53.body))=.next (τ 0 .x .x):=by have:=bK (i:=3) (cQ (w_g (aD (P:=pg) (Z:=ρ (.F w.d) .x) 2 rfl)) (oQ 31 (.c w.g) wo.gs (AL wo.gs (by decide)) n));refine this.trans ?_;show O.next [_,_,_,_,_,_]=O.next [_,_,_,_,_,_];rw[Ip,mN,He,AO];rfl
 obtain⟨Z',ef,I,U,rfl⟩:=cS (P:=pg) (W:=cP (n+31)) (t:=.t [4,5]) (b:=match hdS (drp 2 f53.body) with|.for _ _ b=>b|_=>.z) (λi Z=>∃I U,Z=τ i I U) (aMp (aD 2 rfl)) ⟨_,_,rfl⟩ λi hi Z ⟨I,U,q1⟩=>by
  have q:i<w.ps.length:=by simpa using hi
  subst q1;have op:=wo.ps _ (AK q);have ll:=aCJ q0 wo (i+1);rw[fI (λp:Nat×Sm=>rdS p.2) w.ps q,<-AU,lA] at ll;refine⟨τ i (.F (aI w.ps[i].1)) (.F w.ps[i].2.d),τ (i+1) (.F (aI w.ps[i].1)) (.F w.ps[i].2.d),?_,bG ?_,_,_,rfl⟩;rw[AD];exact nG _ rfl w.ps[i].2.noL;have:=bK (i:=3) (dI (aV (P:=pg) (Z:=τ i (.F (aI w.ps[i].1)) (.F w.ps[i].2.d)) 3 rfl) (cQ (aD 5 rfl) (oQ 3 (.s w.ps[i].2) op.sz (AL op.sz (by decide)) (n+28))) (pS rfl rfl (bI cR _) (bI cR _) (by
   rw[lM,lM];show _+(rdS w.ps[i].2).length<=lim;unfold lim;omega)))
  refine this.trans ?_;show O.next [_,_,_,_,_,_]=O.next [_,_,_,_,_,_];rw[fI (λp:Nat×Sm=>rdS p.2) w.ps q,<-AU,<-Ax];rfl
 have q3:rdC w.g++((w.ps.take (w.ps.map λp=>Vl.cl (fA p)).length).map λp=>rdS p.2).flatten=w.rdl:=by rw[lM,BJ];rfl
 let ω:Sg:=[.T (aR bs g hs),.T (tkD h p j),.F w.d,.O (w.rdl.map aI),I,U]
 have q2:τ (w.ps.map λp=>Vl.cl (fA p)).length I U=ω:=by grind
 have e:evs pg (cP (n+31)) ω (eL2 eV3 (.comp 2 [] (.t [0,1]) (.seq (.idx eV2 eC1)) .z eV0))=.ok [⟨dM w.rdl,false,false,[3]⟩,⟨dM w.wr,true,false,[]⟩]:=by rw[aJ,aV 3 rfl,aA,aJ,aPb (aD 2 rfl) q0 wo,aA,cB];rfl
 have hr:ev pg (cP (n+31)) ω (.tup (eL2 eV3 (.comp 2 [] (.t [0,1]) (.seq (.idx eV2 eC1)) .z eV0)))=.ok ⟨cL w,false,false,[3]⟩:=by rw[sD,e,aA];rfl
 exact aH (F:=f53) rfl rfl (cs (aT (aMq a rfl (aN 1 rfl rfl))) (cs k2 (cs (ef.trans (congrArg O.next q2)) (bE hr))))
noncomputable def aHd(w w':Way):List Nat:=(w.wr.filter λk=>decide (k∈w'.rdl++w'.wr))++(w'.wr.filter λk=>decide (k∈w.rdl))
theorem qJ{as cs:List Nat}:(!(as.any λk=>decide (k∈cs)))=true↔∀k∈as,k∉cs:=by rw[GN,List.any_eq_false];simp
theorem aMr(I:m<=4){w q:Way}(o:cO m w)(o':cO m q):(!(w.wr.any λk=>decide (k∈q.rds++q.wr))&&!(q.wr.any λk=>decide (k∈w.rds++w.wr)))=(aHd w q).isEmpty:=by rw[C5,bA,qJ,qJ,List.isEmpty_iff];unfold aHd;rw[List.append_eq_nil_iff,Fu,Fu];simp only[ Bl,qH I o,qH I o'];grind
theorem aMs(ks:List Nat):dJ .Eq (dM ks) (.lst [])=some ks.isEmpty:=by cases ks <;> rfl
section
variable {P:Pg} {W:Caller} {Z:Sg} {w:Way}
theorem aPh{i:Nat}(a:Z[i]? = some (.F (cL w))):ev P W Z (.idx (.v i) eC0)=.ok (.cl (dM w.rdl)):=aZ (aD i a) (aC _) rfl
theorem aPi{i:Nat}(a:Z[i]? = some (.F (cL w))):ev P W Z (.idx (.v i) eC1)=.ok (.cl (dM w.wr)):=aZ (aD i a) (aC _) rfl
theorem aPj{i:Nat}(a:Z[i]? = some (.F (cL w))):walk P W Z (.seq (.idx (.v i) eC1))=.ok (w.wr.map (λk=>Vl.cl (aI k)),[]):=by rw[bQ,aPi a,aA];show R.ok (items _ (w.wr.map aI),[])=_;rw[cE cR]
end
theorem aHe{w:Way}(q:m<=4)(o:cO m w):w.wr.length<=4:=by have:=oR o;unfold Way.wr;rw[lM];omega
theorem oV(n:Nat)(I:bs.length<=4)(o:dL bs.length hs){h p j h' p' j':Nat}{w q:Way}(a:kC hs h p j w)(a':kC hs h' p' j' q):cP (n+33) 54 [aR bs g hs,tkD h p j,tkD h' p' j']=.ok (.bl (oU h h' w q),false,false):=by
 let U:Sl->Sl->Sl->Sg:=λs3 s4 s5=>[.T (aR bs g hs),.T (tkD h p j),.T (tkD h' p' j'),s3,s4,s5]
 have l1:=aHe I (a.ok o);have l2:=aHe I (a'.ok o);have l3:=aCJ I (a'.ok o) q.ps.length;rw[BJ] at l3;have hF:=DQ (λk=>decide (k∈q.rdl++q.wr)) w.wr;have q0:=DQ (λk=>decide (k∈w.rdl)) q.wr;have k3:ex pg (cP (n+32)) (U (.F (cL w)) (.F (cL q)) .x) (hdS (drp 2 f54.body))=.next (U (.F (cL w)) (.F (cL q)) (.O ((w.wr.filter λk=>decide (k∈q.rdl++q.wr)).map aI))):=by
  refine bK (aBv (λk=>Vl.cl (aI k)) aI (λk=>decide (k∈q.rdl++q.wr)) (λ_=>rfl) (aPj rfl) (by unfold lim;omega) λk _=>⟨[.F (aI k),.F (cL q)],dW _,bO (aD 0 rfl) (dI (aPh rfl) (aPi rfl) (pS rfl rfl (bI cR _) (bI cR _) (by
   rw[lM,lM];show(rdC q.g++_).length+_<=lim;unfold lim;omega))) ?_,λ_=>aD 0 rfl⟩)
  rw[<-Ax];exact xN k _
 have k4:ex pg (cP (n+32)) (U (.F (cL w)) (.F (cL q)) (.O ((w.wr.filter λk=>decide (k∈q.rdl++q.wr)).map aI))) (hdS (drp 3 f54.body))=.next (U (.F (cL w)) (.F (cL q)) (.O ((aHd w q).map aI))):=by
  have:=bK (i:=5) (dI (aV (P:=pg) (W:=cP (n+32)) (Z:=U (.F (cL w)) (.F (cL q)) (.O ((w.wr.filter λk=>decide (k∈q.rdl++q.wr)).map aI))) 5 rfl) (aBv (k:=1) (caps:=[3]) (T:=.n 0) (c:=.cmp .In eV0 (.idx eV1 eC0)) (λk=>Vl.cl (aI k)) aI (λk=>decide (k∈w.rdl)) (λ_=>rfl) (aPj (i:=4) rfl) (by unfold lim;omega) λk _=>⟨[.F (aI k),.F (cL w)],dW _,bO (aD 0 rfl) (aPh rfl) (xN k _),λ_=>aD 0 rfl⟩) (pS rfl rfl (bI cR _) (bI cR _) (by
   rw[lM,lM];unfold lim;omega)))
  refine this.trans ?_;rw[<-Ax];rfl
 refine aH rfl rfl (v:=.cl (.bl (oU h h' w q))) (cs (aT (eO (jF rfl) (aN 1 rfl rfl) (sY n I o a))) (cs (aT (eO (jF rfl) (aN 2 rfl rfl) (sY n I o a'))) (cs k3 (cs k4 (bE ?_)))));have:=aGw (nB (aBx (aN (P:=pg) (W:=cP (n+32)) (Z:=U (.F (cL w)) (.F (cL q)) (.O ((aHd w q).map aI))) 1 rfl rfl)) (aBx (aN 2 rfl rfl)) (aHc h h')) (nB (aV 5 rfl) (dP bB) (aMs (aHd w q)));refine this.trans ?_;unfold oU;rw[aMr I (a.ok o) (a'.ok o)]
theorem sZ{m:Nat}{a I b U:List Int}:∀{s:Sm},s.wf m true->(∀k∈rdS s,a.getD k 0=b.getD k 0)->s.val a I=s.val b U
 | .num _,_,_=>rfl|.box j,_,h=>h j (A0.mpr rfl)|.aft _,w,_=>by cases w.2|.two p x y,w,h=>by
  show(if p=true then _ else _)=(if p=true then _ else _)
  rw[(sZ w.1 λk q=>h k (AN _ q)),(sZ w.2 λk q=>h k (A4 _ q))]
theorem nR{m:Nat}{a I b U:List Int}:∀{s:Cn},s.wf m true->(∀k∈rdC s,a.getD k 0=b.getD k 0)->s.hold a I=s.hold b U
 | .yes,_,_=>rfl|.cmp i x y,w,h=>by
  show(if i=true then _ else _)=(if i=true then _ else _)
  rw[(sZ w.1 λk q=>h k (AN _ q)),(sZ w.2 λk q=>h k (A4 _ q))]
 | .nt x,w,h=>by
  show(!x.hold a I)=(!x.hold b U)
  rw[nR (s:=x) w h]
 | .two p x y,w,h=>by
  show(if p=true then _ else _)=(if p=true then _ else _)
  rw[(nR w.1 λk q=>h k (AN _ q)),(nR w.2 λk q=>h k (A4 _ q))]
noncomputable def apl:List (Nat×Int)->List Int->List Int
 | [],acc=>acc|p::ps,acc=>apl ps (acc.set p.1 p.2)
noncomputable def vls(st:List Int)(ps:List (Nat×Sm)):List (Nat×Int):=ps.map λp=>(p.1,p.2.val st st)
noncomputable def okV(bs:List (Str×Int))(vs:List (Nat×Int)):Prop:=∀v∈vs,0<=v.2/\v.2<=iF bs v.1
theorem aAn{bs:List (Str×Int)}{st:List Int}:∀{ps:List (Nat×Sm)} {q r:List Int},putF bs st q ps=some r↔okV bs (vls st ps)/\r=apl (vls st ps) q
 | [],q,r=>⟨λh=>⟨λ_ z=>absurd z AI,(AF h).symm⟩,λh=>congrArg some h.2.symm⟩
 | p::ps,q,r=>by
  show(if 0<=p.2.val st st/\p.2.val st st<=iF bs p.1 then putF bs st (q.set p.1 (p.2.val st st)) ps else none)=some r↔_;have ok:okV bs (vls st (p::ps))↔(0<=p.2.val st st/\p.2.val st st<=iF bs p.1)/\okV bs (vls st ps):=⟨λh=>⟨h _ A3,λv U=>h v (Au _ U)⟩,λh v U=>by
   rcases AA.mp U with rfl|z;exact h.1;exact h.2 v z⟩
  rw[ok];by_cases I:0<=p.2.val st st/\p.2.val st st<=iF bs p.1;rw[if_pos I,aAn];exact⟨λh=>⟨⟨I,h.1⟩,h.2⟩,λh=>⟨h.1.2,h.2⟩⟩;rw[if_neg I];exact⟨λh=>(by cases h),λh=>absurd h.1.1 I⟩
theorem nS{bs:List (Str×Int)}{w:Way}{st r:List Int}:behF bs w st=some r↔w.g.hold st st=true/\okV bs (vls st w.ps)/\r=apl (vls st w.ps) st:=by unfold behF;by_cases h:w.g.hold st st=true;rw[if_pos h,aAn];grind;grind
theorem xO(st:List Int)(w:Way):(vls st w.ps).map (·.1)=w.wr:=by unfold vls Way.wr;rw[Aw];rfl
theorem xP:∀{vs:List (Nat×Int)} {q:List Int} {k:Nat},k∉vs.map (·.1)->(apl vs q).getD k 0=q.getD k 0
 | [],_,_,_=>rfl|v::vs,q,k,h=>by rw[mC,AA,not_or] at h;show(apl vs (q.set v.1 v.2)).getD k 0=_;rw[xP h.2,Ag,Ai (λz=>h.1 z.symm),Ag]
theorem aCK:∀{vs:List (Nat×Int)} {q:List Int} {k:Nat} {x:Int},k∉vs.map (·.1)->apl vs (q.set k x)=(apl vs q).set k x
 | [],_,_,_,_=>rfl|v::vs,q,k,x,h=>by rw[mC,AA,not_or] at h;show apl vs ((q.set k x).set v.1 v.2)=(apl vs (q.set v.1 v.2)).set k x;rw[IL _ _ h.1,aCK h.2]
theorem aAo:∀{us vs:List (Nat×Int)} {q:List Int},(∀k∈us.map (·.1),k∉vs.map (·.1))->apl vs (apl us q)=apl us (apl vs q)
 | [],_,_,_=>rfl|u::us,vs,q,h=>by show apl vs (apl us (q.set u.1 u.2))=apl us ((apl vs q).set u.1 u.2);rw[aAo λk I=>h k (by rw[mC];grind),aCK (h u.1 (by rw[mC];grind))]
structure Apt (w v:Way):Prop where
 a:∀k∈w.wr,k∉v.rdl/\k∉v.wr
 b:∀k∈v.wr,k∉w.rdl/\k∉w.wr
theorem Apt.symm{w v:Way}(h:Apt w v):Apt v w:=⟨h.b,h.a⟩
variable {m:Nat}
theorem tB(q:m<=4){w v:Way}(o:cO m w)(o':cO m v){h h':Nat}:oU h h' w v=true↔h≠h'/\Apt w v:=by
 unfold oU;rw[bA,bA,qJ,qJ];have e:(!(h==h'))=true↔h≠h':=by simp
 rw[e];simp only[Bl,qH q o,qH q o',not_or];exact⟨λz=>⟨z.1,z.2.1,z.2.2⟩,λz=>⟨z.1,z.2.a,z.2.b⟩⟩
theorem aEs(q:m<=4){w v:Way}(o:cO m w)(o':cO m v){h h':Nat}:oU h h' w v=oU h' h v w:=by rw[C5,tB q o o',tB q o' o];exact⟨λz=>⟨λe=>z.1 e.symm,z.2.symm⟩,λz=>⟨λe=>z.1 e.symm,z.2.symm⟩⟩
theorem aBy{w:Way}(o:cO m w){a b:List Int}(h:∀k∈w.rdl,a.getD k 0=b.getD k 0):vls a w.ps=vls b w.ps:=by unfold vls;refine AX λp q=>?_;rw[sZ (o.ps p q).wf λk I=>h k (A4 _ (nQ.mpr ⟨p,q,I⟩))]
theorem aHf{bs:List (Str×Int)}{w v:Way}(o:cO m w)(o':cO m v)(ap:Apt w v){s a b:List Int}(h1:behF bs w s=some a)(h2:behF bs v a=some b):∃c,behF bs v s=some c/\behF bs w c=some b:=by obtain⟨g1,k1,rfl⟩:=nS.mp h1;obtain⟨W,k2,rfl⟩:=nS.mp h2;have U:∀k∈v.rdl,(apl (vls s w.ps) s).getD k 0=s.getD k 0:=λk q=>xP (by rw[xO];exact λz=>(ap.a k z).1 q);have I:∀k∈w.rdl,(apl (vls s v.ps) s).getD k 0=s.getD k 0:=λk q=>xP (by rw[xO];exact λz=>(ap.b k z).1 q);have q1:=aBy o' U;rw[nR o'.g λk q=>U k (AN _ q)] at W;rw[q1] at k2;refine⟨_,nS.mpr ⟨W,k2,rfl⟩,nS.mpr ⟨?_,?_,?_⟩⟩;rw[nR o.g λk q=>I k (AN _ q)];exact g1;rw[(aBy o I)];exact k1;rw[q1,(aBy o I)];exact aAo λk q=>by rw[xO] at q ⊢;exact(ap.a k q).2
variable {bs:List (Str×Int)} {g:Cn} {hs:W3}
theorem pJ{α:Type}{l:List α}{i:Nat}{x d:α}(h:i<l.length):(l.set i x).getD i d=x:=by rw[Ag,AE h];rfl
theorem iT{α:Type}{l:List α}{i j:Nat}{x d:α}(h:i≠j):(l.set i x).getD j d=l.getD j d:=by rw[Ag,Ai h,Ag]
theorem aMt{l:List Int}{i:Nat}{x:Int}(h:i<l.length):l.take i++[x]++l.drop (i+1)=l.set i x:=by rw[List.set_eq_take_append_cons_drop,if_pos h,AU];rfl
abbrev wyS(hs:W3)(s:St)(p:Nat×Nat):Way:=eF (bW hs s p.1) p.2
theorem gP{s t:St}{p:Nat×Nat}(h:p.1<s.2.length):goneF bs hs s p=some t↔p.2<(bW hs s p.1).length/\behF bs (wyS hs s p) s.1=some t.1/\t.2=s.2.set p.1 (wyS hs s p).nx:=by unfold goneF;rw[aMt h];by_cases q:p.2<(bW hs s p.1).length;rw[if_pos q];constructor;intro e;obtain⟨st,h1,h2⟩:=Bx.mp e;subst h2;exact⟨q,h1,rfl⟩;rintro ⟨_,h1,h2⟩;rw[h1];show some _=some t;rw[<-h2];rw[if_neg q];exact⟨λe=>(by cases e),λe=>absurd e.1 q⟩
theorem aBz{m:Nat}{s:St}(U:SOk m hs s){p:Nat×Nat}(I:p.1<hs.length)(q:p.2<(bW hs s p.1).length):kC hs p.1 (s.2.getD p.1 0).toNat p.2 (wyS hs s p):=by refine⟨hs.getD p.1 [],bW hs s p.1,dD [] I,?_,(xE q).2⟩;refine dD [] ?_;rcases Nat.lt_or_ge (s.2.getD p.1 0).toNat (hs.getD p.1 []).length with z|z;exact z;unfold bW at q;rw[Ag,B4 z] at q;exact absurd q (Cj _)
theorem tD{s t:St}{h:Nat}(e:s.2.getD h 0=t.2.getD h 0):bW hs s h=bW hs t h:=by unfold bW;rw[e]
theorem aEt{m:Nat}(o:dL m hs){s a b:St}(U:SOk m hs s){p q:Nat×Nat}(hp:p.1<hs.length)(hq:q.1<hs.length)(I:p.1≠q.1)(h1:goneF bs hs s p=some a)(h2:goneF bs hs a q=some b)(ap:Apt (wyS hs s p) (wyS hs a q)) :
 ∃c,goneF bs hs s q=some c/\goneF bs hs c p=some b/\c.2.getD p.1 0=s.2.getD p.1 0/\a.2.getD q.1 0=s.2.getD q.1 0:=by
 obtain⟨r1,b1,W⟩:=(gP (by rw[U.pl];exact hp)).mp h1;have ea:a.2.getD q.1 0=s.2.getD q.1 0:=by rw[W,iT I]
 have ra:=tD (hs:=hs) ea;obtain⟨r2,b2,e2⟩:=(gP (by rw[W,Az];exact(by rw[U.pl];exact hq))).mp h2;have ew:wyS hs a q=wyS hs s q:=by show eF (bW hs a q.1) q.2=eF (bW hs s q.1) q.2;rw[ra]
 rw[ra] at r2;rw[ew] at b2 e2 ap;obtain⟨c,c1,c2⟩:=aHf ((aBz U hp r1).ok o) ((aBz U hq r2).ok o) ap b1 b2;have wc:wyS hs (c,s.2.set q.1 (wyS hs s q).nx) p=wyS hs s p:=by show eF (bW hs _ p.1) p.2=eF (bW hs s p.1) p.2;rw[(tD (iT λz=>I z.symm))]
 refine⟨(c,s.2.set q.1 (wyS hs s q).nx),(gP (by rw[U.pl];exact hq)).mpr ⟨r2,c1,rfl⟩,(gP (by rw[Az];exact(by rw[U.pl];exact hp))).mpr ⟨by rw[(tD (iT λz=>I z.symm))];exact r1,by rw[wc];exact c2,?_⟩,(iT λz=>I z.symm),ea⟩;rw[wc,e2,W];exact IL _ _ I
noncomputable def sw(i:Nat)(ps:List (Nat×Nat)):List (Nat×Nat):=(ps.set i (ps.getD (i+1) (0,0))).set (i+1) (ps.getD i (0,0))
theorem oW(i:Nat)(ps:List (Nat×Nat)):(sw i ps).length=ps.length:=by unfold sw;rw[Az,Az]
section
variable {ps:List (Nat×Nat)} {i:Nat}
theorem aHg(h:i+1<ps.length):(sw i ps).getD i (0,0)=ps.getD (i+1) (0,0):=by unfold sw;rw[iT (by omega),pJ (by omega)]
theorem aIT(h:i+1<ps.length):(sw i ps).getD (i+1) (0,0)=ps.getD i (0,0):=by unfold sw;rw[pJ (by rw[Az];exact h)]
theorem aMu{k:Nat}(q:i≠k)(h1:i+1≠k):(sw i ps).getD k (0,0)=ps.getD k (0,0):=by unfold sw;rw[iT h1,iT q]
theorem aHh{α:Type}{l r:List α}(d:α)(q:l.length=r.length)(h:∀k,k<l.length->l.getD k d=r.getD k d):l=r:=by refine List.ext_getElem q λk h1 h2=>?_;have:=h k h1;rw[Ag,Ag,Ad h1,Ad h2] at this;exact this
end
noncomputable def apI(hs:W3)(s0:St)(ps:List (Nat×Nat))(ss:List St)(i:Nat):Bool:=oU (ps.getD i (0,0)).1 (ps.getD (i+1) (0,0)).1 (wyS hs (ss.getD i s0) (ps.getD i (0,0))) (wyS hs (ss.getD (i+1) s0) (ps.getD (i+1) (0,0)))
section
variable {s0:St} {ps:List (Nat×Nat)} {ss:List St} {i:Nat}
theorem Wov.at(o:dL bs.length hs)(q:Wov bs hs s0 ps ss)(h:i<ps.length):(ps.getD i (0,0)).1<hs.length/\kC hs (ps.getD i (0,0)).1 ((ss.getD i s0).2.getD (ps.getD i (0,0)).1 0).toNat (ps.getD i (0,0)).2 (wyS hs (ss.getD i s0) (ps.getD i (0,0))):=by have I:=q.hd (ps.getD i (0,0)) (mG (dD (0,0) h));exact⟨I,aBz (q.ok i) I ((gP (by rw[(q.ok i).pl];exact I)).mp (q.go i h)).1⟩
theorem Wov.swap(q0:bs.length<=4)(o:dL bs.length hs)(q:Wov bs hs s0 ps ss)(h:i+1<ps.length)(ha:apI hs s0 ps ss i=true):∃c,Wov bs hs s0 (sw i ps) (ss.set (i+1) c)/\apI hs s0 (sw i ps) (ss.set (i+1) c) i=true:=by
 obtain⟨hp,wp⟩:=q.at o (i:=i) (by omega);obtain⟨hq,wq⟩:=q.at o h;obtain⟨q1,ap⟩:=(tB q0 (wp.ok o) (wq.ok o)).mp ha;obtain⟨c,c1,c2,c3,c4⟩:=aEt o (q.ok i) hp hq q1 (q.go i (by omega)) (q.go (i+1) h) ap;have hl:=q.len;have U:∀k,i+1≠k->(ss.set (i+1) c).getD k s0=ss.getD k s0:=λk I=>iT I;refine⟨c,⟨by rw[Az,oW];exact hl,by rw[U 0 (by omega)];exact q.z,λk I=>?_,λp q2=>?_,λk=>?_⟩,?_⟩;rw[oW] at I;by_cases W:i=k;subst W;rw[aHg h,U i (by omega),(pJ (by omega))];exact c1;by_cases h1:i+1=k;subst h1;rw[aIT h,(pJ (by omega)),U (i+1+1) (by omega)];exact c2;rw[aMu W h1,U k h1,U (k+1) (by omega)];exact q.go k I;obtain⟨k,I,e⟩:=List.getElem_of_mem q2;have e2:(sw i ps).getD k (0,0)=p:=by rw[Ag,Ad I,e];rfl
 rw[oW] at I;rw[<-e2];by_cases W:i=k;subst W;rw[aHg h];exact hq;by_cases h1:i+1=k;subst h1;rw[aIT h];exact hp;rw[aMu W h1];exact(q.at o I).1;by_cases h1:i+1=k;subst h1;rw[(pJ (by omega))];exact((q.ok i).go o hq c1);rw[U k h1];exact q.ok k;unfold apI;rw[aHg h,aIT h,U i (by omega),(pJ (by omega))];have e1:wyS hs c (ps.getD i (0,0))=wyS hs (ss.getD i s0) (ps.getD i (0,0)):=by show eF (bW hs c _) _=eF (bW hs _ _) _;rw[tD c3]
 have e2:wyS hs (ss.getD i s0) (ps.getD (i+1) (0,0))=wyS hs (ss.getD (i+1) s0) (ps.getD (i+1) (0,0)):=by show eF (bW hs _ _) _=eF (bW hs _ _) _;rw[tD c4]
 rw[e1,e2,aEs q0 (wq.ok o) (wp.ok o)];exact ha
end
end K67
namespace K67
section
variable {α:Type} {ap:α->α->Bool} {hd:α->Nat}
inductive Tr (ap:α->α->Bool):List α->List α->Prop
 | nil:Tr ap [] []
 | cons {x:α} {R C D:List α}:(∀c∈C,ap c x=true)->Tr ap R (C++D)->Tr ap (x::R) (C++x::D)
theorem spl:∀{C D A B:List α} {m:α},C++D=A++m::B->(∃q,C=A++m::q/\B=q++D)\/(∃I,D=I++m::B/\A=C++I)
 | [],D,A,B,m,h=>.inr ⟨A,h,rfl⟩|c::C,D,[],B,m,h=>by cases h;exact .inl ⟨C,rfl,rfl⟩|c::C,D,a::A,B,m,h=>by
  injection h with h1 h2
  subst h1;rcases spl h2 with⟨q,rfl,rfl⟩|⟨I,rfl,rfl⟩
  exact .inl ⟨q,rfl,rfl⟩;exact .inr ⟨I,rfl,rfl⟩
theorem spl3{C D A B:List α}{x m:α}(h:C++x::D=A++m::B):(∃I,C=A++m::I/\B=I++x::D)\/(A=C/\m=x/\B=D)\/(∃q,D=q++m::B/\A=C++x::q):=by
 rcases spl h with⟨I,h1,h2⟩|⟨q,h1,h2⟩
 exact .inl ⟨I,h1,h2⟩;cases q with
 | nil=>grind|cons y q=>grind
theorem Tr.left{L M:List α}(e:Tr ap L M):∀{A:List α} {m:α} {B:List α},L=A++m::B->(∀a∈A,ap a m=true)->∃q I,M=q++m::I/\(∀a∈q,ap a m=true)/\Tr ap (A++B) (q++I):=by
 induction e with
 | nil=>simp_all|@cons x R C D hC e ih=>
  intro A m B h hA;cases A with
  | nil=>injection h with h1 h2;subst h1 h2;exact⟨C,D,rfl,hC,e⟩
  | cons a A=>
   injection h with h1 h2
   subst h1;obtain⟨q,I,h3,h4,W⟩:=ih h2 λa z=>hA a (Au _ z);rcases spl h3 with⟨U,rfl,rfl⟩|⟨D1,rfl,rfl⟩
   refine⟨q,U++x::D,by simp,h4,?_⟩;have:=Tr.cons (C:=q++U) (λc z=>hC c (by grind)) (by simpa using W);simpa using this;refine⟨C++x::D1,I,by simp,λa z=>?_,?_⟩;grind;have:=Tr.cons hC (by simpa using W);simpa using this
theorem Tr.right(sy:∀a b,ap a b=ap b a){L M:List α}(e:Tr ap L M):∀{A:List α} {m:α} {B:List α},M=A++m::B->(∀a∈A,ap a m=true)->∃q I,L=q++m::I/\(∀a∈q,ap a m=true)/\Tr ap (q++I) (A++B):=by
 induction e with
 | nil=>intro A m B h;cases A <;> cases h|@cons x R C D hC e ih=>
  intro A m B h hA;rcases spl3 h with⟨W,rfl,rfl⟩|⟨rfl,rfl,rfl⟩|⟨D1,rfl,rfl⟩
  obtain⟨q,I,rfl,h4,U⟩:=ih (B:=W++D) (by simp) hA;refine⟨x::q,I,rfl,λa z=>?_,?_⟩;grind;have:=Tr.cons (C:=A++W) (λc z=>hC c (by grind)) (by simpa using U);simpa using this;exact⟨[],R,rfl,λa z=>absurd z AI,e⟩;obtain⟨q,I,rfl,h4,U⟩:=ih (A:=C++D1) (B:=B) (by simp) λa z=>hA a (by grind);refine⟨x::q,I,rfl,λa z=>?_,?_⟩;grind;have:=Tr.cons hC (by simpa using U);simpa using this
theorem Tr.len{L M:List α}(e:Tr ap L M):L.length=M.length:=by
 induction e with
 | nil=>rfl|cons _ _ q=>simp at q ⊢;omega
theorem Tr.mem{L M:List α}(e:Tr ap L M){a:α}:a∈L↔a∈M:=by
 induction e with
 | nil=>rfl|cons _ _ q=>grind
theorem Tr.both(q:∀a b,ap a b=ap b a):∀(n:Nat) {N L M:List α},N.length=n->Tr ap N L->Tr ap N M->Tr ap L M
 | 0,N,L,M,hn,e,f=>by cases Br.mp hn;cases e;grind|n+1,N,L,M,hn,e,f=>by
  cases L with
  | nil=>rw[e.len] at hn;cases hn|cons x R=>obtain⟨A,B,rfl,h1,h2⟩:=e.right q rfl λ_ z=>absurd z AI;obtain⟨W,B',rfl,I,U⟩:=f.left rfl h1;exact .cons I (both q n (by simp at hn ⊢;omega) h2 U)
variable {key:α->Nat×Nat}
noncomputable def lt2(a b:Nat×Nat):Bool:=decide (a.1<b.1)||(a.1==b.1&&decide (a.2<b.2))
noncomputable def cW(ap:α->α->Bool)(L:List α)(i:Nat):Bool:=match L[i]? with|some x=>(L.take i).all λt=>ap x t|none=>false
noncomputable def lF(ap:α->α->Bool)(key:α->Nat×Nat)(L:List α):Nat->Nat->Nat->Nat
 | 0,_,b=>b|k+1,i,b=>lF ap key L k (i+1) (match L[i]?,L[b]? with|some x,some y=>if lt2 (key x) (key y)&&cW ap L i then i else b|_,_=>b)
noncomputable def pick(ap:α->α->Bool)(key:α->Nat×Nat)(L:List α):Nat:=lF ap key L (L.length-1) 1 0
noncomputable def norm(ap:α->α->Bool)(key:α->Nat×Nat):Nat->List α->List α
 | 0,_=>[]
 | n+1,L=>match L[pick ap key L]? with|some x=>x::norm ap key n (L.eraseIdx (pick ap key L))|none=>[]
theorem xQ(a:Nat×Nat):lt2 a a=false:=by unfold lt2;simp
theorem aHi{a b c:Nat×Nat}(h:lt2 a b=true)(h':lt2 b c=true):lt2 a c=true:=by unfold lt2 at*;simp at*;omega
theorem aCL{a b:Nat×Nat}(h:lt2 a b=false)(h':lt2 b a=false):a=b:=by obtain⟨q,I⟩:=a;obtain⟨U,W⟩:=b;unfold lt2 at*;simp at *;omega
theorem xR{L:List α}:∀(k i b:Nat),b<i->i+k=L.length->cW ap L b=true->(∀j x y,j<i->L[j]? = some x->L[b]? = some y->cW ap L j=true->lt2 (key x) (key y)=false) ->
 lF ap key L k i b<L.length/\cW ap L (lF ap key L k i b)=true/\∀j x y,L[j]? = some x->L[lF ap key L k i b]? = some y->cW ap L j=true->lt2 (key x) (key y)=false
 | 0,i,b,hb,hk,f,q=>⟨by show b<_;omega,f,λj x y W hy=>q j x y (by have:=(Ao.mp W).1;omega) W hy⟩
 | k+1,i,b,hb,hk,f,q=>by
  obtain⟨x,W⟩:∃x,L[i]? = some x:=⟨_,Ad (by omega)⟩
  obtain⟨y,hy⟩:∃y,L[b]? = some y:=⟨_,Ad (by omega)⟩
  show lF ap key L k (i+1) (match L[i]?,L[b]? with|some x,some y=>if lt2 (key x) (key y)&&cW ap L i then i else b|_,_=>b)<_/\cW ap L (lF ap key L k (i+1) (match L[i]?,L[b]? with|some x,some y=>if lt2 (key x) (key y)&&cW ap L i then i else b|_,_=>b))=true/\∀j x y,_->L[lF ap key L k (i+1) (match L[i]?,L[b]? with|some x,some y=>if lt2 (key x) (key y)&&cW ap L i then i else b|_,_=>b)]? = some y->_;rw[W,hy];show lF ap key L k (i+1) (if lt2 (key x) (key y)&&cW ap L i then i else b)<_/\cW ap L (lF ap key L k (i+1) (if lt2 (key x) (key y)&&cW ap L i then i else b))=true/\∀j x' y',_->L[lF ap key L k (i+1) (if lt2 (key x) (key y)&&cW ap L i then i else b)]? = some y'->_;by_cases c:(lt2 (key x) (key y)&&cW ap L i)=true;rw[if_pos c];rw[bA] at c;refine xR k (i+1) i (by omega) (by omega) c.2 λj x' y' hj I U fj=>?_;rw[W] at U;cases U;by_cases e:j=i;subst e;rw[W] at I;cases I;exact xQ _;have:=q j x' y (by omega) I hy fj;cases z:lt2 (key x') (key x) with
  | false=>rfl|true=>rw[aHi z c.1] at this;exact this
  rw[if_neg c];refine xR k (i+1) b (by omega) (by omega) f λj x' y' hj I U fj=>?_;rw[hy] at U;grind
theorem hW{L:List α}(h:0<L.length):pick ap key L<L.length/\cW ap L (pick ap key L)=true/\∀j x y,L[j]? = some x->L[pick ap key L]? = some y->cW ap L j=true->lt2 (key x) (key y)=false:=by
 refine xR (L.length-1) 1 0 (by omega) (by omega) ?_ λj x y U I q _=>?_;unfold cW;rw[Ad h];rfl;have:j=0:=by omega
 subst this;rw[I] at q;cases q;exact xQ _
theorem eC(q:∀a b,ap a b=ap b a){L:List α}{i:Nat}{x:α}(h:L[i]? = some x):cW ap L i=true↔∀a∈L.take i,ap a x=true:=by unfold cW;rw[h];grind
theorem fD{L:List α}{i:Nat}{x:α}(h:L[i]? = some x):L=L.take i++x::L.drop (i+1)/\L.eraseIdx i=L.take i++L.drop (i+1):=by obtain⟨hi,rfl⟩:=Ao.mp h;refine⟨?_,List.eraseIdx_eq_take_drop_succ _ _⟩;rw[<-BS hi,DP]
theorem vF(ne:∀a b,ap a b=true->hd a≠hd b){A B U W:List α}{m I:α}(e:A++m::B=U++I::W)(h:∀a∈A,ap a m=true)(h':∀a∈U,ap a I=true)(q:hd m=hd I):A=U/\m=I/\B=W:=by
 rcases spl3 e with⟨C2,rfl,rfl⟩|⟨rfl,rfl,rfl⟩|⟨D1,rfl,rfl⟩
 grind;grind;grind
theorem Tr.norm(U:∀a b,ap a b=ap b a):∀(n:Nat) {L:List α},L.length=n->Tr ap (norm ap key n L) L
 | 0,L,h=>by cases Br.mp h;exact .nil|n+1,L,h=>by
  obtain⟨h1,h2,_⟩:=hW (L:=L) (by omega);obtain⟨x,q⟩:∃x,L[pick ap key L]? = some x:=⟨_,Ad h1⟩
  obtain⟨s1,s2⟩:=fD q;have e:K67.norm ap key (n+1) L=x::K67.norm ap key n (L.eraseIdx (pick ap key L)):=by show(match L[pick ap key L]? with|some x=>x::K67.norm ap key n (L.eraseIdx (pick ap key L))|none=>[])=_;rw[q]
  rw[e];have I:=Tr.norm U n (by rw[Bj h1];omega);rw[s2] at I ⊢;have:=Tr.cons ((eC U q).mp h2) I;rwa [<-s1] at this
theorem xS(I:∀a b,ap a b=ap b a)(ne:∀a b,ap a b=true->hd a≠hd b)(kh:∀a,(key a).1=hd a):∀(n:Nat) {L M:List α},L.length=n->Tr ap L M->norm ap key n L=norm ap key n M
 | 0,_,_,_,_=>rfl|n+1,L,M,h,e=>by
  have hM:=e.len;obtain⟨h1,h2,h3⟩:=hW (L:=L) (by omega);obtain⟨g1,g2,g3⟩:=hW (L:=M) (by omega);obtain⟨x,U⟩:∃x,L[pick ap key L]? = some x:=⟨_,Ad h1⟩
  obtain⟨y,W⟩:∃y,M[pick ap key M]? = some y:=⟨_,Ad g1⟩
  obtain⟨s1,s2⟩:=fD U;obtain⟨t1,t2⟩:=fD W;have fy:=(eC I W).mp g2;obtain⟨A,B,a1,a2,a3⟩:=e.left s1 ((eC I U).mp h2);obtain⟨C,D,c1,c2,c3⟩:=e.right I t1 fy;have put:∀{L A B:List α} {m:α},L=A++m::B->(∀a∈A,ap a m=true)->L[A.length]? = some m/\cW ap L A.length=true:=λ{L A B m} q f=>by
   have z:L[A.length]? = some m:=by rw[q];simp
   refine⟨z,(eC I z).mpr ?_⟩;rw[q];simpa using f
  obtain⟨p1,p2⟩:=put a1 a2;obtain⟨q1,q2⟩:=put c1 c2;obtain⟨rfl,rfl,rfl⟩:=vF ne (a1.symm.trans t1) a2 fy (by rw[<-kh,<-kh,(aCL (g3 _ _ _ p1 W p2) (h3 _ _ _ q1 U q2))]);have e1:K67.norm ap key (n+1) L=x::K67.norm ap key n (L.eraseIdx (pick ap key L)):=by show(match L[pick ap key L]? with|some x=>x::K67.norm ap key n (L.eraseIdx (pick ap key L))|none=>[])=_;rw[U]
  have e2:K67.norm ap key (n+1) M=x::K67.norm ap key n (M.eraseIdx (pick ap key M)):=by show(match M[pick ap key M]? with|some x=>x::K67.norm ap key n (M.eraseIdx (pick ap key M))|none=>[])=_;rw[W]
  rw[e1,e2];refine congrArg (x::·) (xS I ne kh n (by rw[Bj h1];omega) ?_);rw[s2,t2];exact a3
noncomputable def fl(hd:α->Nat)(h:Nat)(L:List α):List α:=L.filter λc=>hd c==h
end
end K67
noncomputable section
set_option maxHeartbeats 4000000
namespace K67
open Hp HpS PySem
abbrev Tk3:=Nat×Nat×Nat
noncomputable def wyT(hs:W3)(t:Tk3):Way:=eF ((hs.getD t.1 []).getD t.2.1 []) t.2.2
noncomputable def apT(hs:W3)(x y:Tk3):Bool:=oU x.1 y.1 (wyT hs x) (wyT hs y)
noncomputable def aY(t:Tk3):Nat×Nat:=(t.1,t.2.2)
noncomputable def hdT(t:Tk3):Nat:=t.1
variable {hs:W3}
theorem iG(a b:Tk3):apT hs a b=apT hs b a:=by unfold apT oU;rw[Bool.and_comm (!(wyT hs a).wr.any _),show(a.1==b.1)=(b.1==a.1) from Bool.beq_comm ..]
theorem xT(a b:Tk3)(h:apT hs a b=true):hdT a≠hdT b:=by unfold apT oU at h;rw[bA] at h;intro z;have h:=h.1;rw[show a.1=b.1 from z] at h;simp at h
theorem xU(a:Tk3):(aY a).1=hdT a:=rfl
section
variable {m:Nat}
noncomputable def lfD(hs:W3)(t:Tk3):D:=.tup [aL (aY t),gO t.1 (wyT hs t)]
theorem aIU{ts:List Tk3}(h:ts≠[]):noLs (ts.map (lfD hs))=false:=by
 cases ts with
 | nil=>exact absurd rfl h|cons t ts=>rfl
theorem aHj(n:Nat)(W:m<=4){ts:List Tk3}(o:∀t∈ts,cO m (wyT hs t))(hl:ts.length<=100){i:Nat}(hi:i<ts.length):cP (n+3) 56 [.lst (ts.map (lfD hs)),.i (i:Int)]=.ok (.bl (cW (apT hs) ts i),false,false):=by
 obtain⟨u,q⟩:∃u,ts[i]? = some u:=⟨_,Ad hi⟩
 have I:cW (apT hs) ts i=(ts.take i).all λt=>apT hs u t:=by unfold cW;rw[q]
 rw[I]
 let Z:Sg:=[.T (.lst (ts.map (lfD hs))),.T (.i (i:Int))]
 have hw:walk pg (cP (n+2)) Z (.seq (.sli eV0 .z (eL1 eV1)))=.ok ((ts.take i).map (λt=>(⟨lfD hs t,false,true,[]⟩:Vl)),[]):=by rw[bQ,wU,aK 0 rfl,aA,aN 1 rfl rfl,aA];show(R.iff (aM (i:Int)) (eU _ none (some (i:Int))) >>= λx=>_)=_;rw[show aM (i:Int)=true by unfold aM;rw[bA];exact⟨Am (by omega),Am (by omega)⟩,lK];show((R.ok (⟨.lst (cut (ts.map (lfD hs)) none (some (i:Int))),true,true&&!noLs (ts.map (lfD hs)),if noLs (ts.map (lfD hs)) then [] else []⟩:Vl)) >>= λx=>_)=_;rw[aIU (λz=>by rw[z] at hi;exact absurd hi (Cj _)),aBq,aA,<-CW];show R.ok (items _ ((ts.take i).map (lfD hs)),[])=_;unfold items;rw[Aw];rfl
 have U:ev pg (cP (n+2)) Z (.comp 2 [0,1] (.t [0,1]) (.seq (.sli eV0 .z (eL1 eV1))) .z (.call 41 (eL2 (.idx (.idx eV2 eV3) eC1) eV1)))=.ok ⟨.lst ((ts.take i).map λt=>D.bl (apT hs u t)),true,false,[]⟩:=by exact eP (λt=>(⟨lfD hs t,false,true,[]⟩:Vl)) (λt=>D.bl (apT hs u t)) (λ_=>rfl) hw (by rw[A9];unfold lim;omega) λt ht=>⟨[.F (aL (aY t)),.T (gO t.1 (wyT hs t)),.T (.lst (ts.map (lfD hs))),.T (.i (i:Int))],rfl,(eO (aZ (aZ (aK 2 rfl) (aN 3 rfl rfl) ((pI (f:=lfD hs) rfl q).trans rfl)) (aC (.i 1)) rfl) (aIS rfl) (aEr n W (o u (mG q)) (o t (Dm ht))))⟩
 refine aH (F:=f56) rfl rfl (v:=.cl (.bl ((ts.take i).all λt=>apT hs u t))) (bE (dA U ?_));show(match cJ ((ts.take i).map λt=>D.bl (apT hs u t)) with|some bs=>R.ok (Vl.cl (.bl (bs.all id)))|none=>.bad)=_;rw[oT];show R.ok (Vl.cl (.bl (((ts.take i).map λt=>apT hs u t).all id)))=_;rw[IY];rfl
theorem xV{P:Pg}{W:Caller}{Z:Sg}{f:Nat}{a b:E}{x y:Vl}{k:Bool}(h1:ev P W Z a=.ok x)(h2:ev P W Z b=.ok y)(q:W f [x.d,y.d]=.ok (.bl k,false,false)):tst P W Z (.call f (.k a (.k b .z)))=.ok k:=by
 have e:evs P W Z (.k a (.k b .z))=.ok [x,y]:=by rw[aJ,h1,aA,aJ,h2,aA,cB];rfl
 rw[iM,e,aA];show(W f [x.d,y.d] >>= λr=>jL (iW _ r))=_;rw[q];rfl
theorem aCM(i j:Int):(gI i j).map Vl.cl=(Ar (j-i).toNat).map λ(k:Nat)=>Vl.cl (.i (i+(k:Int))):=by unfold gI;rw[Aw];rfl
theorem aIV(a b:Nat×Nat):dJ .Lt (aL a) (aL b)=some (lt2 a b):=by
 show some (aDs [(a.1:Int),(a.2:Int)] [(b.1:Int),(b.2:Int)])=_;unfold lt2;simp only[aDs]
 congr 1
 by_cases h1:a.1<b.1;have:¬ ((a.1:Int)=(b.1:Int)):=by omega
 simp[h1,this];by_cases h2:a.1=b.1;simp[h2];omega;have:¬ ((a.1:Int)=(b.1:Int)):=by omega
 simp[h1,h2,this]
theorem aEu{ts:List Tk3}{i k q:Nat}{x y:Tk3}(I:ts[i]? = some x)(U:ts[k]? = some y):lF (apT hs) aY ts (q+1) i k=lF (apT hs) aY ts q (i+1) (if (lt2 (aY x) (aY y)&&cW (apT hs) ts i)=true then i else k):=by rw[lF,I,U]
theorem kX{k:Int}(h:-1000000<=k)(h':k<=1000000):aM k=true:=by unfold aM;rw[bA];exact⟨Am (by omega),Am (by omega)⟩
theorem aBA(n:Nat)(hm:m<=4){ts:List Tk3}(o:∀t∈ts,cO m (wyT hs t))(hl:ts.length<=100)(ne:0<ts.length):cP (n+4) 55 [.lst (ts.map (lfD hs))]=.ok (.i (pick (apT hs) aY ts:Int),false,false):=by
 let τ:Sl->Sl->Sg:=λs1 s2=>[.T (.lst (ts.map (lfD hs))),s1,s2]
 have v0:∀s1 s2,ev pg (cP (n+3)) (τ s1 s2) eV0=.ok ⟨.lst (ts.map (lfD hs)),false,true,[]⟩:=λ_ _=>aK 0 rfl;have hw:walk pg (cP (n+3)) (τ (.F (.i ((0:Nat):Int))) .x) (.rng eC1 (.bi .len (eL1 eV0)))=.ok ((Ar (ts.length-1)).map (λ(i:Nat)=>Vl.cl (.i ((i+1:Nat):Int))),[]):=by have e:=dC (v0 (.F (.i ((0:Nat):Int))) .x) rfl;rw[lM] at e;rw[sH,aC,aA,e,aA];show R.iff (aM 1&&aM (ts.length:Int)) (R.ok ((gI 1 (ts.length:Int)).map Vl.cl,[]))=_;rw[show aM (ts.length:Int)=true from kX (by omega) (by omega),show(aM 1&&true)=true by decide,lK,aCM,show((ts.length:Int)-1).toNat=ts.length-1 by omega];refine congrArg R.ok (congrArg (·,[]) (AX λi _=>?_));rw[show(1:Int)+(i:Int)=((i+1:Nat):Int) by omega]
 obtain⟨Z',ef,k,hk,I,s2,rfl⟩:=cS (t:=.n 2) (b:=match hdS (drp 1 f55.body) with|.for _ _ b=>b|_=>.z) (λi Z=>∃k:Nat,k<ts.length/\lF (apT hs) aY ts (ts.length-1-i) (i+1) k=pick (apT hs) aY ts/\∃s2,Z=τ (.F (.i (k:Int))) s2) hw ⟨0,ne,rfl,_,rfl⟩ λi hi Z ⟨k,hk,I,s2,q0⟩=>by
  have q1:i<ts.length-1:=by simpa using hi
  have W:i+1<ts.length:=by omega
  subst q0;obtain⟨x,hx⟩:∃x,ts[i+1]? = some x:=⟨_,Ad W⟩
  obtain⟨y,hy⟩:∃y,ts[k]? = some y:=⟨_,Ad hk⟩
  let μ:=τ (.F (.i (k:Int))) (.F (.i ((i+1:Nat):Int)))
  have t1:=aGD (bO (aZ (aZ (v0 _ _) (aD 2 rfl) ((pI rfl hx).trans rfl)) (aC (.i 0)) rfl) (aZ (aZ (v0 _ _) (aD 1 rfl) ((pI rfl hy).trans rfl)) (aC (.i 0)) rfl) (aIV (aY x) (aY y))) (xV (v0 _ _) (aD 2 rfl) (aHj n hm o hl W));have q:lF (apT hs) aY ts (ts.length-1-(i+1)) (i+1+1) (if (lt2 (aY x) (aY y)&&cW (apT hs) ts (i+1))=true then i+1 else k)=pick (apT hs) aY ts:=by rw[show ts.length-1-i=(ts.length-1-(i+1))+1 by omega] at I;rw[aEu hx hy] at I;exact I
  refine⟨μ,if (lt2 (aY x) (aY y)&&cW (apT hs) ts (i+1))=true then τ (.F (.i ((i+1:Nat):Int))) (.F (.i ((i+1:Nat):Int))) else μ,?_,?_,?_⟩;rw[AD,Bd];exact dW _;cases U:(lt2 (aY x) (aY y)&&cW (apT hs) ts (i+1)) with
  | true=>rw[U] at t1;exact bG (nH t1 (bG rfl))|false=>rw[U] at t1;exact bG (bJ t1)
  cases U:(lt2 (aY x) (aY y)&&cW (apT hs) ts (i+1)) with
  | true=>rw[U] at q;exact⟨i+1,W,q,_,rfl⟩|false=>rw[U] at q;exact⟨k,hk,q,_,rfl⟩
 have ek:k=pick (apT hs) aY ts:=by rw[lM,AS,DM] at I;exact I
 subst ek;exact aH rfl rfl (v:=.cl (.i _)) (cs rfl (cs ef rfl))
end
end K67
end
namespace K67
open Hp (lexG lexJ lexN ltI bestI minIx)
section
variable {α:Type} {ap:α->α->Bool} {hd:α->Nat} {key:α->Nat×Nat}
theorem Tr.refl:∀L:List α,Tr ap L L
 | []=>.nil|x::L=>.cons (λ_ z=>absurd z AI) (Tr.refl L)
theorem Tr.trans(q:∀a b,ap a b=ap b a){L M N:List α}(e:Tr ap L M)(f:Tr ap M N):Tr ap L N:=Tr.both q M.length rfl (Tr.both q L.length rfl e (Tr.refl L)) f
theorem Tr.one(q:∀a b,ap a b=ap b a){x y:α}{B:List α}(h:ap x y=true):∀A:List α,Tr ap (A++x::y::B) (A++y::x::B)
 | []=>.cons (C:=[y]) (λc z=>by rw[A0.mp z,q];exact h) (Tr.refl (y::B))|a::A=>.cons (λ_ z=>absurd z AI) (Tr.one q h A)
inductive Wk (ap:α->α->Bool):List Int->List α->List α->Prop
 | nil {L:List α}:Wk ap [] L L
 | cons {T:List Int} {A B M:List α} {x y:α}:ap x y=true->Wk ap T (A++y::x::B) M->Wk ap ((A.length:Int)::T) (A++x::y::B) M
theorem Wk.app{T U:List Int}{L M N:List α}(e:Wk ap T L M)(f:Wk ap U M N):Wk ap (T++U) L N:=by
 induction e with
 | nil=>exact f|cons h _ q=>exact .cons h (q f)
noncomputable def brs(c k:Nat):List Int:=(Ar k).map λ(j:Nat)=>(c:Int)+((k:Int)-1-(j:Int))
noncomputable def trd(ap:α->α->Bool)(key:α->Nat×Nat):Nat->Nat->List α->List Int
 | 0,_,_=>[]
 | n+1,c,L=>brs c (pick ap key L)++trd ap key n (c+1) (L.eraseIdx (pick ap key L))
theorem aHk(c k:Nat):brs c (k+1)=((c+k:Nat):Int)::brs c k:=by
 unfold brs;rw[Cq,mC,Aw]
 congr 1
 simp;refine AX λj _=>?_;show(c:Int)+(((k+1:Nat):Int)-1-((j+1:Nat):Int))=_;omega
theorem aHl(W:∀a b,ap a b=ap b a)(P:List α)(x:α):∀(k:Nat) (A B:List α),A.length=k->(∀a∈A,ap a x=true)->Wk ap (brs P.length k) (P++(A++x::B)) (P++(x::(A++B)))
 | 0,A,B,h,_=>by cases Br.mp h;exact .nil|k+1,A,B,h,q=>by
  rcases F5 A with rfl|⟨I,a,rfl⟩
  cases h;rw[F6] at h q ⊢;have U:I.length=k:=by simpa using h
  rw[aHk];have:=Wk.cons (A:=P++I) (q a (by simp)) (by simpa using (aHl W P x k I (a::B) U λb z=>q b (AN _ z)));rw[lA,U] at this;simpa using this
theorem kY{n:Nat}{L:List α}{x:α}(h:L[pick ap key L]? = some x):norm ap key (n+1) L=x::norm ap key n (L.eraseIdx (pick ap key L)):=by show(match L[pick ap key L]? with|some x=>x::norm ap key n (L.eraseIdx (pick ap key L))|none=>[])=_;rw[h]
theorem aBB(I:∀a b,ap a b=ap b a):∀(n:Nat) (P L:List α),L.length=n->Wk ap (trd ap key n P.length L) (P++L) (P++norm ap key n L)
 | 0,P,L,h=>by cases Br.mp h;exact .nil|n+1,P,L,h=>by
  obtain⟨h1,h2,_⟩:=hW (L:=L) (by omega);obtain⟨x,q⟩:∃x,L[pick ap key L]? = some x:=⟨_,Ad h1⟩
  obtain⟨s1,s2⟩:=fD q;have a:=aHl I P x (pick ap key L) (L.take (pick ap key L)) (L.drop (pick ap key L+1)) (by rw[A9];omega) ((eC I q).mp h2);rw[<-s1,<-s2] at a;have U:=aBB I n (P++[x]) (L.eraseIdx (pick ap key L)) (by rw[Bj h1];omega);rw[kY q];refine a.app ?_;rw[lA] at U;simpa using U
theorem xW:∀(n c:Nat) (L:List α),L.length=n->2*(trd ap key n c L).length<=n*(n-1)
 | 0,_,_,_=>Bw _|n+1,c,L,h=>by
  obtain⟨h1,_,_⟩:=hW (L:=L) (by omega);have q:=xW n (c+1) (L.eraseIdx (pick ap key L)) (by rw[Bj h1];omega);show 2*(brs c (pick ap key L)++_).length<=(n+1)*n;have e:(brs c (pick ap key L)).length=pick ap key L:=by unfold brs;rw[lM,AS]
  rw[lA,e];have:n*(n-1)+2*n=(n+1)*n:=by
   cases n with
   | zero=>rfl|succ n=>simp[J1,J2];omega
  omega
theorem tE(U:∀a b,ap a b=ap b a):∀(n:Nat) {L:List α},L.length=n->∀(A:List α) (e:α) (B:List α) (l:α) (C:List α),norm ap key n L=A++e::(B++l::C)->(∀b∈e::B,ap b l=true)->lt2 (key l) (key e)=false
 | 0,L,_,A,e,B,l,C,h,_=>by cases A <;> cases h|n+1,L,hn,A,e,B,l,C,h,q=>by
  obtain⟨h1,h2,h3⟩:=hW (L:=L) (by omega);obtain⟨x,I⟩:∃x,L[pick ap key L]? = some x:=⟨_,Ad h1⟩
  have t:=Tr.norm (key:=key) U (n+1) hn;cases A with
  | nil=>
   have t':Tr ap ((e::B)++l::C) L:=by rw[h] at t;exact t
   obtain⟨W,B',rfl,g1,_⟩:=t'.left rfl q;rw[kY I] at h;injection h with h _
   subst h;have z:(W++l::B')[W.length]? = some l:=by simp
   exact h3 _ _ _ z I ((eC U z).mpr (by simpa using g1))
  | cons a A=>
   rw[kY I] at h;injection h with _ h
   exact tE U n (by rw[Bj h1];omega) A e B l C h q
theorem aAp(U:∀a b,ap a b=ap b a)(W:∀a b,ap a b=true->hd a≠hd b)(I:∀a,(key a).1=hd a):∀(n:Nat) {M:List α},M.length=n->lexG lt2 (M.map key) ((norm ap key n M).map key)=false
 | 0,M,h=>by cases Br.mp h;rfl|n+1,[],h=>by cases h|n+1,y::M,h=>by
  obtain⟨h1,h2,h3⟩:=hW (L:=y::M) (by simp);obtain⟨x,q⟩:∃x,(y::M)[pick ap key (y::M)]? = some x:=⟨_,Ad h1⟩
  rw[kY q];rw[mC,mC,lexG];split;rename_i e;obtain⟨s1,s2⟩:=fD q;obtain⟨z,rfl,z3⟩:=vF W s1 (λ_ w=>absurd w AI) ((eC U q).mp h2) (by rw[<-I,<-I,e]);rw[s2,<-z,<-z3];exact aAp U W I n (by simpa using h);exact h3 0 y x rfl q ((eC U rfl).mpr λ_ w=>absurd w AI)
end
structure LO {α:Type} (lt:α->α->Bool):Prop where
 tr:∀{a b c},lt a b=true->lt b c=true->lt a c=true
 ir:∀a,lt a a=false
 tot:∀{a b},a≠b->lt a b=false->lt b a=true
theorem LO.as{α:Type}{lt:α->α->Bool}(L:LO lt){a b:α}(h:lt a b=true):lt b a=false:=by
 cases q:lt b a with
 | false=>rfl|true=>have:=L.tr h q;rw[L.ir] at this;cases this
theorem aMv:LO lt2:=⟨aHi,xQ,λ{a b} n h=>by
 cases q:lt2 b a with
 | true=>rfl|false=>exact absurd (aCL h q) n⟩
theorem aCN{α:Type}[DecidableEq α]{lt:α->α->Bool}(L:LO lt):∀{a b c:List α},lexG lt a b=true->lexG lt b c=true->lexG lt a c=true
 | [],[],_,h,_=>by cases h|[],_::_,[],_,h=>by cases h|[],_::_,_::_,_,_=>rfl|_::_,[],_,h,_=>by cases h|_::_,_::_,[],_,h=>by cases h|x::xs,y::ys,z::zs,h1,h2=>by rw[lexG] at h1 h2 ⊢;by_cases I:x=y;subst I;rw[if_pos rfl] at h1;by_cases q:x=z;rw[if_pos q] at h2 ⊢;exact aCN L h1 h2;rw[if_neg q] at h2 ⊢;exact h2;rw[if_neg I] at h1;by_cases q:y=z;subst q;rw[if_neg I];exact h1;rw[if_neg q] at h2;rw[if_neg (λe=>by subst e;rw[L.as h1] at h2;cases h2)];exact(L.tr h1 h2)
theorem aCO{α:Type}[DecidableEq α]{lt:α->α->Bool}:∀a:List α,lexG lt a a=false
 | []=>rfl|x::xs=>by rw[lexG,if_pos rfl];exact aCO xs
theorem aAq{α:Type}[DecidableEq α]{lt:α->α->Bool}(L:LO lt):∀{a b:List α},a≠b->lexG lt a b=false->lexG lt b a=true
 | [],[],h,_=>absurd rfl h|[],_::_,_,h=>by cases h|_::_,[],_,_=>rfl|x::xs,y::ys,h,h2=>by rw[lexG] at h2 ⊢;by_cases q:x=y;subst q;rw[if_pos rfl] at h2 ⊢;exact aAq L (λe=>h (by rw[e])) h2;rw[if_neg q] at h2;rw[if_neg (Dc q)];exact L.tot q h2
theorem LO.lex{α:Type}[DecidableEq α]{lt:α->α->Bool}(L:LO lt):LO (lexG lt):=⟨λh1 h2=>aCN L h1 h2,aCO,λh1 h2=>aAq L h1 h2⟩
theorem aCP{bt:Nat->Nat->Bool}(tr:∀a b c,bt a b=true->bt b c=true->bt a c=true)(ir:∀a,bt a a=false):∀(n:Nat),bestI bt n<=n/\∀j,j<=n->bt j (bestI bt n)=false
 | 0=>⟨Ap _,λj h=>by cases Nat.le_zero.mp h;exact ir 0⟩
 | n+1=>by
  obtain⟨h1,h2⟩:=aCP tr ir n;rw[bestI];split;rename_i c;refine⟨Ap _,λj I=>?_⟩;by_cases e:j=n+1;rw[e];exact ir _;cases q:bt j (n+1) with
  | false=>rfl|true=>have:=tr _ _ _ q c;rw[h2 j (by omega)] at this;cases this
  rename_i c;refine⟨by omega,λj I=>?_⟩;by_cases e:j=n+1;rw[e];simpa using c;exact h2 j (by omega)
noncomputable def k2(k:Nat×Nat):List Int:=[(k.1:Int),(k.2:Int)]
theorem aMw{a b:Nat×Nat}(h:k2 a=k2 b):a=b:=by obtain⟨a,b⟩:=a;unfold k2 at h;simp at h;grind
theorem aIW(a b:Nat×Nat):lexJ (k2 a) (k2 b)=lt2 a b:=by
 obtain⟨q,U⟩:=a;obtain⟨I,W⟩:=b;unfold k2 lexJ lt2;simp only[lexG,ltI];by_cases h1:q=I;subst h1;by_cases h2:U=W;subst h2;simp;simp[h2];omega;have:¬ ((q:Int)=I):=by omega
 simp[this,h1]
theorem aCQ:∀(a b:List (Nat×Nat)),lexN (a.map k2) (b.map k2)=lexG lt2 a b
 | [],[]=>rfl|[],_::_=>rfl|_::_,[]=>rfl|x::a,y::b=>by have q:=aCQ a b;unfold lexN at q ⊢;rw[mC,mC,lexG,lexG,q,aIW];by_cases e:x=y;rw[if_pos e,if_pos (by rw[e])];rw[if_neg e,if_neg λz=>e (aMw z)]
theorem aEv{ws:List (List (Nat×Nat))}{F:List (Nat×Nat)}(W:F∈ws)(h:∀w∈ws,lexG lt2 w F=false):ws[minIx (ws.map (Dk k2))]? = some F:=by
 have L:=aMv.lex;have g:∀i,(ws.map (Dk k2)).getD i []=(ws.getD i []).map k2:=λi=>by rw[Ag,A7,Ag];cases ws[i]? <;> rfl
 have hl:=Fv W;have e:(λi j=>lexN ((ws.map (Dk k2)).getD i []) ((ws.map (Dk k2)).getD j []))=λi j=>lexG lt2 (ws.getD i []) (ws.getD j []):=by
  funext i j
  rw[g,g,aCQ]
 unfold minIx;rw[e,lM];obtain⟨b1,U⟩:=aCP (bt:=λi j=>lexG lt2 (ws.getD i []) (ws.getD j [])) (λa b c h1 h2=>L.tr h1 h2) (λa=>L.ir _) (ws.length-1);generalize bestI (λi j=>lexG lt2 (ws.getD i []) (ws.getD j [])) (ws.length-1)=k at b1 U;obtain⟨w,I⟩:∃w,ws[k]? = some w:=⟨_,Ad (by omega)⟩
 obtain⟨i,hi⟩:=Bv W;have q0:=(Ao.mp hi).1;have q:=U i (by omega);rw[Ag,hi,Ag,I] at q;have q:lexG lt2 F w=false:=q;rw[I];by_cases e:w=F;rw[e];have:=L.tot e (h w (mG I));rw[q] at this;cases this
theorem aAr{α:Type}[BEq α][LawfulBEq α]:∀{l s:List α},l.Nodup->(∀a∈l,a∈s)->l.length<=s.length
 | [],_,_,_=>Bw _|a::l,s,h,q=>by rw[C4] at h;have I:=q a A3;have:=aAr (s:=s.erase a) h.2 λb U=>(List.mem_erase_of_ne λz=>h.1 (by rw[<-z];exact U)).mpr (q b (Au _ U));rw[List.length_erase_of_mem I] at this;have:=Fv I;rw[lC];omega
noncomputable def wds{α:Type}(s:List α):Nat->List (List α)
 | 0=>[[]]
 | n+1=>(wds s n).flatMap λw=>s.map λa=>a::w
theorem aCR{α:Type}(s:List α):∀n,(wds s n).length=s.length ^ n
 | 0=>rfl|n+1=>by
  rw[wds,List.length_flatMap];have:∀l:List (List α),(l.map λw=>(s.map λa=>a::w).length).sum=l.length*s.length:=λl=>by
   induction l with
   | nil=>simp|cons w l q=>rw[mC,List.sum_cons,q,lM,lC,J2];omega
  rw[this,aCR s n,Nat.pow_succ]
theorem aCS{α:Type}{s:List α}:∀{w:List α},(∀a∈w,a∈s)->w∈wds s w.length
 | [],_=>A0.mpr rfl|a::w,h=>DS.mpr ⟨w,aCS λb q=>h b (Au _ q),AH.mpr ⟨a,h a A3,rfl⟩⟩
end K67
noncomputable section
set_option maxHeartbeats 4000000
namespace K67
open Hp HpS PySem
section
variable {P:Pg} {W:Caller} {Z:Sg}
theorem kD{t:Sg->R Bool}{f:Sg->O}(n:Nat)(h:t Z=.ok false):jM t f (n+1) Z=.next Z:=by show O.from Z (t Z) _=_;rw[h];rfl
theorem tF{t:Sg->R Bool}{f:Sg->O}{Z':Sg}(n:Nat)(h:t Z=.ok true)(q:f Z=.next Z'):jM t f (n+1) Z=jM t f n Z':=by show O.from Z (t Z) _=_;rw[h];simp_all
end
section
variable {m:Nat} {hs:W3}
noncomputable def lsS(hs:W3)(a b c:Sl)(L:List Tk3)(F:List (Nat×Nat))(T:List Int)(s6:Sl):Sg:=[a,b,c,.O (L.map (lfD hs)),.O (F.map aL),.O (T.map D.int),s6]
noncomputable def lsB:Ss:=match hdS (drp 3 f39.body) with|.whl _ b=>b|_=>.z
theorem aPk{k:Int}(h:aM k=true):yR (some (R.ok (Vl.cl (.i k))))=.ok (some k):=by show R.iff (aM k) (R.ok (some k))=_;rw[h,lK]
theorem vG{α q:Type}(f:α->q):∀(l:List α) (k:Nat),(l.map f).eraseIdx k=(l.eraseIdx k).map f
 | [],_=>rfl|x::l,0=>rfl|x::l,k+1=>congrArg (f x::·) (vG f l k)
theorem aIX(n:Nat)(hm:m<=4)(a b c:Sl){L:List Tk3}{F:List (Nat×Nat)}{T:List Int}(o:∀t∈L,cO m (wyT hs t))(ne:0<L.length)(hl:L.length+F.length<=100)(hT:T.length<=100*F.length)(s6:Sl) :
 ∃(t:Tk3) (t6:Sl),L[pick (apT hs) aY L]? = some t/\pick (apT hs) aY L<L.length/\(T++brs F.length (pick (apT hs) aY L)).length<=100*(F.length+1)/\exs pg (cP (n+4)) (lsS hs a b c L F T s6) lsB=.next (lsS hs a b c (L.eraseIdx (pick (apT hs) aY L)) (F++[aY t]) (T++brs F.length (pick (apT hs) aY L)) t6):=by
 have U:=aBA n hm o (by omega) ne;have I:=(hW (ap:=apT hs) (key:=aY) ne).1;revert U I;generalize pick (apT hs) aY L=k;intro U I;obtain⟨t,ht⟩:∃t,L[k]? = some t:=⟨_,Ad I⟩
 let q:=T++brs F.length k
 have lT:q.length<=100*(F.length+1):=by show(T++brs F.length k).length<=_;unfold brs;rw[lA,lM,AS];omega
 have hc:ev pg (cP (n+4)) (lsS hs a b c L F T (.F (.i (k:Int)))) (.comp 1 [4] (.n 0) (.dwn (.op .Sub eV6 eC1)) .z (.op .Add (.bi .len (eL1 eV1)) eV0))=.ok ⟨.lst ((Ar k).map λ(j:Nat)=>D.int ((F.length:Int)+((k:Int)-1-(j:Int)))),true,false,[]⟩:=by
  refine eP (al:=[]) (λ(j:Nat)=>Vl.cl (.i ((k:Int)-1-(j:Int)))) (λ(j:Nat)=>D.int ((F.length:Int)+((k:Int)-1-(j:Int)))) (λ_=>rfl) ?_ (by rw[AS];unfold lim;omega) λj _=>⟨[.F (.i ((k:Int)-1-(j:Int))),.O (F.map aL)],dW _,?_⟩
  rw[aGq,dI (aD 6 rfl) (aC (.i 1)) (sub_int _ 1),aA];show R.iff (aM ((k:Int)-1)) (R.ok ((pC ((k:Int)-1)).map Vl.cl,[]))=_;rw[kX (by omega) (by omega),lK];unfold pC;rw[Aw,show((k:Int)-1+1).toNat=k by omega];rfl;have e:=dC (aV (P:=pg) (W:=cP (n+4)) (Z:=[.F (.i ((k:Int)-1-(j:Int))),.O (F.map aL)]) 1 rfl) rfl;rw[lM] at e;exact dB e (aD 0 rfl)
 have k2:ex pg (cP (n+4)) (lsS hs a b c L F T (.F (.i (k:Int)))) (hdS (drp 1 lsB))=.next (lsS hs a b c L F q (.F (.i (k:Int)))):=
  (aGY hc (bI (λ_=>rfl) _) rfl (by rw[lM];unfold lim;omega) (by show(T++brs F.length k).map D.int=_;unfold brs;rw[Ax,Aw];rfl)).trans rfl
 have k3:ex pg (cP (n+4)) (lsS hs a b c L F q (.F (.i (k:Int)))) (.appPop 4 3 eV6 0)=.next (lsS hs a b c (L.eraseIdx k) (F++[aY t]) q (.F (.i (k:Int)))):=by
  rw[aDW,show ev pg (cP (n+4)) (lsS hs a b c L F q (.F (.i (k:Int)))) eV6=.ok (.cl (.i (k:Int))) from aD 6 rfl];rw[aPk (kX (by omega) (by omega)),cA];have ep:mM (lsS hs a b c L F q (.F (.i (k:Int)))) 3 (some (k:Int))=.ok (⟨lfD hs t,false,false,[]⟩,lsS hs a b c (L.eraseIdx k) F q (.F (.i (k:Int)))):=by show(match ixN (L.map (lfD hs)).length (k:Int) with|some j=>(match (L.map (lfD hs))[j]? with|some d=>R.ok (Vl.sub ⟨.non,false,false,[]⟩ d,(lsS hs a b c L F q (.F (.i (k:Int)))).set 3 (.O ((L.map (lfD hs)).eraseIdx j)))|none=>.bad)|none=>.bad)=_;rw[show ixN (L.map (lfD hs)).length (k:Int)=some k by unfold ixN;rw[if_pos (by omega),if_pos (by rw[lM];omega)];rfl];show(match (L.map (lfD hs))[k]? with|some d=>R.ok (Vl.sub ⟨.non,false,false,[]⟩ d,_)|none=>.bad)=_;rw[A7,ht,vG];rfl
  rw[ep,cA];show O.from _ (R.ok (Vl.cl (aL (aY t)))) _=_;rw[cA];show(if (F.map aL++[aL (aY t)]).length<=lim then O.next _ else .bad)=_;rw[if_pos (by rw[lA,lM];unfold lim;simp;omega)];show O.next [a,b,c,.O ((L.eraseIdx k).map (lfD hs)),.O (F.map aL++[aL (aY t)]),.O (q.map D.int),.F (.i (k:Int))]=O.next [a,b,c,.O ((L.eraseIdx k).map (lfD hs)),.O ((F++[aY t]).map aL),.O (q.map D.int),.F (.i (k:Int))];rw[show(F++[aY t]).map aL=F.map aL++[aL (aY t)] from Ax]
 exact⟨t,.F (.i (k:Int)),ht,I,lT,cs (aT (cQ (aV 3 rfl) U)) (cs k2 (bG k3))⟩
theorem aCT{W:Caller}(a b c:Sl)(L:List Tk3)(F:List (Nat×Nat))(T:List Int)(q:Sl):tst pg W (lsS hs a b c L F T q) eV3=.ok (!(L.map (lfD hs)).isEmpty):=by rw[aOL];rfl
theorem aCU(n:Nat)(W:m<=4)(a b c:Sl):∀(N:Nat) (L:List Tk3) (F:List (Nat×Nat)) (T:List Int) (q:Sl) (I:Nat),L.length=N->N<I->(∀t∈L,cO m (wyT hs t))->L.length+F.length<=100->T.length<=100*F.length ->
 ∃U:Sl,jM (λZ=>tst pg (cP (n+4)) Z eV3) (λZ=>exs pg (cP (n+4)) Z lsB) I (lsS hs a b c L F T q)=.next (lsS hs a b c [] (F++(norm (apT hs) aY N L).map aY) (T++trd (apT hs) aY N F.length L) U)
 | 0,L,F,T,q,I+1,e,_,_,hl,_=>by cases Br.mp e;refine⟨q,?_⟩;rw[show F++(norm (apT hs) aY 0 []).map aY=F from AO F,show T++trd (apT hs) aY 0 F.length []=T from AO T];exact kD _ (aCT a b c [] F T q)|N+1,L,F,T,q,I+1,e,h,o,hl,hT=>by
  obtain⟨t,U,h1,h2,h3,h4⟩:=aIX n W a b c o (by omega) hl hT q;obtain⟨u6,g2⟩:=aCU n W a b c N (L.eraseIdx (pick (apT hs) aY L)) (F++[aY t]) (T++brs F.length (pick (apT hs) aY L)) U I (by rw[Bj h2];omega) (by omega) (λt ht=>o t (List.mem_of_mem_eraseIdx ht)) (by rw[lA,Bj h2];simp;omega) (by rw[lA];simpa using h3);refine⟨u6,(tF (f:=λZ=>exs pg (cP (n+4)) Z lsB) _ ((aCT a b c L F T q).trans ?_) h4).trans (g2.trans ?_)⟩;cases L with
  | nil=>cases e|cons x L=>rfl
  rw[show norm (apT hs) aY (N+1) L=t::norm (apT hs) aY N (L.eraseIdx (pick (apT hs) aY L)) by rw[norm,h1],mC,AU];rw[show trd (apT hs) aY (N+1) F.length L=brs F.length (pick (apT hs) aY L)++trd (apT hs) aY N (F.length+1) (L.eraseIdx (pick (apT hs) aY L)) from rfl,AU,lA];rfl
end
variable {bs:List (Str×Int)} {g:Cn} {hs:W3}
section
variable {s0:St} {ps:List (Nat×Nat)} {ss:List St} {i:Nat}
noncomputable def trT(ps:List (Nat×Nat))(ss:List St)(s0:St)(i:Nat):Tk3:=((ps.getD i (0,0)).1,((ss.getD i s0).2.getD (ps.getD i (0,0)).1 0).toNat,(ps.getD i (0,0)).2)
noncomputable def trL(ps:List (Nat×Nat))(ss:List St)(s0:St):List Tk3:=(Ar ps.length).map (trT ps ss s0)
noncomputable def t3D(t:Tk3):D:=tkD t.1 t.2.1 t.2.2
theorem eE:(trL ps ss s0).length=ps.length:=by unfold trL;rw[lM,AS]
theorem aHm(q:Wov bs hs s0 ps ss)(h:i<ps.length):tT ps ss s0 i=t3D (trT ps ss s0 i):=by have:=((q.ok i).rg _ (q.hd (ps.getD i (0,0)) (mG (dD (0,0) h)))).1;unfold tT t3D tkD aI trT;rw[CF this]
theorem hX(h:i<ps.length):(trL ps ss s0)[i]? = some (trT ps ss s0 i):=by unfold trL;rw[A7,El h];rfl
theorem xX(o:dL bs.length hs)(q:Wov bs hs s0 ps ss){t:Tk3}(h:t∈trL ps ss s0):kC hs t.1 t.2.1 t.2.2 (wyT hs t):=by obtain⟨i,hi,rfl⟩:=AH.mp h;exact(q.at o (B5.mp hi)).2
theorem aIY:(trL ps ss s0).map aY=ps:=by refine aHh (0,0) (by rw[lM,eE]) λk q=>?_;rw[lM,eE] at q;rw[Ag,A7,hX q];rfl
end
theorem aHn{α:Type}(g:α->D):∀ts:List α,dS (ts.map λt=>Vl.cl (g t))=false
 | []=>rfl|t::ts=>aHn g ts
theorem aJJ{α:Type}(g:α->D):∀ts:List α,bT (ts.map λt=>Vl.cl (g t))=[]
 | []=>rfl|t::ts=>by unfold bT;rw[mC,DL];exact aJJ g ts
theorem aIZ{α:Type}(k:Nat)(caps:List Nat)(g:α->D)(ts:List α):fV k caps [] (ts.map λt=>Vl.cl (g t))=⟨.lst (ts.map g),true,false,[]⟩:=by
 have e:(ts.map λt=>Vl.cl (g t)).map (·.d)=ts.map g:=by rw[Aw];rfl
 unfold fV;rw[e,aHn,aJJ];split <;> rfl
theorem aMx{P:Pg}{W:Caller}{Z:Sg}{k:Nat}{caps:List Nat}{T:T}{it:It}{elt:E}{α:Type}{ts:List α}(f:α->Vl)(g:α->D)(hw:walk P W Z it=.ok (ts.map f,[]))(U:ts.length<=lim)
 (I:∀t∈ts,∃q,cN (Al k .x++caps.map λi=>((freeze Z [])[i]?).getD .x) (f t) T=.ok q/\ev P W q elt=.ok (.cl (g t))):ev P W Z (.comp k caps T it .z elt)=.ok ⟨.lst (ts.map g),true,false,[]⟩:=by
 rw[mX,hw,aA,jZ (g:=g) (p:=λ_=>true) λt ht=>by
  obtain⟨q,e1,e2⟩:=I t ht;simp_all]
 rw[(FY.mpr λ_ _=>rfl),aA];rw[(Am (by rw[lM];exact U)),lK,aIZ]
noncomputable def lst(hs:W3)(L:List Tk3):List Tk3:=norm (apT hs) aY L.length L
noncomputable def trs(hs:W3)(L:List Tk3):List Int:=trd (apT hs) aY L.length 0 L
theorem vH(n:Nat)(W:bs∈boxSet)(o:dL bs.length hs)(gw:g.wf bs.length true)(gz:g.sz<=31){st:List Int}(U:st∈standsL bs)(hg:g.hold st st=true){ps:List (Nat×Nat)}{ss:List St}(I:Wov bs hs (st,cM hs) ps ss)(hp:ps.length<=100) :
 cP (n+36) 39 [aR bs g hs,aS st,.lst (ps.map aL)]=.ok (.tup [.lst (((lst hs (trL ps ss (st,cM hs))).map aY).map aL),.lst ((trs hs (trL ps ss (st,cM hs))).map D.int)],true,false):=by
 obtain⟨l3,l4⟩:=fK W
 let s0:St:=(st,cM hs)
 let a:Sl:=.T (aR bs g hs)
 let b:Sl:=.T (aS st)
 let c:Sl:=.T (.lst (ps.map aL))
 let L:=trL ps ss s0
 have hc:ev pg (cP (n+35)) [a,b,c,.x,.x,.x,.x] (.comp 2 [0] (.t [0,1]) (.zip eV2 (.call 38 (eL3 eV0 eV1 eV2))) .z (.tup (eL2 eV0 (.call 40 (eL2 eV2 eV1)))))=.ok ⟨.lst (L.map (lfD hs)),true,false,[]⟩:=by rw[show L.map (lfD hs)=(Ar ps.length).map (λi=>lfD hs (trT ps ss s0 i)) from Aw];refine aMx (λi=>Vl.cl (.tup [aL (ps.getD i (0,0)),tT ps ss s0 i])) (λi=>lfD hs (trT ps ss s0 i)) ?_ (by rw[AS];unfold lim;omega) λi hi=>?_;rw[jT,aK 2 rfl,aA,fN (jF rfl) (aN 1 rfl (aU st)) (aK 2 rfl) (aBs n W o gw gz U hg I hp),aA];show R.ok (items _ (fR (ps.map aL) ((Ar ps.length).map (tT ps ss s0))),[])=_;rw[oP aL (tT ps ss s0) (0,0) 0 ps (Ar ps.length) (by simp),cE (λi=>rfl)];simp_all;have q:=B5.mp hi;obtain⟨h1,wa⟩:=I.at o q;refine⟨[.F (aL (ps.getD i (0,0))),.F (tT ps ss s0 i),a],nG _ rfl rfl,?_⟩;rw[aHm I q];exact jE (aD 0 rfl) (eO (jF rfl) (aD 1 rfl) (aEq (n+1) l4 o wa))
 obtain⟨t6,e⟩:=aCU (n+31) l4 a b c L.length L [] [] .x pD rfl (by rw[eE];unfold pD;omega) (λt ht=>(xX o I ht).ok o) (by rw[eE];simp;omega) (by simp);have k5:exs pg (cP (n+35)) (lsS hs a b c [] ([]++(lst hs L).map aY) ([]++trs hs L) t6) (.k (.retP 4 5) .z)=.ret ⟨.tup [.lst (((lst hs L).map aY).map aL),.lst ((trs hs L).map D.int)],true,false,[]⟩:=by refine mE ?_;show(if 4≠5/\noLs (((lst hs L).map aY).map aL)=true/\noLs ((trs hs L).map D.int)=true then O.ret _ else .bad)=_;rw[if_pos ⟨by decide,bI (λ_=>rfl) _,bI (λ_=>rfl) _⟩];rfl
 exact aH (F:=f39) rfl rfl (cs (bK hc) (cs rfl (cs (Z':=lsS hs a b c L [] [] .x) rfl (cs (s:=.whl eV3 lsB) e k5))))
theorem aMy(n:Nat)(p q:Nat×Nat):eqF (n+2) (aL p) (aL q)=some (decide (p=q)):=by
 obtain⟨a,b⟩:=p;obtain⟨c,d⟩:=q;show some (decide ((a:Int)=(c:Int))&&(decide ((b:Int)=(d:Int))&&true))=_
 congr 1
 rw[DV,C5];simp;omega
theorem aCV(n:Nat):∀F I:List (Nat×Nat),F.length=I.length->iA (n+2) (F.map aL) (I.map aL)=some (decide (F=I))
 | [],[],_=>rfl|[],_::_,h=>by cases h|_::_,[],h=>by cases h|p::F,q::I,h=>by rw[mC,mC,iA,aMy,aCV n F I (by simpa using h)];simp_all
theorem aPl(F q:List (Nat×Nat)):eqD (.lst (F.map aL)) (.lst (q.map aL))=some (decide (F=q)):=by
 show(if (F.map aL).length=(q.map aL).length then eqL (eqF 119) (F.map aL) (q.map aL) else some false)=_;split;rename_i h;rw[aFc];exact aCV 117 F q (by simpa using h)
 . rename_i h
   congr 1
   grind
section
variable {P:Pg} {W:Caller} {Z:Sg}
theorem aMz{v:Vl}{ds:List D}(q:v.d=.lst ds)(n:noLs ds=true)(lo hi:Option Int):eU v lo hi=.ok ⟨.lst (cut ds lo hi),true,false,[]⟩:=by unfold eU;rw[q];show R.ok (Vl.mk (.lst (cut ds lo hi)) true (v.pa&&!noLs ds) (if noLs ds=true then [] else v.al))=_;rw[n,if_pos rfl,BK,FD]
theorem aHo{a b:E}{v:Vl}{ds:List D}{k:Nat}(h:ev P W Z a=.ok v)(U:v.d=.lst ds)(n:noLs ds=true)(q:ev P W Z b=.ok (.cl (.i (k:Int))))(I:k<=1000000):ev P W Z (.sli a .z (.k b .z))=.ok ⟨.lst (ds.take k),true,false,[]⟩:=by rw[wU,h,aA,q,aA];show R.iff (aM (k:Int)) (eU v none (some (k:Int)))=_;rw[fY I,aMz U n,aBq];rfl
theorem aHp{a b:E}{v:Vl}{ds:List D}{k:Nat}(h:ev P W Z a=.ok v)(hv:v.d=.lst ds)(n:noLs ds=true)(I:ev P W Z b=.ok (.cl (.i (k:Int))))(U:k<=1000000):ev P W Z (.sli a (.k b .z) .z)=.ok ⟨.lst (ds.drop k),true,false,[]⟩:=by
 have q:evs P W Z (.k b .z)=.ok [.cl (.i (k:Int))]:=by rw[aJ,I];rfl
 show(ev P W Z a >>= λx=>evs P W Z (.k b .z) >>= λl=>evs P W Z .z >>= λh=>_)=_;rw[h,aA,q,aA,cB,aA];show R.iff (aM (k:Int)) (eU v (some (k:Int)) none)=_;rw[fY U,aMz hv n,aBr];rfl
end
abbrev cT(ps:List (Nat×Nat)):D:=.lst (ps.map aL)
abbrev cV(L:List Tk3):D:=.lst (L.map t3D)
theorem tG(ps:List (Nat×Nat)):noLs (ps.map aL)=true:=bI (λ_=>rfl) ps
theorem iU(L:List Tk3):noLs (L.map t3D)=true:=bI (λ_=>rfl) L
variable {bs:List (Str×Int)} {g:Cn} {hs:W3}
theorem pK(n:Nat)(hb:bs∈boxSet)(o:dL bs.length hs)(gw:g.wf bs.length true)(gz:g.sz<=31){st:List Int}(q0:st∈standsL bs)(hg:g.hold st st=true){ps:List (Nat×Nat)}{ss:List St}(W0:Wov bs hs (st,cM hs) ps ss)(hp:ps.length<=100) :
 cP (n+36) 57 [aR bs g hs,aS st,cT ps]=.ok (cV (trL ps ss (st,cM hs)),true,false):=by
 let s0:St:=(st,cM hs)
 let L:=trL ps ss s0
 let τ:Sl->Sl->Sl->Sl->Sl->Sg:=λs3 s4 s5 q U=>[.T (aR bs g hs),.T (aS st),.T (cT ps),s3,s4,s5,q,U]
 let A:Sl:=.O (ss.map bV)
 have v2:∀s3 s4 s5 q U,ev pg (cP (n+35)) (τ s3 s4 s5 q U) eV2=.ok ⟨cT ps,false,true,[]⟩:=λ_ _ _ _ _=>aK 2 rfl;have ln:ev pg (cP (n+35)) (τ A (.O []) .x .x .x) (.bi .len (eL1 eV2))=.ok (.cl (.i ps.length)):=by have:=dC (v2 A (.O []) .x .x .x) rfl;rw[lM] at this;exact this
 obtain⟨Z',ef,s5,q,U,rfl⟩:=cS (t:=.n 5) (b:=match hdS (drp 2 f57.body) with|.for _ _ b=>b|_=>.z) (λi Z=>∃s5 q U,Z=τ A (.O ((L.take i).map t3D)) s5 q U) (cH ln rfl (by omega)) ⟨_,_,_,rfl⟩ λi hi Z ⟨s5,q,U,q1⟩=>by
  have hi:i<ps.length:=by simpa using hi
  subst q1
  let p:=ps.getD i (0,0)
  let O:Sl:=.O ((L.take i).map t3D)
  let I:Sl:=.F (aI i)
  let μ:=τ A O I (.F (aI p.1)) (.F (aI p.2))
  have e2:ev pg (cP (n+35)) μ (.tup (eL3 eV6 (.idx (.idx (.idx eV3 eV5) eC1) eV6) eV7))=.ok (.cl (t3D (trT ps ss s0 i))):=by have:=aBh (aD 6 rfl) (aZ (aZ (jI (aV 3 rfl) rfl (aD 5 rfl) (dD s0 (by rw[W0.len];omega)) (iQ _)) (aC (.i 1)) (gM _ _ _ (aU _))) (aD 6 rfl) (nC (by rw[(W0.ok i).pl];exact((W0.at o hi).1)))) (aD (P:=pg) (W:=cP (n+35)) (Z:=μ) 7 rfl);rw[<-aHm W0 hi];exact this
  refine⟨τ A O I q U,τ A (.O ((L.take (i+1)).map t3D)) I (.F (aI p.1)) (.F (aI p.2)),?_,cs (aMh (jI (v2 _ _ _ _ _) rfl (aD 5 rfl) (dD (0,0) hi) rfl) (nG _ rfl rfl)) (bG (gN e2 rfl (by rw[lM,A9];unfold lim;omega) rfl ?_)),_,_,_,rfl⟩;rw[AD,Bd];exact dW _;rw[fL t3D L (0,0,0) (by show i<(trL ps ss s0).length;rw[eE];exact hi),show L.getD i (0,0,0)=trT ps ss s0 i by show(trL ps ss s0).getD i _=_;rw[Ag,hX hi];rfl];rfl
 have e3:((L.take ((Ar ps.length).map λ(k:Nat)=>Vl.cl (.i (k:Int))).length).map t3D)=L.map t3D:=by rw[lM,AS,Bz (by show(trL ps ss s0).length<=_;rw[eE];exact Ap _)]
 rw[e3] at ef;exact aH rfl rfl (v:=⟨cV L,true,false,[]⟩) (cs (bK (fN (jF rfl) (aN 1 rfl (aU st)) (aK 2 rfl) (vB (n+1) hb o gw gz q0 hg W0 hp))) (cs rfl (cs ef rfl)))
noncomputable def tsw(i:Nat)(L:List Tk3):List Tk3:=L.take i++[L.getD (i+1) (0,0,0),L.getD i (0,0,0)]++L.drop (i+2)
theorem aJa{L:List Tk3}{i:Nat}(h:i+1<L.length)(k:Nat):(tsw i L)[k]? = if k=i then L[i+1]? else if k=i+1 then L[i]? else L[k]? := by
 unfold tsw;rw[Ag,Ag,Ad h,Ad (by omega:i<L.length)];have lt:(L.take i).length=i:=by rw[A9];omega
 by_cases a:k<i;rw[AU,Be (by omega),EA,if_pos a,if_neg (by omega),if_neg (by omega)];rw[AU,AB (by omega),lt];by_cases b:k=i;subst b;rw[DM,if_pos rfl];rfl;rw[if_neg b];by_cases c:k=i+1;subst c;rw[show i+1-i=1 by omega,if_pos rfl];rfl
 . rw[if_neg c,AB (by simp;omega),CO]
   congr 1
   simp;omega
theorem aHq{α:Type}{l r:List α}(h:∀k:Nat,l[k]? = r[k]?):l=r:=GL h
theorem aHr(o:dL bs.length hs){s0:St}{ps:List (Nat×Nat)}{ss:List St}{i:Nat}{c:St}(I:Wov bs hs s0 ps ss)(h:i+1<ps.length)(W':Wov bs hs s0 (sw i ps) (ss.set (i+1) c))(U:(ps.getD i (0,0)).1≠(ps.getD (i+1) (0,0)).1) :
 trL (sw i ps) (ss.set (i+1) c) s0=tsw i (trL ps ss s0):=by refine aHq λk=>?_;rw[aJa (by rw[eE];exact h)];have hl:=I.len;obtain⟨hp,_⟩:=I.at o (i:=i) (by omega);obtain⟨hq,_⟩:=I.at o h;by_cases q:k<ps.length;rw[hX (by rw[oW];exact q)];by_cases W:k=i;subst W;rw[if_pos rfl,hX h];unfold trT;rw[aHg h,(λk q=>iT q) k (by omega)];rw[(((gP (by rw[(I.ok k).pl];exact hp)).mp (I.go k (by omega))).2.2),iT U];rw[if_neg W];by_cases h1:k=i+1;subst h1;rw[if_pos rfl,hX (by omega)];unfold trT;rw[aIT h,(pJ (by omega))];have:=W'.go i (by rw[oW];omega);rw[aHg h,(λk q=>iT q) i (by omega),(pJ (by omega))] at this;rw[(((gP (by rw[(I.ok i).pl];exact hq)).mp this).2.2),iT λz=>U z.symm];rw[if_neg h1,hX q];unfold trT;rw[aMu (λz=>W z.symm) (λz=>h1 z.symm),(λk q=>iT q) k (λz=>h1 z.symm)];have e1:(trL (sw i ps) (ss.set (i+1) c) s0)[k]? = none:=B4 (by rw[eE,oW];omega);rw[e1,if_neg (by omega),if_neg (by omega),(B4 (by rw[eE];omega))]
theorem aEw{P:Pg}{W:Caller}{Z:Sg}{e:E}{v:Vl}{xs:List Int}(h:ev P W Z e=.ok v)(I:v.d=.lst (xs.map D.int))(q:v.al=[]):walk P W Z (.seq e)=.ok (xs.map (λx=>Vl.cl (.i x)),[]):=by rw[bQ,h,aA,I];show R.ok (items v (xs.map D.int),v.al)=_;rw[q];unfold items;rw[Aw];exact congrArg R.ok (congrArg (·,[]) (AX λx _=>(cK rfl)))
variable {bs:List (Str×Int)} {g:Cn} {hs:W3}
section
variable {P:Pg} {W:Caller} {Z:Sg}
theorem aMA{a b c:E}{v:Vl}{ds:List D}{k m:Nat}(h:ev P W Z a=.ok v)(hv:v.d=.lst ds)(n:noLs ds=true)(U:ev P W Z b=.ok (.cl (.i (k:Int))))(hc:ev P W Z c=.ok (.cl (.i (m:Int))))(hk:k<=m)(hm:m<=ds.length)(hl:ds.length<=1000000):ev P W Z (.sli a (.k b .z) (.k c .z))=.ok ⟨.lst ((ds.drop k).take (m-k)),true,false,[]⟩:=by
 have q:evs P W Z (.k b .z)=.ok [.cl (.i (k:Int))]:=by rw[aJ,U];rfl
 have I:evs P W Z (.k c .z)=.ok [.cl (.i (m:Int))]:=by rw[aJ,hc];rfl
 show(ev P W Z a >>= λx=>evs P W Z (.k b .z) >>= λl=>evs P W Z (.k c .z) >>= λh=>_)=_;rw[h,aA,q,aA,I,aA];show R.iff (aM (k:Int)&&aM (m:Int)) (eU v (some (k:Int)) (some (m:Int)))=_;rw[fY (by omega),fY (by omega),aMz hv n];unfold cut;rw[aCE,aCE,Hz (by omega),Hz (by omega)];rfl
theorem aJb{i j:Nat}{e:E}{v:Vl}{a b:D}(h:ev P W Z e=.ok v)(U:v.d=.lst [a,b])(q:noL a=true)(I:noL b=true):ex P W Z (.setU [i,j] e)=.next ((Z.set i (.F a)).set j (.F b)):=by show O.from Z (ev P W Z e) (λv=>match v.d with|.lst ds=>if ds.length=[i,j].length/\noLs ds=true then .next (([i,j].zip ds).foldl (λZ p=>Z.set p.1 (v.sub p.2).slot) Z) else .bad|_=>.bad)=_;rw[h,cA,U];show(if [a,b].length=[i,j].length/\noLs [a,b]=true then _ else _)=_;rw[if_pos ⟨rfl,by show(noL a&&(noL b&&true))=true;rw[q,I];rfl⟩];show O.next ((Z.set i (v.sub a).slot).set j (v.sub b).slot)=_;rw[cK q,cK I,hG,hG]
end
noncomputable def Tl(L:List Tk3)(s:Sl):Prop:=s=.T (cV L)\/s=.O (L.map t3D)
theorem Tl.ev{P:Pg}{W:Caller}{Z:Sg}{L:List Tk3}{s:Sl}(h:Tl L s){i:Nat}(e:Z[i]? = some s):∃v,ev P W Z (.v i)=.ok v/\v.d=cV L:=by rcases h with rfl|rfl;exact⟨_,aK i e,rfl⟩;exact⟨_,aV i e,rfl⟩
noncomputable def wkB:Ss:=match hdS f58.body with|.for _ _ b=>b|_=>.z
abbrev wkS(bs:List (Str×Int))(g:Cn)(hs:W3)(T:List Int)(s1 s3 s4 s5:Sl):Sg:=[.T (aR bs g hs),s1,.T (.lst (T.map D.int)),s3,s4,s5]
abbrev lL(hs:W3)(L:List Tk3):Prop:=∀t∈L,kC hs t.1 t.2.1 t.2.2 (wyT hs t)
theorem aJc(n:Nat)(l4:bs.length<=4)(o:dL bs.length hs){T0:List Int}{T:List Int}{L M:List Tk3}(w:Wk (apT hs) T L M):L.length<=100->lL hs L->∀{s1:Sl},Tl L s1->∀s3 I U,∃t1 t3 t4 t5,Tl M t1/\eK (λZ x=>O.from Z (cN Z x (.n 3)) λZ'=>exs pg (cP (n+33)) Z' wkB) (T.map λx=>Vl.cl (.i x)) (wkS bs g hs T0 s1 s3 I U)=.next (wkS bs g hs T0 t1 t3 t4 t5):=by
 induction w with
 | nil=>exact λ_ _ s1 h1 s3 I U=>⟨s1,s3,I,U,h1,rfl⟩
 | @cons T A B M x y ha w ih=>
  intro hl q0 s1 h1 s3 I U;have hA:A.length+2<=(A++x::y::B).length:=by simp
  let k:=A.length
  let W:=wkS bs g hs T0 s1 (.F (aI k)) I U
  let Z2:=wkS bs g hs T0 s1 (.F (aI k)) (.F (t3D x)) (.F (t3D y))
  have w3:∀I U,ev pg (cP (n+33)) (wkS bs g hs T0 s1 (.F (aI k)) I U) eV3=.ok (.cl (aI k)):=λ_ _=>aD 3 rfl;have x2:∀I U,ev pg (cP (n+33)) (wkS bs g hs T0 s1 (.F (aI k)) I U) (.op .Add eV3 eC2)=.ok (.cl (aI (k+2))):=λ_ _=>dB (w3 _ _) (aC (.i 2));have dr:((A++x::y::B).map t3D).drop k=t3D x::t3D y::B.map t3D:=by rw[Ax,List.drop_left' (by rw[lM])];rfl
  have i2:ex pg (cP (n+33)) W (hdS (drp 1 wkB))=.next W:=by obtain⟨v,q,vd⟩:=h1.ev (Z:=W) (i:=1) rfl;have ln:=dC q vd;rw[lM] at ln;refine bJ (dX (bO (w3 _ _) (aC (.i 0)) ?_) (bO (dB (w3 _ _) (aC (.i 1))) ln ?_));exact congrArg some (A5 (by omega));exact congrArg some (A5 (by omega))
  have i3:ex pg (cP (n+33)) W (hdS (drp 2 wkB))=.next Z2:=by obtain⟨v,q,vd⟩:=h1.ev (Z:=W) (i:=1) rfl;have e:=aMA q vd (iU _) (w3 _ _) (x2 _ _) (by omega) (by rw[lM];exact hA) (by rw[lM];omega);rw[dr,show k+2-k=2 by omega] at e;exact aJb e rfl rfl rfl
  have i4:ex pg (cP (n+33)) Z2 (hdS (drp 3 wkB))=.next Z2:=bJ (dH (gB (jF rfl) (aD 4 rfl) (aD 5 rfl) (by
   have:=oV (g:=g) n l4 o (q0 x (by simp)) (q0 y (by simp));rw[show oU x.1 y.1 (wyT hs x) (wyT hs y)=true from ha] at this;exact this)))
  have i5:ex pg (cP (n+33)) Z2 (hdS (drp 4 wkB))=.next (wkS bs g hs T0 (.O ((A++y::x::B).map t3D)) (.F (aI k)) (.F (t3D x)) (.F (t3D y))):=by
   obtain⟨v,q,vd⟩:=h1.ev (Z:=Z2) (i:=1) rfl;have e1:=aHo q vd (iU _) (w3 _ _) (by omega);have e3:=aHp q vd (iU _) (x2 _ _) (by omega);have t1:((A++x::y::B).map t3D).take k=A.map t3D:=by rw[Ax,H0 (by rw[lM])]
   have t3:((A++x::y::B).map t3D).drop (k+2)=B.map t3D:=by rw[<-FO,dr];rfl
   rw[t1] at e1;rw[t3] at e3;have q1:A.length+B.length+2<=100:=by simp at hl;omega
   have e5:=dI (dI e1 (dP (aF (aD 5 rfl) (aF (aD 4 rfl) bB))) (pS rfl rfl (iU A) rfl (by rw[lM];unfold lim;simp;omega))) e3 (pS rfl rfl ((show noLs (A.map t3D++[y,x].map t3D)=true by rw[<-Ax];exact iU _)) (iU B) (by rw[lA,lM,lM];unfold lim;simp;omega));rw[show A.map t3D++[t3D y,t3D x]++B.map t3D=(A++y::x::B).map t3D by simp] at e5;exact bK e5
  obtain⟨t1,t3,t4,t5,g1,g2⟩:=ih (by simpa using hl) (λt z=>q0 t (by simp at z ⊢;grind)) (.inr rfl) (.F (aI k)) (.F (t3D x)) (.F (t3D y));refine⟨t1,t3,t4,t5,g1,?_⟩;rw[mC,eK];rw[show cN (wkS bs g hs T0 s1 s3 I U) (Vl.cl (.i (A.length:Int))) (.n 3)=.ok W from dW _,cA,show exs pg (cP (n+33)) W wkB=.next _ from cs (bJ (dX (dH (eB (w3 _ _) rfl)) (eB (w3 _ _) rfl))) (cs i2 (cs i3 (cs i4 (bG i5))))];exact g2
theorem aBC(n:Nat)(l4:bs.length<=4)(o:dL bs.length hs){T:List Int}{L M:List Tk3}(w:Wk (apT hs) T L M)(hl:L.length<=100)(hm:M.length<=100)(q:lL hs L) :
 cP (n+34) 58 [aR bs g hs,cV L,.lst (T.map D.int)]=.ok (cT (M.map aY),true,false):=by
 obtain⟨U,W,t4,t5,g1,g2⟩:=aJc n l4 o w hl q (.inl rfl) .x .x .x;have hc:ev pg (cP (n+33)) (wkS bs g hs T U W t4 t5) (.comp 3 [] (.t [0,1,2]) (.seq eV1) .z (.tup (eL2 eV0 eV2)))=.ok ⟨cT (M.map aY),true,false,[]⟩:=by
  rw[show cT (M.map aY)=.lst (M.map λt=>aL (aY t)) from congrArg D.lst Aw];have wk:∃al,walk pg (cP (n+33)) (wkS bs g hs T U W t4 t5) (.seq eV1)=.ok (M.map (λt=>Vl.cl (t3D t)),al):=by obtain⟨v,I,vd⟩:=g1.ev (Z:=wkS bs g hs T U W t4 t5) (i:=1) rfl;refine⟨v.al,?_⟩;rw[bQ,I,aA,vd];show R.ok (items v (M.map t3D),v.al)=_;rw[cE (λ_=>rfl)]
  obtain⟨al,wk⟩:=wk;exact eP (λt=>Vl.cl (t3D t)) (λt=>aL (aY t)) (λ_=>rfl) wk (by unfold lim;omega) λt _=>⟨[.F (aI t.1),.F (aI t.2.1),.F (aI t.2.2)],aJC _ rfl rfl rfl,jE (aD 0 rfl) (aD 2 rfl)⟩
 exact aH (F:=f58) rfl rfl (cs ((aGF (aEw (aK 2 rfl) rfl rfl)).trans g2) (bE hc))
variable {bs:List (Str×Int)} {g:Cn} {hs:W3}
abbrev ilS(bs:List (Str×Int))(g:Cn)(hs:W3)(N:List Tk3)(s2 s3:Sl):Sg:=[.T (aR bs g hs),.T (cV N),s2,s3]
noncomputable def ilF:Ss:=match hdS f59.body with|.for _ _ b=>b|_=>.z
noncomputable def ilT:E:=match hdS (drp 1 ilF) with|.whl c _=>c|_=>.c .non
noncomputable def ilB:Ss:=match hdS (drp 1 ilF) with|.whl _ b=>b|_=>.z
noncomputable def aHs(hs:W3)(N:List Tk3):Prop:=∀(e l:Nat) (x y:Tk3),e<l->N[e]? = some x->N[l]? = some y->(∀(j:Nat) (z:Tk3),e<=j->j<l->N[j]? = some z->apT hs z y=true)->¬ y.1<x.1
theorem aJK{P:Pg}{W:Caller}{Z:Sg}{a b:E}(h:tst P W Z a=.ok false):tst P W Z (.an a b)=.ok false:=by rw[aGo,h];rfl
theorem aJd(n:Nat)(l4:bs.length<=4)(o:dL bs.length hs){N:List Tk3}(W:lL hs N)(hN:N.length<=100)(st:aHs hs N){l:Nat}{y:Tk3}(hy:N[l]? = some y):∀(m I:Nat),m<I->m<=l->(∀j z,m<=j->j<l->N[j]? = some z->apT hs z y=true) ->
 ∃s3,jM (λZ=>tst pg (cP (n+33)) Z ilT) (λZ=>exs pg (cP (n+33)) Z ilB) I (ilS bs g hs N (.F (aI l)) (.F (.i ((m:Int)-1))))=.next (ilS bs g hs N (.F (aI l)) s3):=by
 intro m
 induction m with
 | zero=>
  intro I hf _ _;obtain⟨I,rfl⟩:∃q,I=q+1:=⟨I-1,by omega⟩
  exact⟨_,kD _ (aJK (bO (aD 3 rfl) (aC (.i 0)) (congrArg some (A5 (by omega)))))⟩
 | succ m ih=>
  intro I hf q2 q0;obtain⟨I,rfl⟩:∃q,I=q+1:=⟨I-1,by omega⟩
  have hl:=(Ao.mp hy).1;obtain⟨x,hx⟩:∃x,N[m]? = some x:=⟨_,Ad (by omega)⟩
  rw[show((m+1:Nat):Int)-1=(m:Int) by omega]
  let μ:=ilS bs g hs N (.F (aI l)) (.F (aI m))
  have el:ev pg (cP (n+33)) μ (.idx eV1 eV2)=.ok (.cl (t3D y)):=jI (aK 1 rfl) rfl (aD 2 rfl) hy rfl;have ee:ev pg (cP (n+33)) μ (.idx eV1 eV3)=.ok (.cl (t3D x)):=jI (aK 1 rfl) rfl (aD 3 rfl) hx rfl;have t1:tst pg (cP (n+33)) μ ilT=.ok (apT hs x y):=by have:=aGD (bO (aD (Z:=μ) 3 rfl) (aC (.i 0)) (o:=.GtE) (congrArg some (Am (by omega)))) (gB (jF (i:=0) rfl) ee el (oV n l4 o (W x (mG hx)) (W y (mG hy))));exact this
  cases ha:apT hs x y with
  | false=>rw[ha] at t1;exact⟨_,kD _ t1⟩|true=>
   rw[ha] at t1;have U:∀j z,m<=j->j<l->N[j]? = some z->apT hs z y=true:=λj z h1 h2 h3=>by by_cases e:j=m;subst e;rw[hx] at h3;cases h3;exact ha;exact q0 j z (by omega) h2 h3
   have q1:=st m l x y (by omega) hx hy U;obtain⟨s3,q⟩:=ih I (by omega) (by omega) U;exact⟨s3,(tF _ t1 (cs (bJ (bO (o:=.Lt) (aBx el) (aBx ee) (congrArg some (A5 (by omega))))) (bG (aT (dI (aD 3 rfl) (aC (.i 1)) (sub_int _ 1)))))).trans q⟩
theorem aAs(n:Nat)(l4:bs.length<=4)(o:dL bs.length hs){N:List Tk3}(I:lL hs N)(hN:N.length<=100)(st:aHs hs N):cP (n+34) 59 [aR bs g hs,cV N]=.ok (.bl true,false,false):=by
 have ln:ev pg (cP (n+33)) (ilS bs g hs N .x .x) (.bi .len (eL1 eV1))=.ok (.cl (.i N.length)):=by have:=dC (aK (P:=pg) (W:=cP (n+33)) (Z:=ilS bs g hs N .x .x) 1 rfl) rfl;rw[lM] at this;exact this
 obtain⟨Z',ef,s2,q,rfl⟩:=cS (t:=.n 2) (b:=ilF) (λi Z=>∃s2 q,Z=ilS bs g hs N s2 q) (cH ln rfl (by omega)) ⟨_,_,rfl⟩ λi hi Z ⟨s2,q,U⟩=>by
  have hi:i<N.length:=by simpa using hi
  subst U;obtain⟨y,hy⟩:∃y,N[i]? = some y:=⟨_,Ad hi⟩
  obtain⟨u3,hu⟩:=aJd n l4 o I hN st hy i pD (by unfold pD;omega) (Ap _) λj z h1 h2 _=>absurd h1 (by omega);refine⟨ilS bs g hs N (.F (aI i)) q,ilS bs g hs N (.F (aI i)) u3,?_,cs (aT (dI (aD 2 rfl) (aC (.i 1)) (sub_int _ 1))) (bG hu),_,_,rfl⟩;rw[AD,Bd];exact dW _
 exact aH (F:=f59) rfl rfl (v:=.cl (.bl true)) (cs ef (bE (aC _)))
theorem aBD{L:List Tk3}:aHs hs (lst hs L):=by
 intro e l x y W hx hy I q1;have ed:lst hs L=(lst hs L).take e++x::(((lst hs L).drop (e+1)).take (l-(e+1))++y::(lst hs L).drop (l+1)):=by obtain⟨s1,_⟩:=fD hx;obtain⟨s2,_⟩:=fD (by rw[CO,show e+1+(l-(e+1))=l by omega];exact hy);rw[FO,show e+1+(l-(e+1)+1)=l+1 by omega] at s2;rw[<-s2];exact s1
 have q:=tE (iG) L.length rfl _ _ _ _ _ ed λb U=>by rcases AA.mp U with rfl|U;exact I e _ (Ap _) W hx;obtain⟨j,hj⟩:=Bv U;have q0:=(Ao.mp hj).1;rw[A9] at q0;rw[EA,if_pos (by omega),CO] at hj;exact I (e+1+j) b (by omega) (by omega) hj
 unfold lt2 aY at q;simp at q;omega
variable {bs:List (Str×Int)} {g:Cn} {hs:W3}
noncomputable def k3(t:Tk3):List Int:=[(t.1:Int),(t.2.1:Int),(t.2.2:Int)]
theorem aMB{a b:Tk3}(h:k3 a=k3 b):a=b:=by obtain⟨q,I,U⟩:=a;obtain⟨W,b2,b3⟩:=b;unfold k3 at h;simp at h;grind
theorem aCW:∀{a b:List Tk3},a.map k3=b.map k3->a=b
 | [],[],_=>rfl|[],_::_,h=>by cases h|_::_,[],h=>by cases h|x::a,y::b,h=>by
  rw[mC,mC] at h;injection h with h1 h2
  rw[aMB h1,aCW h2]
theorem qK:∀L:List Tk3,gR (L.map t3D)=some (L.map k3)
 | []=>rfl|t::L=>by rw[mC];show(match dG [aI t.1,aI t.2.1,aI t.2.2],gR (L.map t3D) with|some k,some ks=>some (k::ks)|_,_=>none)=_;rw[qK L];rfl
theorem vI{M:List Tk3}{i:Nat}(h:i+1<M.length):∃(A:List Tk3) (x y:Tk3) (B:List Tk3),M=A++x::y::B/\A.length=i/\M[i]? = some x/\M[i+1]? = some y/\tsw i M=A++y::x::B:=by
 obtain⟨x,q⟩:∃x,M[i]? = some x:=⟨_,Ad (by omega)⟩
 obtain⟨y,I⟩:∃y,M[i+1]? = some y:=⟨_,Ad h⟩
 obtain⟨s1,_⟩:=fD q;have U:(M.drop (i+1))[0]? = some y:=by rw[CO];exact I
 obtain⟨s2,_⟩:=fD U;rw[FO] at s2;refine⟨M.take i,x,y,M.drop (i+2),?_,by rw[A9];omega,q,I,?_⟩;have s2:=s2;rw[s2] at s1;exact s1;unfold tsw;rw[Ag,Ag,q,I];simp
structure Fs (hs:W3) (L:List Tk3) (F:List (List Tk3)):Prop where
 nd:F.Nodup
 tr:∀M∈F,Tr (apT hs) L M
 me:L∈F
noncomputable def tH(hs:W3)(F:List (List Tk3))(M:List Tk3)(i:Nat):Prop:=∀x y,M[i]? = some x->M[i+1]? = some y->apT hs x y=true->tsw i M∈F
theorem Fs.few{L:List Tk3}{F:List (List Tk3)}(f:Fs hs L F)(h:L.length<8):F.length<=823543:=by
 have h1:=aAr (s:=wds L L.length) f.nd λM q=>by rw[(f.tr M q).len];exact aCS λa I=>(f.tr M q).mem.mpr I
 rw[aCR] at h1;refine AL h1 ?_
 match L.length,h with
 | 0,_=>decide|1,_=>decide|2,_=>decide|3,_=>decide|4,_=>decide|5,_=>decide|6,_=>decide|7,_=>decide
theorem Fs.wk{L:List Tk3}{F:List (List Tk3)}(c:∀M∈F,∀i,tH hs F M i){T:List Int}{M N:List Tk3}(w:Wk (apT hs) T M N):M∈F->N∈F:=by
 induction w with
 | nil=>exact id|@cons T A B M x y ha _ ih=>
  intro h;refine ih ?_;have hi:A.length+1<(A++x::y::B).length:=by simp
  obtain⟨A',x',y',B',e,I,ex,W,U⟩:=vI hi;obtain⟨rfl,q⟩:=List.append_inj e I.symm;cases q;have:=c _ h A.length x y ex W ha;rw[U] at this;exact this
abbrev oX(F:List (List Tk3)):List (NK×D):=F.map λM=>(M.map k3,D.bl true)
abbrev fmS(bs:List (Str×Int))(g:Cn)(hs:W3)(L:List Tk3)(F:List (List Tk3))(s4 s5 s6 s7:Sl):Sg:=[.T (aR bs g hs),.T (cV L),.own true (F.map cV),.dct (oX F),s4,s5,s6,s7]
noncomputable def fmW:Ss:=match hdS (drp 3 f60.body) with|.whl _ b=>b|_=>.z
noncomputable def fmF:Ss:=match hdS (drp 1 fmW) with|.for _ _ b=>b|_=>.z
noncomputable def fmI:Ss:=match hdS fmF with|.iff _ a _=>a|_=>.z
noncomputable def fmJ:Ss:=match hdS (drp 1 fmI) with|.iff _ a _=>a|_=>.z
theorem aCX{F:List (List Tk3)}{N:List Tk3}:decide (N.map k3∈(oX F).map (·.1))=decide (N∈F):=by rw[Aw];refine Hf.mpr ⟨λh=>?_,λh=>AH.mpr ⟨N,h,rfl⟩⟩;obtain⟨M,q,e⟩:=AH.mp h;rw[<-aCW e];exact q
theorem aHt{P:Pg}{W:Caller}{Z:Sg}{a:E}{v:Vl}{ds:List D}(h:ev P W Z a=.ok v)(q:v.d=.lst ds)(n:noLs ds=true):ev P W Z (.bi .tuple (.k a .z))=.ok (.cl (.tup ds)):=dA h (by
 show(match v.d with|.lst ds=>R.ok (⟨.tup ds,false,v.pa&&!noLs ds,if noLs ds then [] else v.al⟩:Vl)|.tup ds=>.ok ⟨.tup ds,false,v.pa,v.al⟩|_=>.bad)=_;rw[q];show R.ok (⟨.tup ds,false,v.pa&&!noLs ds,if noLs ds=true then [] else v.al⟩:Vl)=_;rw[n,if_pos rfl,BK,FD];rfl)
theorem aPm(n:Nat)(l4:bs.length<=4)(o:dL bs.length hs){L:List Tk3}(q1:lL hs L)(h8:L.length<8){M:List Tk3}(hM:Tr (apT hs) L M){F:List (List Tk3)}(f:Fs hs L F){i:Nat}(hi:i+1<M.length)(s4 s6 U:Sl) :
 ∃E u7,Fs hs L (F++E)/\tH hs (F++E) M i/\exs pg (cP (n+33)) (fmS bs g hs L F s4 (.T (cV M)) (.F (aI i)) U) fmF=.next (fmS bs g hs L (F++E) s4 (.T (cV M)) (.F (aI i)) u7):=by
 obtain⟨A,x,y,B,eM,eA,qx,qy,et⟩:=vI hi;have q0:lL hs M:=λt ht=>q1 t (hM.mem.mpr ht);have hl:M.length<8:=by rw[<-hM.len];exact h8
 have few:=f.few h8
 let q:Sl->Sg:=λU=>fmS bs g hs L F s4 (.T (cV M)) (.F (aI i)) U
 have v5:ev pg (cP (n+33)) (q U) eV5=.ok ⟨cV M,false,true,[]⟩:=aK 5 rfl;have w6:ev pg (cP (n+33)) (q U) eV6=.ok (.cl (aI i)):=aD 6 rfl;have x2:ev pg (cP (n+33)) (q U) (.op .Add eV6 eC2)=.ok (.cl (aI (i+2))):=dB w6 (aC (.i 2));have t1:tst pg (cP (n+33)) (q U) (.call 54 (eL3 eV0 (.idx eV5 eV6) (.idx eV5 (.op .Add eV6 eC1))))=.ok (apT hs x y):=gB (jF rfl) (jI v5 rfl w6 qx rfl) (jI v5 rfl (dB w6 (aC (.i 1))) qy rfl) (oV n l4 o (q0 x (mG qx)) (q0 y (mG qy)));cases ha:apT hs x y with
 | false=>rw[ha] at t1;refine⟨[],U,by rw[AO];exact f,λx' y' h1 h2 h3=>?_,by rw[AO];exact bG (bJ t1)⟩;rw[qx] at h1;rw[qy] at h2;cases h1;cases h2;rw[ha] at h3;cases h3|true=>
  rw[ha] at t1
  let N:=tsw i M
  have eN:N=A++y::x::B:=et;have e5:=dI (dI (aHo v5 rfl (iU M) w6 (by omega)) (dP (aF (jI v5 rfl (dB w6 (aC (.i 1))) qy rfl) (aF (jI v5 rfl w6 qx rfl) bB))) (pS rfl rfl (by rw[<-CW];exact iU _) rfl (by rw[A9,lM];unfold lim;simp;omega))) (aHp v5 rfl (iU M) x2 (by omega)) (pS rfl rfl (by rw[<-CW];exact(show noLs ((M.take i).map t3D++[y,x].map t3D)=true by rw[<-Ax];exact iU _)) (by rw[<-DW];exact iU _) (by rw[lA,A9,BI,lM];unfold lim;simp;omega));have ed:(M.map t3D).take i++[t3D y,t3D x]++(M.map t3D).drop (i+2)=N.map t3D:=by show _=(tsw i M).map t3D;unfold tsw;rw[Ax,Ax,CW,DW,Ag,Ag,qx,qy];rfl
  rw[ed] at e5;have v7:ev pg (cP (n+33)) (q (.O (N.map t3D))) eV7=.ok ⟨cV N,false,false,[7]⟩:=aV 7 rfl;have kt:=aHt v7 rfl (iU N);have t2:tst pg (cP (n+33)) (q (.O (N.map t3D))) (.dnin (.bi .tuple (eL1 eV7)) 3)=.ok (!decide (N∈F)):=by show(ev pg (cP (n+33)) (q (.O (N.map t3D))) (.bi .tuple (eL1 eV7)) >>= λx=>_)=_;rw[kt,aA];show(match some (Sl.dct (oX F)),gR (N.map t3D) with|some (.dct ks),some k=>R.ok (!decide (k∈(ks:List (NK×D)).map Prod.fst))|_,_=>.bad)=_;rw[qK];show R.ok (!decide (N.map k3∈(oX F).map (·.1)))=_;rw[aCX]
  have I:∀{G':List (List Tk3)},N∈G'->tH hs G' M i:=λh _ _ _ _ _=>h;by_cases hN:N∈F;rw[Am hN] at t2;exact⟨[],_,by rw[AO];exact f,by rw[AO];exact I hN,by rw[AO];exact bG (nH t1 (cs (bK e5) (bG (bJ t2))))⟩;rw[A5 hN] at t2;have q2:Tr (apT hs) L N:=by rw[eN];refine hM.trans iG ?_;rw[eM];exact Tr.one iG ha A
  have f2:Fs hs L (F++[N]):=⟨List.nodup_append.mpr ⟨f.nd,by simp,λa ha b hb e=>hN (by rw[A0.mp hb] at e;rw[<-e];exact ha)⟩,λK hK=>by
   rcases Bl.mp hK with z|z;exact f.tr K z;rw[A0.mp z];exact q2,AN _ f.me⟩
  have j1:ex pg (cP (n+33)) (q (.O (N.map t3D))) (hdS fmJ)=.next ((q (.O (N.map t3D))).set 3 (.dct (oX (F++[N])))):=by
   show O.from (q (.O (N.map t3D))) (ev pg (cP (n+33)) (q (.O (N.map t3D))) (.c (.bl true))) (λw=>O.from (q (.O (N.map t3D))) (ev pg (cP (n+33)) (q (.O (N.map t3D))) (.bi .tuple (eL1 eV7))) λv=>_)=_;rw[aC,cA,kt,cA];show(match some (Sl.dct (oX F)),gR (N.map t3D) with|some (.dct ks),some k=>if ks.length<lim/\vZ (.bl true)=true then O.next ((q (.O (N.map t3D))).set 3 (.dct (yQ ks (k,.bl true)))) else .bad|_,_=>.bad)=_;rw[qK];show(if (oX F).length<lim/\vZ (.bl true)=true then O.next ((q (.O (N.map t3D))).set 3 (.dct (yQ (oX F) (N.map k3,.bl true)))) else .bad)=_;rw[if_pos ⟨by rw[lM];unfold lim;omega,rfl⟩];have:yQ (oX F) (N.map k3,D.bl true)=oX (F++[N]):=by unfold yQ;rw[if_neg (λz=>by have:=aCX (F:=F) (N:=N);rw[Am z,A5 hN] at this;cases this)];show oX F++_=(F++[N]).map _;rw[Ax];rfl
   rw[this]
  have j2:ex pg (cP (n+33)) ((q (.O (N.map t3D))).set 3 (.dct (oX (F++[N])))) (.app 2 eV7)=.next (fmS bs g hs L (F++[N]) s4 (.T (cV M)) (.F (aI i)) (.F (cV N))):=by have:=aJB (P:=pg) (W:=cP (n+33)) (Z:=(q (.O (N.map t3D))).set 3 (.dct (oX (F++[N])))) (i:=2) (aV 7 rfl) rfl (by rw[lM];unfold lim;omega);rw[this];show O.next [_,_,.own true (F.map cV++[cV N]),_,_,_,_,_]=O.next [_,_,.own true ((F++[N]).map cV),_,_,_,_,_];rw[Ax];rfl
  exact⟨[N],_,f2,I (A4 _ (A0.mpr rfl)),bG (nH t1 (cs (bK e5) (bG (nH t2 (cs j1 (bG j2))))))⟩
variable {bs:List (Str×Int)} {g:Cn} {hs:W3}
theorem tH.mono{F E:List (List Tk3)}{M:List Tk3}{i:Nat}(h:tH hs F M i):tH hs (F++E) M i:=λx y h1 h2 q=>AN _ (h x y h1 h2 q)
theorem aJe(n:Nat)(l4:bs.length<=4)(o:dL bs.length hs){L:List Tk3}(q1:lL hs L)(h8:L.length<8){F:List (List Tk3)}(f:Fs hs L F){s:Nat}{M:List Tk3}(hM:F[s]? = some M)(s5 U s7:Sl) :
 ∃E u5 u6 u7,Fs hs L (F++E)/\(∀i,tH hs (F++E) M i)/\exs pg (cP (n+33)) (fmS bs g hs L F (.F (aI s)) s5 U s7) fmW=.next (fmS bs g hs L (F++E) (.F (aI (s+1))) u5 u6 u7):=by
 let I:Sl:=.F (aI s)
 let SM:Sl:=.T (cV M)
 have q0:=f.tr M (mG hM);have hl:=q0.len;have k1:ex pg (cP (n+33)) (fmS bs g hs L F I s5 U s7) (.set (.n 5) (.row 2 eV4))=.next (fmS bs g hs L F I SM U s7):=by refine aGE ?_;show(ev pg (cP (n+33)) (fmS bs g hs L F I s5 U s7) eV4 >>= λy=>_)=_;rw[show ev pg (cP (n+33)) (fmS bs g hs L F I s5 U s7) eV4=.ok (.cl (aI s)) from aD 4 rfl,aA];show(match ixN (F.map cV).length (s:Int) with|some j=>(match (F.map cV)[j]? with|some d=>R.ok (⟨d,false,true&&!noL d,[]⟩:Vl)|none=>.bad)|none=>.bad)=_;rw[gA (by rw[lM];exact((Ao.mp hM).1))];show(match (F.map cV)[s]? with|some d=>R.ok (⟨d,false,true&&!noL d,[]⟩:Vl)|none=>.bad)=_;rw[A7,hM];rfl
 have hw:walk pg (cP (n+33)) (fmS bs g hs L F I SM U s7) (.rng eC0 (.op .Sub (.bi .len (eL1 eV1)) eC1))=.ok ((Ar (L.length-1)).map (λ(i:Nat)=>Vl.cl (aI i)),[]):=by have ln:=dC (aK (P:=pg) (W:=cP (n+33)) (Z:=fmS bs g hs L F I SM U s7) 1 rfl) rfl;rw[lM] at ln;rw[sH,aC,aA,dI ln (aC (.i 1)) (sub_int _ 1),aA];show R.iff (aM 0&&aM ((L.length:Int)-1)) (R.ok ((gI 0 ((L.length:Int)-1)).map Vl.cl,[]))=_;rw[show aM ((L.length:Int)-1)=true from kX (by omega) (by omega),aCo,show(true&&true)=true from rfl,lK,aCM,show((L.length:Int)-1-0).toNat=L.length-1 by omega];refine congrArg R.ok (congrArg (·,[]) (AX λi _=>?_));rw[Jc]
 obtain⟨Z',ef,E,u6,u7,f',q,rfl⟩:=cS (t:=.n 6) (λi Z=>∃E u6 u7,Fs hs L (F++E)/\(∀j,j<i->tH hs (F++E) M j)/\Z=fmS bs g hs L (F++E) I SM u6 u7) hw ⟨[],U,s7,by rw[AO];exact f,λj h=>absurd h (Cj j),by rw[AO];rfl⟩ λi hi Z ⟨E,u6,u7,f',q,q2⟩=>by
  have hi:i<L.length-1:=by simpa using hi
  subst q2;obtain⟨E2,v7,f2,n2,e2⟩:=aPm n l4 o q1 h8 q0 f' (i:=i) (by omega) I U u7;refine⟨fmS bs g hs L (F++E) I SM (.F (aI i)) u7,fmS bs g hs L (F++E++E2) I SM (.F (aI i)) v7,?_,e2,E++E2,.F (aI i),v7,by rw[<-AU];exact f2,λj hj=>?_,by rw[<-AU]⟩;rw[AD,Bd];exact dW _;rw[<-AU];by_cases e:j=i;rw[e];exact n2;exact(q j (by omega)).mono
 refine⟨E,SM,u6,u7,f',λi=>?_,cs k1 (cs ef (bG (aT (dB (aD (d:=aI s) 4 rfl) (aC (.i 1))))))⟩;by_cases hi:i<L.length-1;exact q i (by simpa using hi);intro x y _ h2 _;have:=(Ao.mp h2).1;omega
noncomputable def fmT:E:=match hdS (drp 3 f60.body) with|.whl c _=>c|_=>.c .non
theorem xY{W:Caller}{L:List Tk3}{F:List (List Tk3)}{s:Nat}(I U s7:Sl):tst pg W (fmS bs g hs L F (.F (aI s)) I U s7) fmT=.ok (decide (s<F.length)):=by have q:=dC (aV (P:=pg) (W:=W) (Z:=fmS bs g hs L F (.F (aI s)) I U s7) 2 rfl) rfl;rw[lM] at q;refine bO (aD 4 rfl) q (congrArg some ?_);rw[Hf];omega
theorem aJf(n:Nat)(l4:bs.length<=4)(o:dL bs.length hs){L:List Tk3}(q1:lL hs L)(h8:L.length<8):∀(k:Nat) (F:List (List Tk3)) (s I:Nat) (s5 s6 s7:Sl),Fs hs L F->(∀j M,j<s->F[j]? = some M->∀i,tH hs F M i)->823543<=s+k->k<I ->
 ∃G' s4 u5 u6 u7,Fs hs L G'/\(∀M∈G',∀i,tH hs G' M i)/\jM (λZ=>tst pg (cP (n+33)) Z fmT) (λZ=>exs pg (cP (n+33)) Z fmW) I (fmS bs g hs L F (.F (aI s)) s5 s6 s7)=.next (fmS bs g hs L G' s4 u5 u6 u7):=by
 intro k
 induction k with
 | zero=>
  intro F s I s5 s6 s7 f c hk hf;obtain⟨I,rfl⟩:∃q,I=q+1:=⟨I-1,by omega⟩
  have few:=f.few h8;refine⟨F,_,_,_,_,f,λM hM=>?_,kD _ ((xY s5 s6 s7).trans (congrArg R.ok (A5 (by omega))))⟩;obtain⟨j,hj⟩:=Bv hM;exact c j M (by have:=(Ao.mp hj).1;omega) hj
 | succ k ih=>
  intro F s I s5 s6 s7 f c hk hf;obtain⟨I,rfl⟩:∃q,I=q+1:=⟨I-1,by omega⟩
  by_cases W:s<F.length;obtain⟨M,hM⟩:∃M,F[s]? = some M:=⟨_,Ad W⟩
  obtain⟨E,u5,u6,u7,f2,q0,e2⟩:=aJe n l4 o q1 h8 f hM s5 s6 s7;obtain⟨G',t4,t5,t6,t7,g1,g2,g3⟩:=ih (F++E) (s+1) I u5 u6 u7 f2 (λj M' hj U=>by
   rw[Be (by omega)] at U;by_cases e:j=s;subst e;rw[hM] at U;cases U;exact q0;exact λi=>(c j M' (by omega) U i).mono) (by omega) (by omega)
  exact⟨G',t4,t5,t6,t7,g1,g2,(tF _ ((xY s5 s6 s7).trans (congrArg R.ok (Am W))) e2).trans g3⟩;refine⟨F,_,_,_,_,f,λM hM=>?_,kD _ ((xY s5 s6 s7).trans (congrArg R.ok (A5 W)))⟩;obtain⟨j,hj⟩:=Bv hM;exact c j M (by have:=(Ao.mp hj).1;omega) hj
theorem aEx(n:Nat)(l4:bs.length<=4)(o:dL bs.length hs){L:List Tk3}(W:lL hs L)(h8:L.length<8) :
 ∃I,Fs hs L I/\(∀M∈I,∀i,tH hs I M i)/\cP (n+34) 60 [aR bs g hs,cV L]=.ok (.lst (I.map cV),true,true):=by
 let U:Sg:=[.T (aR bs g hs),.T (cV L),.x,.x,.x,.x,.x,.x]
 let q:Sg:=[.T (aR bs g hs),.T (cV L),.own true ([L].map cV),.x,.x,.x,.x,.x]
 have k1:ex pg (cP (n+33)) U (hdS f60.body)=.next q:=by show ex pg (cP (n+33)) U (.set (.n 2) (.lst (eL1 eV1)))=_;rw[jU,aGn,aJ,show ev pg (cP (n+33)) U eV1=.ok ⟨cV L,false,true,[]⟩ from aK 1 rfl,aA,cB];rfl
 have k2:ex pg (cP (n+33)) q (hdS (drp 1 f60.body))=.next (fmS bs g hs L [L] .x .x .x .x):=by
  show O.from q (ev pg (cP (n+33)) q (.bi .tuple (eL1 eV1))) (λv=>O.from q (ev pg (cP (n+33)) q (.c (.bl true))) λw=>match vY v.d with
   | some k=>if vZ w.d=true then .next (q.set 3 (.dct [(k,w.d)])) else .bad|none=>.bad)=_
  rw[aHt (aK 1 rfl) rfl (iU L),cA,aC,cA];show(match gR (L.map t3D) with|some k=>if vZ (.bl true)=true then O.next (q.set 3 (.dct [(k,.bl true)])) else .bad|none=>.bad)=_;rw[qK];rfl
 obtain⟨I,s4,u5,u6,u7,g1,g2,g3⟩:=aJf n l4 o W h8 823543 [L] 0 pD .x .x .x (⟨by simp,λM h=>by rw[A0.mp h];exact Tr.refl L,A0.mpr rfl⟩) (λj M h=>absurd h (Cj j)) (by omega) (by unfold pD;omega);exact⟨I,g1,g2,aH (F:=f60) rfl rfl (cs k1 (cs k2 (cs rfl (cs g3 (mE rfl)))))⟩
theorem aCY:∀ps:List (Nat×Nat),gR (ps.map aL)=some (ps.map k2)
 | []=>rfl|p::ps=>by rw[mC];show(match dG [aI p.1,aI p.2],gR (ps.map aL) with|some k,some ks=>some (k::ks)|_,_=>none)=_;rw[aCY ps];rfl
theorem aCZ:∀ws:List (List (Nat×Nat)),qX (ws.map cT)=some (ws.map (Dk k2))
 | []=>rfl|w::ws=>by rw[mC];show(match gR (w.map aL),qX (ws.map cT) with|some k,some ks=>some (k::ks)|_,_=>none)=_;rw[aCZ ws,aCY];rfl
theorem aAt(n:Nat)(l4:bs.length<=4)(o:dL bs.length hs){L:List Tk3}(q0:lL hs L)(h8:L.length<8):cP (n+35) 61 [aR bs g hs,cV L]=.ok (cT ((lst hs L).map aY),false,false):=by
 obtain⟨q,g1,g2,g3⟩:=aEx n l4 o q0 h8;have few:=g1.few h8
 let I:Sl->Sl->Sg:=λs2 W=>[.T (aR bs g hs),.T (cV L),s2,W]
 let ws:=q.map (Dk aY)
 have hw:walk pg (cP (n+34)) (I (.O []) .x) (.seq (.call 60 (eL2 eV0 eV1)))=.ok (q.map (λM=>(⟨cV M,false,true,[]⟩:Vl)),[]):=by
  have e:evs pg (cP (n+34)) (I (.O []) .x) (eL2 eV0 eV1)=.ok [⟨aR bs g hs,false,true,[]⟩,⟨cV L,false,true,[]⟩]:=by rw[aJ,jF rfl,aA,aJ,show ev pg (cP (n+34)) (I (.O []) .x) eV1=.ok ⟨cV L,false,true,[]⟩ from aK 1 rfl,aA,cB];rfl
  rw[bQ,eY,e,aA];show((cP (n+34) 60 [aR bs g hs,cV L] >>= λr=>R.ok (iW _ r)) >>= λx=>_)=_;rw[g3,aA,aA];show R.ok (items ⟨.lst (q.map cV),true,true,[]⟩ (q.map cV),[])=_;unfold items;rw[Aw];rfl
 obtain⟨Z',ef,W,rfl⟩:=cS (t:=.n 3) (b:=match hdS (drp 1 f61.body) with|.for _ _ b=>b|_=>.z) (λi Z=>∃W,Z=I (.O ((ws.take i).map cT)) W) hw ⟨_,rfl⟩ λi hi Z ⟨W,q2⟩=>by
  have hi:i<q.length:=by simpa using hi
  subst q2;obtain⟨M,U⟩:∃M,q[i]? = some M:=⟨_,Ad hi⟩
  have q3:M.length<8:=by rw[<-(g1.tr M (mG U)).len];exact h8
  let μ:=I (.O ((ws.take i).map cT)) (.T (cV M))
  have wk:walk pg (cP (n+34)) μ (.seq eV3)=.ok (M.map (λt=>Vl.cl (t3D t)),[]):=by rw[bQ,show ev pg (cP (n+34)) μ eV3=.ok ⟨cV M,false,true,[]⟩ from aK 3 rfl,aA];show R.ok (items _ (M.map t3D),[])=_;rw[cE (λ_=>rfl)]
  have q1:ws[i]? = some (M.map aY):=by show(q.map (Dk aY))[i]? = _;rw[A7,U];rfl
  refine⟨μ,I (.O ((ws.take (i+1)).map cT)) (.T (cV M)),?_,bG (gN (eP (λt=>Vl.cl (t3D t)) (λt=>aL (aY t)) (λ_=>rfl) wk (by unfold lim;omega) λt _=>⟨[.F (aI t.1),.F (aI t.2.1),.F (aI t.2.2)],aJC _ rfl rfl rfl,jE (aD 0 rfl) (aD 2 rfl)⟩) rfl (by rw[lM,A9];unfold lim;show min i (q.map (Dk aY)).length<_;rw[lM];omega) rfl ?_),_,rfl⟩;have:(q.map (λM=>(⟨cV M,false,true,[]⟩:Vl)))[i]'(by rw[lM];exact hi)=⟨cV M,false,true,[]⟩:=by rw[AD];rw[(Ao.mp U).2]
  rw[this];rfl;rw[fL cT ws [] (by show i<(q.map (Dk aY)).length;rw[lM];exact hi),Ag,q1];rw[show(λt=>aL (aY t))=aL∘aY from rfl,<-Aw];rfl
 have e3:(ws.take ((q.map (λM=>(⟨cV M,false,true,[]⟩:Vl))).length)).map cT=ws.map cT:=by rw[lM,Bz (by show(q.map (Dk aY)).length<=_;rw[lM];exact Ap _)]
 rw[e3] at ef;have mf:=aEv (F:=(lst hs L).map aY) (AH.mpr ⟨_,(Fs.wk (L:=L) g2 (T:=trs hs L) (by have:=aBB (key:=aY) (iG (hs:=hs)) L.length [] L rfl;unfold trs lst;simpa using this) g1.me),rfl⟩) λw hw=>by obtain⟨M,U,rfl⟩:=AH.mp hw;have t:=g1.tr M U;have:=aAp (iG (hs:=hs)) xT xU M.length rfl;rw[<-xS iG xT xU M.length (t.len) t] at this;rw[show lst hs L=norm (apT hs) aY M.length L by unfold lst;rw[t.len]];exact this
 have em:biD .min [⟨.lst (ws.map cT),false,false,[2]⟩]=.ok ⟨cT ((lst hs L).map aY),false,false,[2]⟩:=by show(match qX (ws.map cT) with|some ks=>(match (ws.map cT)[minIx ks]? with|some d=>R.ok (Vl.sub ⟨.lst (ws.map cT),false,false,[2]⟩ d)|none=>.bad)|none=>.bad)=_;rw[aCZ];show(match (ws.map cT)[minIx (ws.map (Dk k2))]? with|some d=>R.ok (Vl.sub ⟨.lst (ws.map cT),false,false,[2]⟩ d)|none=>.bad)=_;rw[A7,mf];rfl
 exact aH (F:=f61) rfl rfl (cs rfl (cs ef (bE (dA (aV 2 rfl) em))))
variable {bs:List (Str×Int)} {g:Cn} {hs:W3}
theorem aMC{P:Pg}{W:Caller}{Z:Sg}(i:Nat){d:D}(h:Z[i]? = some (.T d))(n:noL d=false):ev P W Z (.v i)=.ok ⟨d,false,true,[]⟩:=by show cX Z i=_;unfold cX;rw[h];unfold Sl.val;simp[n]
theorem aEy(n:Nat){F:List (Nat×Nat)}{T:List Int}{m:Nat}(hT:2*T.length<=m*(m-1))(hm:m<=100):cP (n+1) 62 [.tup [cT F,.lst (T.map D.int)],.i (m:Int)]=.ok (.bl true,false,false):=by
 let Z:Sg:=[.T (.tup [cT F,.lst (T.map D.int)]),.T (.i (m:Int))]
 have q:ev pg (cP n) Z eV0=.ok ⟨.tup [cT F,.lst (T.map D.int)],false,true,[]⟩:=aMC 0 rfl rfl;have U:ev pg (cP n) Z eV1=.ok (.cl (.i (m:Int))):=aN 1 rfl rfl;have hl:T.length<=10000:=by have:m*(m-1)<=100*100:=Iq hm (by omega);omega
 have I:=dC (aZ q (aC (.i 1)) rfl) rfl;rw[lM] at I;have W:=dI (aC (.i 2)) I (mul_int (by
  simp only[gH,BG,bA,AR];left;omega))
 have a2:=dI U (dI U (aC (.i 1)) (sub_int _ 1)) (mul_int (by
  simp only[gH,BG,bA,AR];left;omega))
 refine aH (F:=f62) rfl rfl (v:=.cl (.bl true)) (cs (bJ (dX (dH (eB q rfl)) (bO (dA q rfl) (aC (.i 2)) rfl))) (cs (bJ (dX (dH (eB (aZ q (aC (.i 0)) rfl) rfl)) (dH (eB (aZ q (aC (.i 1)) rfl) rfl)))) (bE (nB W a2 ?_))));refine congrArg some (Am ?_);rcases Nat.eq_zero_or_pos m with z|z;subst z;omega
 . rw[show(m:Int)-1=((m-1:Nat):Int) by omega]
   exact_mod_cast hT
theorem aJg{A B:List Tk3}{x y:Tk3}:tsw A.length (A++x::y::B)=A++y::x::B:=by unfold tsw;rw[Ag,Ag,AB (Ap _),AB (by omega),H0,List.drop_append,List.drop_eq_nil_of_le (by omega),DM,show A.length+1-A.length=1 by omega,show A.length+2-A.length=2 by omega];simp;rfl
theorem Wk.wov(l4:bs.length<=4)(o:dL bs.length hs){s0:St}{T:List Int}{L M:List Tk3}(w:Wk (apT hs) T L M):(∃ps ss,Wov bs hs s0 ps ss/\trL ps ss s0=L)->∃ps ss,Wov bs hs s0 ps ss/\trL ps ss s0=M:=by
 induction w with
 | nil=>exact id|@cons T A B M x y h _ ih=>
  rintro ⟨ps,ss,U,e⟩;have q:A.length+1<ps.length:=by rw[<-eE,e];simp
  have ex:trT ps ss s0 A.length=x:=by have:=hX (ss:=ss) (s0:=s0) (show A.length<ps.length by omega);rw[e,AB (Ap _),DM] at this;exact(AF this).symm
  have W:trT ps ss s0 (A.length+1)=y:=by have:=hX (ss:=ss) (s0:=s0) q;rw[e,AB (by omega),show A.length+1-A.length=1 by omega] at this;exact(AF this).symm
  rw[<-ex,<-W] at h;obtain⟨c,I,_⟩:=U.swap l4 o q h;refine ih ⟨_,_,I,?_⟩;rw[aHr o U q I (xT _ _ h),e];exact aJg
theorem aHu{L:List Tk3}:Wk (apT hs) (trs hs L) L (lst hs L):=by have:=aBB (key:=aY) (iG (hs:=hs)) L.length [] L rfl;unfold trs lst;simpa using this
theorem qL{L:List Tk3}:(lst hs L).length=L.length:=(Tr.norm iG L.length rfl).len
theorem aJh{L:List Tk3}:lst hs (lst hs L)=lst hs L:=by have:=xS (iG) xT xU (lst hs L).length rfl (Tr.norm iG L.length rfl);show norm (apT hs) aY (lst hs L).length (lst hs L)=_;rw[this,qL];rfl
theorem aJi(U:bs.length<=4)(o:dL bs.length hs){s0:St}{ps:List (Nat×Nat)}{ss:List St}(I:Wov bs hs s0 ps ss):∃us,Wov bs hs s0 ((lst hs (trL ps ss s0)).map aY) us/\trL ((lst hs (trL ps ss s0)).map aY) us s0=lst hs (trL ps ss s0):=by obtain⟨W,us,q,e⟩:=Wk.wov U o aHu ⟨ps,ss,I,rfl⟩;have k:=aIY (ps:=W) (ss:=us) (s0:=s0);rw[e] at k;rw[k];exact⟨us,q,e⟩
section
variable {P:Pg} {W:Caller} {Z:Sg}
theorem aPn{i:Nat}{a:E}{x:Vl}{as bs:List D}(e:Z[i]? = some (.two (as,bs)))(h:ev P W (Z.set i (.F (.tup [.lst as,.lst bs]))) a=.ok x)(c:lQ x=true):ev P W Z (.hid i a)=.ok ⟨x.d,x.fr,false,[]⟩:=by show(match Z[i]? with|some (.two (as,bs))=>(ev P W (Z.set i (.F (.tup [.lst as,.lst bs]))) a >>= λx=>R.iff (lQ x) (R.ok (⟨x.d,x.fr,false,[]⟩:Vl)))|_=>.bad)=_;rw[e];show(ev P W (Z.set i (.F (.tup [.lst as,.lst bs]))) a >>= λx=>R.iff (lQ x) (R.ok (⟨x.d,x.fr,false,[]⟩:Vl)))=_;rw[h,aA,c,lK]
theorem tJ{i:Nat}{a:E}{k:Bool}{as bs:List D}(e:Z[i]? = some (.two (as,bs)))(h:tst P W (Z.set i (.F (.tup [.lst as,.lst bs]))) a=.ok k):tst P W Z (.hid i a)=.ok k:=by show(match Z[i]? with|some (.two (as,bs))=>tst P W (Z.set i (.F (.tup [.lst as,.lst bs]))) a|_=>.bad)=_;rw[e];exact h
theorem aAu{f:Nat}{a b c:E}{x y z:Vl}{ds:List D}(h1:ev P W Z a=.ok x)(h2:ev P W Z b=.ok y)(q:ev P W Z c=.ok z)(I:W f [x.d,y.d,z.d]=.ok (.tup ds,true,false)):ev P W Z (.call f (.k a (.k b (.k c .z))))=.ok (.cl (.tup ds)):=by
 have e:evs P W Z (.k a (.k b (.k c .z)))=.ok [x,y,z]:=by rw[aJ,h1,aA,aJ,h2,aA,aJ,q,aA,cB];rfl
 rw[eY,e,aA,show [x,y,z].map (·.d)=[x.d,y.d,z.d] from rfl,I];rfl
theorem aMD{i f:Nat}{a b c:E}{x y z:Vl}{as bs:List D}(h1:ev P W Z a=.ok x)(h2:ev P W Z b=.ok y)(q:ev P W Z c=.ok z)(I:W f [x.d,y.d,z.d]=.ok (.tup [.lst as,.lst bs],true,false))(n:qW Z=true):ex P W Z (.tld i f (.k a (.k b (.k c .z))))=.next (Z.set i (.two (as,bs))):=by
 have e:evs P W Z (.k a (.k b (.k c .z)))=.ok [x,y,z]:=by rw[aJ,h1,aA,aJ,h2,aA,aJ,q,aA,cB];rfl
 show(O.from Z (evs P W Z (.k a (.k b (.k c .z)))) λvs=>O.from Z (W f (vs.map (·.d))) λr=>match r with
  | (.tup [.lst as,.lst bs],true,false)=>if qW Z=true then .next (Z.set i (.two (as,bs))) else .bad|_=>.bad)=_
 rw[e,cA,show [x,y,z].map (·.d)=[x.d,y.d,z.d] from rfl,I,cA];show(if qW Z=true then O.next (Z.set i (.two (as,bs))) else .bad)=_;rw[if_pos n]
theorem aME{i:Nat}{e:E}{d:D}{as bs:List D}(h:ev P W Z e=.ok (.cl d))(I:noL d=true)(hi:Z[i]? = some (.two (as,bs)))(q:as.length<lim):ex P W Z (.appP i 0 e)=.next (Z.set i (.two (as++[d],bs))):=by
 show(O.from Z (ev P W Z e) λv=>match Z[i]?,noL v.d with
  | some (.two (as,bs)),true=>if 0=0/\as.length<lim then .next (Z.set i (.two (as++[v.d],bs))) else if 0=1/\bs.length<lim then .next (Z.set i (.two (as,bs++[v.d]))) else .bad|_,_=>.bad)=_
 rw[h,cA,hi,show noL (Vl.cl d).d=true from I];show(if 0=0/\as.length<lim then O.next (Z.set i (.two (as++[d],bs))) else _)=_;rw[if_pos ⟨rfl,q⟩]
theorem aMF{i:Nat}{e:E}{d:D}{as bs:List D}(h:ev P W Z e=.ok (.cl d))(I:noL d=true)(hi:Z[i]? = some (.two (as,bs)))(q:bs.length<lim):ex P W Z (.appP i 1 e)=.next (Z.set i (.two (as,bs++[d]))):=by
 show(O.from Z (ev P W Z e) λv=>match Z[i]?,noL v.d with
  | some (.two (as,bs)),true=>if 1=0/\as.length<lim then .next (Z.set i (.two (as++[v.d],bs))) else if 1=1/\bs.length<lim then .next (Z.set i (.two (as,bs++[v.d]))) else .bad|_,_=>.bad)=_
 rw[h,cA,hi,show noL (Vl.cl d).d=true from I];show(if 1=0/\as.length<lim then _ else if 1=1/\bs.length<lim then O.next (Z.set i (.two (as,bs++[d]))) else _)=_;rw[if_neg (λz=>absurd z.1 (by decide)),if_pos ⟨rfl,q⟩]
end
theorem aHv(i:Nat)(ds:List D)(h:noLs ds=true):biD .list [⟨.lst ds,false,false,[i]⟩]=.ok ⟨.lst ds,true,false,[]⟩:=by show R.ok (Vl.mk (.lst ds) true (false&&!noLs ds) (if noLs ds=true then [] else [i]))=_;rw[h];rfl
theorem aHw(ds:List D)(h:noLs ds=true):biD .list [.cl (.lst ds)]=.ok ⟨.lst ds,true,false,[]⟩:=by show R.ok (Vl.mk (.lst ds) true (false&&!noLs ds) (if noLs ds=true then [] else []))=_;rw[h];rfl
theorem aAv(F:List (Nat×Nat)):eqD (cT F) (cT F)=some true:=by rw[aPl,Am rfl]
theorem pure(ns:List Int)(hn:ns.length<=63):∃fr pa,cP 60 63 [.lst (ns.map D.int)]=.ok (.bl true,fr,pa):=by
 refine⟨false,false,aH rfl rfl (v:=.cl (.bl true)) ?_⟩;obtain⟨bs,hb,p,hs,o,q3⟩:=aBp 17 hn;obtain⟨st,q0,hg,q4⟩:=aEk 26 hb hn p;obtain⟨gw,gz⟩:=aAh hb p;obtain⟨l3,l4⟩:=fK hb
 let x0:=(ns++[0]).getD 0 0
 obtain⟨q,hq,w6⟩:=aEc ((pR x0 11).getD 10 0) (n:=15) (by decide)
 let H:D:=aR bs (dQ p) hs
 let s0:St:=(st,cM hs)
 let N:Sl:=.T (.lst (ns.map D.int))
 let I:Sl->Sl->Sl->Sl->Sl->Sl->Sg:=λs3 s4 s5 s6 s7 s8=>[N,.F H,.F (aS st),s3,s4,s5,s6,s7,s8]
 have v1:∀s3 s4 s5 s6 s7 s8,ev pg (cP 59) (I s3 s4 s5 s6 s7 s8) eV1=.ok (.cl H):=λ_ _ _ _ _ _=>aD 1 rfl;have v2:∀s3 s4 s5 s6 s7 s8,ev pg (cP 59) (I s3 s4 s5 s6 s7 s8) eV2=.ok (.cl (aS st)):=λ_ _ _ _ _ _=>aD 2 rfl;have xx:∀s3,ev pg (cP 59) (I s3 .x .x .x .x .x) (.idx (.op .Add eV0 (.lst (eL1 eC0))) eC0)=.ok (.cl (.i x0)):=λs3=>nN hn (by decide) rfl (aF (aC _) bB) (aC _) (by simp);have k3:ex pg (cP 59) (I .x .x .x .x .x .x) (hdS (drp 2 f63.body))=.next (I (.F (.i (q:Int))) .x .x .x .x .x):=by have q6:ev pg (cP 59) (I .x .x .x .x .x .x) (.call 43 (eL2 (.idx (.op .Add eV0 (.lst (eL1 eC0))) eC0) aEa))=.ok ⟨.lst ((pR x0 11).map D.int),true,false,[]⟩:=dK (xx _) (aC (.i 11)) (gD rfl 58 _ (by decide));have em:=fB (fP (k:=10) q6 rfl (aC _) (by rw[iN];decide)) (aC (.i 15)) (by decide);rw[show(15:Int)=((15:Nat):Int) from rfl,hq] at em;exact aT em
 have k4:∃m:Nat,m<=60/\ex pg (cP 59) (I (.F (.i (q:Int))) .x .x .x .x .x) (hdS (drp 3 f63.body))=.next (I (.F (.i (m:Int))) .x .x .x .x .x):=by have te:=bO (o:=.Eq) (k:=decide (x0 % 8=3)) (fB (xx (.F (.i (q:Int)))) (aC (.i 8)) (by decide)) (aC (.i 3)) rfl;by_cases z:x0 % 8=3;rw[Am z] at te;exact⟨60,Ap _,nH te (bG (aT (aC (.i 60))))⟩;rw[A5 z] at te;exact⟨q,by omega,bJ te⟩
 obtain⟨m,hm,k4⟩:=k4;obtain⟨ps,ss,W0,pl,q5⟩:=aEn 24 hb o hn q0 (a:=4) (m:=m) (by decide) (by omega)
 let L:=trL ps ss s0
 have hl:L.length<=60:=by show(trL ps ss s0).length<=60;rw[eE];omega
 let F:=(lst hs L).map aY
 obtain⟨us,V,eV⟩:=aJi l4 o W0;have eV:trL F us s0=lst hs L:=eV;have V:Wov bs hs s0 F us:=V;have fl:F.length<=60:=by show((lst hs L).map aY).length<=60;rw[lM,qL];exact hl
 let U:Sl:=.F (.i (m:Int))
 let A:Sl:=.O (ps.map aL)
 let T5:Sl:=.O (L.map t3D)
 have q1:=vH 23 hb o gw gz q0 hg W0 (by omega)
 let B:=(trs hs L).map D.int
 let T7:Sl:=.two (F.map aL,B)
 let X7:Sl:=.F (.tup [cT F,.lst B])
 have w0:ev pg (cP 59) (I U A T5 A X7 .x) (.idx eV7 eC0)=.ok (.cl (cT F)):=aZ (aD 7 rfl) (aC (.i 0)) rfl;have ln:∀s7,ev pg (cP 59) (I U A T5 A s7 .x) (.bi .len (eL1 eV4))=.ok (.cl (.i ps.length)):=λs7=>by have:=dC (aV (P:=pg) (W:=cP 59) (Z:=I U A T5 A s7 .x) 4 rfl) rfl;rw[lM] at this;exact this
 have k9:ex pg (cP 59) (I U A T5 A T7 .x) (hdS (drp 8 f63.body))=.next (I U A T5 A T7 .x):=by refine bJ (dX (bO (aV 6 rfl) (aV 4 rfl) (aCB (aAv ps))) (dH (k:=true) (tJ rfl (xV (aD 7 rfl) (ln X7) (aEy 58 ?_ (by omega))))));have:=xW (ap:=apT hs) (key:=aY) L.length 0 L rfl;rw[<-eE];exact this
 have q8:ex pg (cP 59) (I U A T5 A T7 .x) (hdS (drp 9 f63.body))=.next (I U A T5 A T7 .x):=
  bJ (tJ rfl (bO (fN (v1 _ _ _ _ _ _) (aV 5 rfl) (aZ (aD 7 rfl) (aC (.i 1)) rfl) (aBC 25 l4 o aHu (by omega) (by rw[qL];omega) (λt ht=>xX o W0 ht))) w0 (aCB (aAv F))))
 have lt2:=pK 23 hb o gw gz q0 hg V (by omega);rw[eV] at lt2;have q9:ex pg (cP 59) (I U A T5 A T7 .x) (hdS (drp 10 f63.body))=.next (I U A T5 A T7 .x):=
  bJ (dH (k:=true) (tJ rfl (xV (v1 _ _ _ _ _ _) (fN (v1 _ _ _ _ _ _) (v2 _ _ _ _ _ _) w0 lt2) (aAs 25 l4 o (λt ht=>xX o V (by rw[eV];exact ht)) (by rw[qL];omega) aBD))))
 have w3:ex pg (cP 59) (I U A T5 A T7 .x) (hdS (drp 11 f63.body))=.next (I U A T5 A T7 .x):=by have t8:=bO (o:=.Lt) (ln T7) (aC (.i 8)) rfl;by_cases z:(ps.length:Int)<8;rw[Am z] at t8;exact bJ (aGD t8 (tJ rfl (bO (eO (v1 _ _ _ _ _ _) (aV 5 rfl) (aAt 24 l4 o (λt ht=>xX o W0 ht) (by show(trL ps ss s0).length<8;rw[eE];omega))) w0 (aCB (aAv F)))));rw[A5 z] at t8;exact bJ (aJK t8)
 have q2:=vH 23 hb o gw gz q0 hg V (by omega);rw[eV,aJh] at q2;have w4:ex pg (cP 59) (I U A T5 A T7 .x) (hdS (drp 12 f63.body))=.next (I U A T5 A T7 .x):=
  bJ (tJ rfl (bO (aZ (aAu (v1 _ _ _ _ _ _) (v2 _ _ _ _ _ _) w0 q2) (aC (.i 0)) rfl) w0 (aCB (aAv F))))
 let S8:Sl:=.O (F.map aL)
 have w5:ex pg (cP 59) (I U A T5 A T7 .x) (hdS (drp 13 f63.body))=.next (I U A T5 A T7 S8):=
  bK (aPn rfl (dA w0 (aHw _ (tG F))) (tG F))
 have hB:B.length<lim:=by have:=xW (ap:=apT hs) (key:=aY) L.length 0 L rfl;have q:L.length*(L.length-1)<=60*60:=Iq hl (by omega);rw[lM];unfold lim trs;omega
 have q7:exs pg (cP 59) (I U A T5 A (.two (F.map aL++[.non],B++[.non])) S8) (drp 16 f63.body)=.ret (.cl (.bl true)):=
  bE (nB (aZ (aAu (v1 _ _ _ _ _ _) (v2 _ _ _ _ _ _) (aV 6 rfl) q1) (aC (.i 0)) rfl) (aV 8 rfl) (aAv F))
 exact cs (aT (cQ (aK 0 rfl) q3)) (cs (aT (eO (aK 0 rfl) (aD 1 rfl) q4)) (cs k3 (cs k4 (cs (bK (aAe (aK 0 rfl) (v1 _ _ _ _ _ _) (v2 _ _ _ _ _ _) (aC (.i 4)) (aD 3 rfl) q5)) (cs (bK (fN (v1 _ _ _ _ _ _) (v2 _ _ _ _ _ _) (aV 4 rfl) (pK 23 hb o gw gz q0 hg W0 (by omega)))) (cs (bK (dA (aV 4 rfl) (aHv 4 _ (tG ps)))) (cs (aMD (v1 _ _ _ _ _ _) (v2 _ _ _ _ _ _) (aV 6 rfl) q1 rfl) (cs k9 (cs q8 (cs q9 (cs w3 (cs w4 (cs w5 (cs (aME (aC .non) rfl rfl (by rw[lM];unfold lim;omega)) (cs (aMF (aC .non) rfl rfl hB) q7)))))))))))))))
end K67
end
noncomputable section
open PySem PySem.W PyProof.Rows Hh
set_option maxRecDepth 100000 in
set_option maxHeartbeats 0 in
theorem PySem.Challenge.cw_handpromise_k67_least_form_holds : PySem.Challenge.rw_handpromise_k67_least_form.Holds := by
 refine holds_law K67.ws λ said => ?_;refine aLQ (l := CC) (k := 59) (f := 63) (x := "_law_script") (sl := ["_law_house_here", "_law_start_here", "_law_many", "_law_steps_here", "_law_told", "_law_handed", "_law_found", "_law_held"]) said K67.lft (by kernel_rfl) (by kernel_rfl) rfl rfl (by decide +kernel) ⟨rfl, rfl, rfl, rfl, rfl, by decide +kernel⟩ ?hw rfl rfl (by decide +kernel) (by decide +kernel) K67.chk rfl (by decide +kernel) ⟨rfl, rfl, by decide, by decide⟩ (by kernel_rfl) rfl K67.pure
 w_witness2
end
