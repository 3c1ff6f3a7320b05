import PyProof.Rows.All
import Wide.All
import OpenK.AllK
import Wide.FinOn
import Lean
import PyProof.EqAt
import PyProof.EqKinds
import PyProof.TupleCall
import PySem.Syntax
import PySem.Builtin.Str.Common
import PyProof.ReprReads
import PyProof.NeKinds
import PyProof.StrLaws
import PyProof.ReprRoads
import PyProof.FitsInt
import KE.KIsAll
import PyProof.Rows.SetFrom
import PyProof.SetRoads
import PyProof.ZipIter
import PyProof.StrWalks
import PyProof.EnumFor
import PyProof.EnumStmt
import PyProof.DictTable
import PyProof.ListNew
import PyProof.Rows.Range3
import PySem.Challenge.RW_handpromise_k76_rows_made
set_option genSizeOf false
set_option genInjectivity false
set_option bootstrap.genMatcherCode false
set_option Elab.async false
set_option linter.all false
open PySem renaming wpAny_bind->Aa,Shared->Ae,Expr->Ah,wpAny_pure->Ar,wpAny->Au,Program->Av,model->A3,World->AG,wpAny_field->AL,starEach->AN,wpAny_setField_rec->AQ,wpAny_callSpecial?_slot->AU,Around->AY,mainGlobals->AZ,mem_of_lookup->Bg,wpAny_truthy_bool->Bq,Stmt->Br,compareOp->Bt,wpAny_call_entry->Bu,sizeLine_eq->B1,NameKind->B2,foldedSetIterable->B4,wpAny_newObj_type->B6,bootBuiltins->BA,IsPair->BC,wpAny_seqItems->BI,wpAny_passesOwn->BK,Pos->BX,binaryOp->BY,wpAny_mono->Cd,assignEach->Ce,wpAny_Call_Name_kw->Cg,Scope->Cu,wpAny_pyIter_list->Cv,FuncData->Cy,eval->C3,wpAny_execs_nil->CA,sliceBounds->CF,call_meets->CT,wpAny_holding->CV,wpAny_updateSeq_pair->CZ,letOwnedTupleGo->Da,PassesOwn->Dk,DictEntry->Dl,sysModules->Dm,backTo->Dp,IsZip->Dw,pyNext->D5,wpAny_comprehension_free->D6,wpAny_onRaise->D7,wpAny_attempt->D8,noFill_tuple_add->DC,assign->DL,Builtin->DM,codeAny->DN,concat_meets->DQ,IsPart->DR,getItem->DS,wpAny_Call_method_late->DU,callerA->DX,wpAny_rule->DY,valueAt->DZ,IsEnum->Ea,importedModules->Eh,rawInt->Em,field->Er,wpAny_letGo->Eu,Arguments->Ex,wpAny_standAt->E6,behindInMarks->E7,seq_tuple_add->E8,Paired->EC,builtinsNs->ED,wpAny_pyIter_tuple->EK,wpAny_assign_Name->ET,codeAny_mono->EV,wpAny_sequenceKey->EW,wpAny_typeOf->EX,seqIndex_neg->EY,slot_list_getitem->EZ,list_append->Fa,ZipApart->Fe,wpAny_pyIter_enum->Fh,wpAny_execs_cons->Fl,wpAny_isInstance->Fv,wpAny_pyIter_zip->Fw,IsEnumOut->Fx,treeTable->Fy,seqIndex_of->F5,holding->FD,relabel->FF,OsState->FG,GenState->FJ,isTrue->FK,wpAny_Name->FL,recursionLimit->FM,Result->FN,bindArgs->FO,bindL->FP,bindC->FQ,typeIs_int->FU,Params->FW,call->FX,wpAny_setField->Gc,firstArgMember->Gd,wpAny_newTuple->Ge,isSubtype_stop->Gf,Thread->Gh,Env->Go,intBits_le_64->Gp,evalPart_none->Gr,call_list_seq->Gu,attributeBase->Gv,ExceptHandler->Gx,fenceModules?->Gy,swapsWith->G1,lastMarks->G3,cLine->G4,cellsFrom->G5,seqItems?->G7,spliced->G9,pyIter->GA,BindsTo->GB,callType_new->GG,denote->GI,interactive->GO,IsRangeIter->GP,subscripted->GQ,compEnvC->GT,wpAny_BinOp->GV,BoolOp->Hg,hashStr->Hk,standAt->Hl,Keyword->Hm,Sem->Hx,Model->Hy,Meets->HB
open PySem.Heap renaming get?_push_of_some->Ab,lt_size->An,get?_push_size->As,size_push->Be,SameBut->Bw,get?_update_other->Cj,get?_update_self->Ei,ExtBut->F7
open List renaming getElem?_set_ne->Ac,replicate->Ad,size_toArray->Af,mem_cons_of_mem->Ag,getElem?_eq_getElem->Am,getElem?_set_self->Ap,mem_cons_self->Aq,getElem?_eq_some_iff->Aw,append_nil->Ax,length_set->Ay,all_eq_true->Az,replicate_succ->A0,mem_append_right->A2,getElem?_map->A4,mem_singleton->A5,getElem_mem->A9,zip_cons_cons->AA,flatten_cons->AB,mem_cons->AD,mem_map->AH,map_append->AJ,length_replicate->AK,range->AO,mem_append->AS,getElem?_append_right->AT,append_assoc->Ba,map_map->Bc,mem_append_left->Bd,getElem?_append_left->Bf,length_singleton->Bj,drop_length->Bl,getElem_map->Bm,drop_eq_getElem_cons->Bs,all_map->Bz,eq_of_mem_replicate->B0,getElem?_replicate->B5,nodup_cons->B8,length_take->BE,not_mem_nil->BF,foldl_cons->BL,zip_nil_left->BQ,take_length->Ca,mem_filterMap->Cf,length_append->Ch,take_append_drop->Cs,length_drop->C0,filterMap_cons->C2,all_cons->C6,length_eq_zero_iff->CG,lookup->CH,take_succ_eq_append_getElem->CL,length_dropLast->CY,of_mem_zip->Db,nil_append->Dc,map_congr_left->Dh,getElem?_zip_eq_some->Dy,map_inj_left->D4,sum_cons->DB,lookup_cons->DE,mem_flatten->DI,mem_filter->Ec,length_map->Ed,sum_append->Ee,forIn_cons->Ef,forIn_nil->Et,length_pos_iff->E4,replicate_zero->E5,foldl->EF,ext_getElem?->Fi,zipIdx_cons->Ft,cons_append->F0,flatten_nil->F1,length->F4,zipIdx_nil->FA,mem_range->FI,take_zero->Ga,map->HD,set->HE
open Option.some renaming inj->Ai,injEq->BO
open Nat renaming le_refl->Aj,lt_of_lt_of_le->A1,ne_of_lt->A6,add_sub_cancel_left->AC,lt_irrefl->AM,le_trans->AW,lt_succ_self->Bk,mul_le_mul_right->B3,ne_of_gt->BB,zero_le->BD,lt_succ_of_lt->BP,add_zero->BR,mul_comm->Ck,add_assoc->Cq,mul_succ->Di,succ_mul->DV,add_comm->DW,mul_le_mul->Ev,mul_le_mul_left->E3,not_lt->EH,le_of_lt->ES,le_succ_of_le->Fd,le_of_not_lt->Fq,not_lt_zero->FC,sub_zero->GE,lt_trans->GF,le_succ->GU
open PySem.W renaming Frag->Ak,boot_heap->Bv,keepIn->BG,kia_one->BN,methodObj->Dz,cellsFrom_some->DO,fnOf->DP,SharedT->Ey,boot_drawn->EM,boot_toks->Fz,OpenLaw->FB,codeIn->FR,namesBound->Gi,staticsOk->G8,stepOk->GJ,gensDone->GW,laidKept->GX,openGood->GY,OpenLaw->Hn,through->Ho,stepT->Hq,topStub->Hr,topFrom->Ht,LeftO->HC
open PySem.Builtin.SmallTypes renaming nextOf->A8,ownedTupleIsFree->AI,ownedTupleHandOut->Bh
open PySem.NameKind renaming free->AE
open Classical renaming byContradiction->AF
open PyProof.Rows renaming slot_tuple_getitem->AR,callWith_type1->Bn,callWith_builtin1->CP,AllBare->D1,subscriptTail_builtinR->DT,envOfC->En,entry_tuple_getitem->Ez,args_tuple_getitem->EE,slot_str_getitem->Fo,IntsAre->FE,slicePart_none->FS,tupleItemsOf_->Gq,subscriptTail->Gs,Call_->Hz
open PySem.F renaming plainAttrs_list->AV,slot_tuple_iterator_next->BH,slot_enumerate_next->Cr,args_tuple_add_2->C5,slot_list_append->C7,type_list_append->C8,entry_tuple_add->CD,slot_tuple_add->CJ,args_tuple_iterator_next_1->Df,slot_zip_next->Dg,entry_tuple_iterator_next->Dj,slot_list_extend->D9,type_list_extend->DA,args_enumerate_next_1->DF,slot_list_clear->DG,type_list_clear->DH,entry_enumerate_next->Eb,slot_int_rmul->Ek,slot_dict_get->El,args_list_append_2->Ep,entry_list_append->E1,slot_list_append->EG,args_zip_next_1->Ff,entry_zip_next->Fu
open Option renaming map_eq_some_iff->AX,isSome_iff_exists->C4,getD_none->CQ,getD_some->DD,map_some->Eg,none->GR
open PySem.Builtin.Str renaming strSliceIndices->Bb,occurrences->BZ,occurrences->F6,tooLong->GZ
open Sum renaming inr->Bp,inl->DK
open PySem.Builtin.List renaming listTooLong->Bx,listFitsIndex->Dv
open PySem.StrLaws renaming sliceText->B7
open Array renaming length_toList->B9,getElem?_toList->Ej,size_append->Fc,mk->Gj
open PySem.Builtin.Slice renaming slicePlaces->BJ,sliceAdjust->C1,sliceApplied->Ds,slicePartIndex->F8,sliceFields->Gk
open Bool renaming or_eq_true->BM,and_true->BV,or_true->Cm,and_self->C9,false_ne_true->CC,false_and->CI,not_true->CW,not_eq_true'->D3,and_eq_true->Fm,eq_iff_iff->F9,and_assoc->FZ,not_false->Gg,true_and->Gw,or_self->GL
open False renaming elim->BS
open PySem.Builtin.Tuple renaming tupleExact->BU,tupleItemsOf->Dt,tupleIsExact->Gb
open Prod.mk renaming injEq->BW
open PySem.AutoSeq1 renaming wpAny_loadPart'->Cb,list_extend_list_list_0->Fb,list_clear_list_0->FV,sub_list_list->GD,idx_int->Hw
open PySem.Challenge renaming rw_handpromise_k76_rows_made->Cc,pw_handpromise_k76_rows_made->DJ
open PySem.Str renaming ofString->Ci,length->FT,join->H9
open ForInStep renaming yield->Co
open Int renaming natCast_add->Cp,toNat_natCast->Cw,mul_le_mul_of_nonneg_right->CU,natCast_mul->De,natCast_nonneg->Dx,le_trans->Fk,zero_add->GH
open Ne renaming symm->Cz
open PySem.PassesOwn renaming never->CB
open PySem.Calls renaming callWith_builtin->CK,Name_function_global->Dq,spliced_cons->Dr,evalArgs_plain->Eo,spliced_nil->EU
open PySem.Value renaming none->CM,bool->CN,ref->CO,type->FH,isStrOf->Gm,str->G0,int->Hu
open PySem.Obj renaming mapSeq->Du,data_mapFields->EJ
open List.Pairwise renaming nil->D2,sublist->GN
open PySem.Data renaming cell->Ew,fields->F3,seq->FY
open PySem.Heap.SameBut renaming update->E2
open PySem.W.Fast renaming te10156331382660048174->E9,te11892475500146522536->EA,te14364793385576792824->EB,te6613529449190102663->EN,te4187177175401517315->EO,te5923862056798008813->EQ,sEq->Fj,sEq_iff->GK
open True renaming intro->EI
open PySem.IsL renaming update->Fp
open Sum.inr renaming inj->F2
open PySem.Paired renaming length->Gn
open List.cons renaming inj->Gz
open PySem.Builtin.Range renaming rangeSize->G2
open PyProof.Rows.IsTup renaming new->G6
open PySem.MeetsSeq renaming list_pop_last->GC
open PySem.AutoListH renaming joined_fits->GM
open PySem.CmpOp renaming NotEq->GS,Eq->HA
open PySem.SeqAt.EqAt renaming int_str->Ha,str_int->Hb
open PySem.Heap.IsSliceOf renaming new->He
open PySem.W.WShape renaming has->Hf
open PySem.Walks renaming list->Hi
open PySem.ScopeKind renaming function->Hj
open PySem.W.WData renaming int->Hv
open Prod renaming ext->H0
open Eq renaming trans->HF
def Al:=@decide_eq_true
def Ao:=@decide_eq_false
def A7:=@decide_eq_true_eq
theorem nf{p:Prop}(h:false=true):p:=absurd h CC
def gS:=@List.getElem?_cons_succ.{0}
def gZ:=@List.getElem?_cons_zero.{0}
def lS:=@List.set_cons_succ.{0}
def lZ:=@List.set_cons_zero.{0}
def bF:=@Bool.false_eq_true
def lC:=@List.length_cons.{0}
def lN:=@List.length_nil.{0}
def lA:=@List.length_append.{0}
def mC:=@List.map_cons.{0,0}
def mN:=@List.map_nil.{0,0}
def lM:=@List.length_map.{0,0}
def mG:=@List.mem_of_getElem?.{0}
def bN:=@Bool.false_ne_true
def bA:=@Bool.and_eq_true
noncomputable section
set_option maxRecDepth 100000
namespace L2
open PySem PySem.Spec PyProof.Rows
abbrev Key:=Sum Int Str
def tV:Key->Value->Bool
 | .inl k,v=>Value.isInt k v
 | .inr x,v=>Gm x v
def aKV(w:AG):Key->Int
 | .inl k=>hashInt k
 | .inr x=>Hk w x
theorem keyIs_shape:∀{k:Key} {v:Value},tV k v=true->(∃i t,k=DK i/\v=Hu i t)\/(∃x t,k=Bp x/\v=G0 x t)
 | .inl i,v,h=>by
  obtain⟨t,e⟩:=Value.isInt_shape (k:=i) (v:=v) h
  exact .inl ⟨i,t,rfl,e⟩
 | .inr x,v,h=>by
  obtain⟨t,e⟩:=Value.isStrOf_shape (x:=x) (v:=v) h
  exact .inr ⟨x,t,rfl,e⟩
theorem pZ(x:Str)(t:Tok):tV (.inr x) (.str x t)=true:=by simp[tV,Gm]
theorem aFH(a b:Int):decide ((DK a:Key)=DK b)=(a==b):=by
 by_cases e:a=b
 . subst e;simp
 . have h:¬ (DK a:Key)=DK b:=λq=>e (Sum.inl.inj q)
   rw[Ao h]
   exact(beq_eq_false_iff_ne.mpr e).symm
theorem aFI(a b:Str):decide ((Bp a:Key)=Bp b)=decide (a=b):=by
 by_cases e:a=b
 . subst e;simp
 . have h:¬ (Bp a:Key)=Bp b:=λq=>e (F2 q)
   rw[Ao h,Ao e]
theorem aFJ(a:Int)(b:Str):decide ((DK a:Key)=Bp b)=false:=Ao (λq=>nomatch q)
theorem aFK(a:Str)(b:Int):decide ((Bp a:Key)=DK b)=false:=Ao (λq=>nomatch q)
def eY(prog:Av)(w:AG):PySem.KeyKind prog w Key where
 is:=tV
 hash:=aKV w
 inj:=λv a b ha hb=>by
  rcases keyIs_shape ha with⟨i,t,rfl,rfl⟩|⟨x,t,rfl,rfl⟩
  . rcases keyIs_shape hb with⟨j,u,rfl,e⟩|⟨y,u,rfl,e⟩
    . injection e with e1 _;rw[e1]
    . exact nomatch e
  . rcases keyIs_shape hb with⟨j,u,rfl,e⟩|⟨y,u,rfl,e⟩
    . exact nomatch e
    . injection e with e1 _;rw[e1]
 byValue:=λk v h=>by
  rcases keyIs_shape h with⟨i,t,rfl,rfl⟩|⟨x,t,rfl,rfl⟩ <;> rfl
 pyHash:=λhv h=>by
  rcases keyIs_shape hv with⟨i,t,rfl,rfl⟩|⟨x,t,rfl,rfl⟩
  . exact wpAny_pyHash_int h
  . exact wpAny_pyHash_str h
 eqBool:=λhu hv h=>by
  rcases keyIs_shape hu with⟨i,t,rfl,rfl⟩|⟨x,t,rfl,rfl⟩
  . rcases keyIs_shape hv with⟨j,u,rfl,rfl⟩|⟨y,u,rfl,rfl⟩
    . rw[aFH] at h;exact wpAny_eqBool_int h
    . rw[aFJ] at h;exact Ha i t y u _ _ _ _ h
  . rcases keyIs_shape hv with⟨j,u,rfl,rfl⟩|⟨y,u,rfl,rfl⟩
    . rw[aFK] at h;exact Hb x t j u _ _ _ _ h
    . rw[aFI] at h;exact wpAny_eqBool_str h
 «strs»:=λk x t v h=>by
  rcases keyIs_shape h with⟨i,u,rfl,e⟩|⟨y,u,rfl,e⟩
  . exact nomatch e
  . injection e with e1 _
    subst e1
    cases v <;> rfl
end L2
namespace L2
open PySem PySem.Spec PyProof.Rows
set_option genInjectivity true in
inductive V where
 | non|bl (b:Bool)|int (i:Int)|str (x:Str)|byt (b:Array UInt8)|flt (b:UInt64)|ref (a:Addr)|ty (n:String)
 deriving DecidableEq
def bI:V->Value->Prop
 | .non,u=>u=CM
 | .bl b,u=>u=CN b
 | .int i,u=>∃t,u=Hu i t
 | .str x,u=>∃t,u=G0 x t
 | .byt b,u=>∃t,u=Value.bytes b t
 | .flt b,u=>∃t,u=Value.float b t
 | .ref a,u=>u=CO a
 | .ty n,u=>u=FH n
abbrev aV:List V->List Value->Prop:=EC bI
theorem aV.length{xs:List V}{us:List Value}(r:aV xs us):xs.length=us.length:=Gn r
theorem aV.get:∀{xs:List V} {us:List Value} {i:Nat} {x:V},aV xs us->xs[i]? = some x->∃u,us[i]? = some u/\bI x u
 | _,_,_,_,.nil,e=>by simp at e
 | _,_,0,_,.cons r _,e=>by simp at e;subst e;exact⟨_,rfl,r⟩
 | _,_,i+1,x,.cons _ t,e=>by
  obtain⟨u,h1,h2⟩:=aV.get (i:=i) (x:=x) t (by simpa using e)
  exact⟨u,by simpa using h1,h2⟩
theorem aV.set{x:V}{u:Value}(r:bI x u):∀{xs:List V} {us:List Value} (i:Nat),aV xs us->aV (xs.set i x) (us.set i u)
 | _,_,_,.nil=>.nil
 | _,_,0,.cons _ t=>.cons r t
 | _,_,i+1,.cons q t=>.cons q (aV.set r i t)
theorem aV.append:∀{xs ys:List V} {us ws:List Value},aV xs us->aV ys ws->aV (xs++ys) (us++ws)
 | _,_,_,_,.nil,s=>s
 | _,_,_,_,.cons r t,s=>.cons r (aV.append t s)
theorem aV.take:∀{xs:List V} {us:List Value} (n:Nat),aV xs us->aV (xs.take n) (us.take n)
 | _,_,0,_=>.nil
 | _,_,_+1,.nil=>.nil
 | _,_,n+1,.cons r t=>.cons r (aV.take n t)
theorem aV.drop:∀{xs:List V} {us:List Value} (n:Nat),aV xs us->aV (xs.drop n) (us.drop n)
 | _,_,0,r=>r
 | _,_,_+1,.nil=>.nil
 | _,_,n+1,.cons _ t=>aV.drop n t
def aIi:Option V->Option Value->Prop
 | some v,some u=>bI v u
 | none,none=>True
 | _,_=>False
def KV{κ:Type}:List (κ×V)->List (κ×Value)->Prop:=EC λ(p:κ×V) (q:κ×Value)=>p.1=q.1/\bI p.2 q.2
def kV:Key->V
 | .inl i=>.int i
 | .inr x=>.str x
inductive HO where
 | lst (xs:List V)
 | tup (xs:List V)
 | dK (kvs:List (Key×V))|dT (kvs:List (List Key×V))
 | set (S:Int->Bool) (n:Nat)
 | ins (C dx:Addr) (fs:List (Str×V))
 | own (x:Addr)
 | xd (fs:List (Str×V))
 | met (f x:Addr)
 | rng (lo hi:Int)
 | frz (o:Obj) (u:HO)
 | tbl (ps:Array Value)
 | ext (φ:Heap->Prop)
abbrev Hp:=Addr->Option HO
def upd(H:Hp)(a:Addr)(o:HO):Hp:=λb=>if b=a then some o else H b
theorem aW{H:Hp}{a:Addr}{o:HO}:upd H a o a=some o:=by unfold upd;rw[if_pos rfl]
theorem aN{H:Hp}{a b:Addr}{o:HO}(h:b≠a):upd H a o b=H b:=by unfold upd;rw[if_neg h]
theorem bB{H:Hp}{a b:Addr}{o:HO}(h:H a=some o)(h':H b=none):a≠b:=by
 intro e;subst e;rw[h] at h';cases h'
section
variable (P:Av) (w:AG)
def dZ(H:Hp)(h:Heap)(a:Addr):HO->Prop
 | .lst xs=>xs.length<=sizeLine/\∃(its:List Value) (n:Nat),aV xs its/\h.get? a=some { cls:=.type "list",data:=.seq its.toArray n }
 | .tup xs=>xs.length<=sizeLine/\∃its:List Value,aV xs its/\IsTup h a its.toArray
 | .dK kvs=>kvs.length<=sizeLine/\(a==Dm)=false/\∃vs,KV kvs vs/\h.DictOf (eY P w) a vs
 | .dT kvs=>kvs.length<=sizeLine/\(a==Dm)=false/\∃xs:List (List Key×Addr×Value),
  EC (λ(p:List Key×V) (q:List Key×Addr×Value)=>p.1=q.1/\H q.2.1=some (.tup (p.1.map kV))/\bI p.2 q.2.2) kvs xs /\
  ∃o es ep,h.get? a=some o/\o.ExactDict/\o.data=.dict es ep/\es.toList=xs.map (entryOfKey (tupleKind (eY P w)))/\(xs.map (·.1)).Nodup
 | .set S n=>h.SetOf (intKind P w) a S n
 | .ins C dx fs=>H dx=some (.own a)/\fs.length<=1000/\dx≠a/\h.get? a=some (PySem.W.instObj C dx) /\
  ∃mA,h.Ns1 dx mA/\(∀f,aIi (fs.lookup f) (mA f))/\PySem.Within mA (fs.map (·.1))
 | .own _=>∃o,h.get? a=some o
 | .xd fs=>∃mA,h.Ns1 a mA/\∀f,aIi (fs.lookup f) (mA f)
 | .rng lo hi=>∃t u v,h.get? a=some { cls:=.type "range",data:=.fields #[.int lo t,.int hi u,.int 1 v] }
 | .frz o u=>h.get? a=some o/\dZ H h a u
 | .tbl ps=>h.get? a=some { cls:=.none,data:=.fields ps }
 | .met f x=>h.get? a=some (Dz (.ref f) (.ref x))
 | .ext φ=>φ h/\(∃o,h.get? a=some o)/\∀h1 h2:Heap,φ h1->(∀o,h1.get? a=some o->h2.get? a=some o)->φ h2
def HOk(H:Hp)(h:Heap):Prop:=∀a o,H a=some o->dZ P w H h a o
end
section
variable {P:Av} {w:AG} {H H':Hp} {h h':Heap} {a:Addr} {o:HO}
theorem dZ.lt(x:dZ P w H h a o):a<h.objs.size:=by
 cases o with
 | lst xs=>obtain⟨_,_,_,_,e⟩:=x;exact An e
 | tup xs=>obtain⟨_,_,_,p⟩:=x;exact p.lt
 | dK kvs=>obtain⟨_,_,_,_,o,_,_,e,_⟩:=x;exact An e
 | dT kvs=>obtain⟨_,_,_,_,o,_,_,e,_⟩:=x;exact An e
 | set S n=>obtain⟨o,_,_,_,e,_⟩:=x;exact An e
 | ins C dx fs=>obtain⟨_,_,_,e,_⟩:=x;exact An e
 | own y=>obtain⟨_,e⟩:=x;exact An e
 | xd fs=>obtain⟨_,⟨_,_,_,e,_⟩,_⟩:=x;exact An e
 | rng lo hi=>obtain⟨_,_,_,e⟩:=x;exact An e
 | frz ob u=>obtain⟨e,_⟩:=x;exact An e
 | tbl ps=>exact An (show h.get? a=some _ from x)
 | met f y=>exact An (show h.get? a=some _ from x)
 | ext φ=>obtain⟨_,⟨_,e⟩,_⟩:=x;exact An e
theorem Paired.mapP{α β:Type}{F G:α->β->Prop}:∀{l₁:List α} {l₂:List β},EC F l₁ l₂->(∀a b,F a b->G a b)->EC G l₁ l₂
 | _,_,.nil,_=>.nil
 | _,_,.cons r t,f=>.cons (f _ _ r) (Paired.mapP t f)
theorem dZ.stay(x:dZ P w H h a o)(k:∀b u,(b=a\/H b=some (.own a))->h.get? b=some u->h'.get? b=some u)
 (ho:∀b,H b=some (.own a)->H' b=some (.own a)) (ht:∀b xs,H b=some (.tup xs)->H' b=some (.tup xs)):dZ P w H' h' a o:=by
 induction o with
 | lst xs=>obtain⟨z,its,n,r,e⟩:=x;exact⟨z,its,n,r,k _ _ (.inl rfl) e⟩
 | tup xs=>obtain⟨z,its,r,ob,e,c⟩:=x;exact⟨z,its,r,ob,k _ _ (.inl rfl) e,c⟩
 | dK kvs=>obtain⟨z,y,vs,r,ob,es,ep,e,c⟩:=x;exact⟨z,y,vs,r,ob,es,ep,k _ _ (.inl rfl) e,c⟩
 | dT kvs=>
  obtain⟨z,y,xs,r,ob,es,ep,e,c⟩:=x
  exact⟨z,y,xs,Paired.mapP r λp q z=>⟨z.1,ht _ _ z.2.1,z.2.2⟩,ob,es,ep,k _ _ (.inl rfl) e,c⟩
 | set S n=>obtain⟨ob,es,ep,t,e,c⟩:=x;exact⟨ob,es,ep,t,k _ _ (.inl rfl) e,c⟩
 | ins C dx fs=>
  obtain⟨d,z,ne,e,mA,⟨od,es,ep,e2,c⟩,r⟩:=x
  exact⟨ho _ d,z,ne,k _ _ (.inl rfl) e,mA,⟨od,es,ep,k _ _ (.inr d) e2,c⟩,r⟩
 | own y=>obtain⟨ob,e⟩:=x;exact⟨ob,k _ _ (.inl rfl) e⟩
 | xd fs=>obtain⟨mA,⟨od,es,ep,e,c⟩,r⟩:=x;exact⟨mA,⟨od,es,ep,k _ _ (.inl rfl) e,c⟩,r⟩
 | rng lo hi=>obtain⟨t,u,v,e⟩:=x;exact⟨t,u,v,k _ _ (.inl rfl) e⟩
 | frz ob u ih=>obtain⟨e,q⟩:=x;exact⟨k _ _ (.inl rfl) e,ih q⟩
 | tbl ps=>
  have e:h.get? a=some { cls:=.none,data:=.fields ps }:=x
  show h'.get? a=some { cls:=.none,data:=.fields ps }
  exact k a _ (.inl rfl) e
 | met f y=>
  have e:h.get? a=some (Dz (.ref f) (.ref y)):=x
  show h'.get? a=some (Dz (.ref f) (.ref y))
  exact k a _ (.inl rfl) e
 | ext φ=>obtain⟨p,⟨o,e⟩,st⟩:=x;exact⟨st _ _ p λo q=>k _ _ (.inl rfl) q,⟨o,k _ _ (.inl rfl) e⟩,st⟩
theorem HOk.lt(x:HOk P w H h)(e:H a=some o):a<h.objs.size:=(x a o e).lt
theorem HOk.fresh(x:HOk P w H h)(e:h.objs.size<=a):H a=none:=by
 cases q:H a with
 | none=>rfl
 | some u=>exact absurd (A1 (x.lt q) e) (AM _)
theorem HOk.kept(x:HOk P w H h)(k:∀b u,h.get? b=some u->h'.get? b=some u):HOk P w H h':=λa o e=>
 (x a o e).stay (λb u _ q=>k b u q) (λ_ q=>q) λ_ _ q=>q
theorem HOk.laid(x:HOk P w H h)(k:∀b u,h.get? b=some u->h'.get? b=some u)(hp:h.objs.size<=a)(new:dZ P w (upd H a o) h' a o):HOk P w (upd H a o) h':=λb u e=>by
 have hn:=x.fresh hp
 by_cases hb:b=a
 . subst hb;rw[aW] at e;cases e;exact new
 . rw[aN hb] at e
   exact(x b u e).stay (λc v _ q=>k c v q) (λc q=>by rw[aN (bB q hn)];exact q) λc xs q=>by rw[aN (bB q hn)];exact q
end
def Rd(H:Hp)(a:Addr)(u:HO):Prop:=H a=some u\/∃o,H a=some (.frz o u)
theorem Rd.ok{P:Av}{w:AG}{H:Hp}{h:Heap}{a:Addr}{u:HO}(r:Rd H a u)(x:HOk P w H h):dZ P w H h a u:=by
 rcases r with r|⟨o,r⟩
 . exact x a u r
 . obtain⟨_,q⟩:=x a _ r
   exact q
def Mut:Option HO->Prop
 | some (.lst _)=>True
 | some (.dK _)=>True
 | some (.dT _)=>True
 | some (.set _ _)=>True
 | some (.ins _ _ _)=>True
 | some (.ext _)=>True
 | _=>False
section
variable {P:Av} {w:AG} {H:Hp} {h h':Heap} {x e:Addr} {o':HO}
theorem HOk.write(ok:HOk P w H h)(mu:Mut (H x))(he:e=x\/H e=some (.own x))(k:∀b u,b≠e->h.get? b=some u->h'.get? b=some u)(heo:∃u,h'.get? e=some u)
 (new:dZ P w (upd H x o') h' x o'):HOk P w (upd H x o') h':=λb u q=>by
 have nown:∀c y,H c=some (.own y)->c≠x:=λc y r z=>by subst z;rw[r] at mu;exact mu
 have ntup:∀c xs,H c=some (.tup xs)->c≠x:=λc xs r z=>by subst z;rw[r] at mu;exact mu
 by_cases hb:b=x
 . subst hb;rw[aW] at q;cases q;exact new
 . rw[aN hb] at q
   by_cases hbe:b=e
   . have q':H b=some (.own x):=by
      rcases he with z|z
      . exact absurd (hbe.trans z) hb
      . rw[hbe];exact z
     rw[q] at q';cases q'
     obtain⟨v,hv⟩:=heo
     exact⟨v,by rw[hbe];exact hv⟩
   . refine(ok b u q).stay (λc v hc r=>k c v ?_ r) (λc r=>by rw[aN (nown c b r)];exact r) λc xs r=>by rw[aN (ntup c xs r)];exact r
     rcases hc with rfl|hc
     . exact hbe
     . rintro rfl
       rcases he with z|z
       . exact nown c b hc z
       . rw[hc] at z;cases z;exact hb rfl
end
structure Un (fs ex:List Addr) (H H':Hp) (h h':Heap):Prop where
 keep:∀b o,h.get? b=some o->H b=none->b∉fs->b∉ex->h'.get? b=some o
 slot:∀b o,h.get? b=some o->H b=none->b∈fs->b∉ex->∃sl,h'.get? b=some { o with slots:=sl }
 free:∀b o,h.get? b=some o->H b=none->b∉ex->H' b=none
 there:∀b o,h.get? b=some o->b∉ex->∃o',h'.get? b=some o'
 tups:∀b xs,H b=some (.tup xs)->H' b=some (.tup xs)
 frzs:∀b o u,H b=some (.frz o u)->H' b=some (.frz o u)
 tbls:∀b ps,H b=some (.tbl ps)->∃more,H' b=some (.tbl (ps++more))
section
variable {fs fs' ex ex':List Addr} {H H1 H2:Hp} {h h1 h2 h':Heap} {a x e:Addr} {o:HO}
theorem Un.any(u:Un fs ex H H1 h h1){b:Addr}{ob:Obj}(q:h.get? b=some ob)(n:H b=none)(hx:b∉ex):∃sl,h1.get? b=some { ob with slots:=sl }:=by
 by_cases hb:b∈fs
 . exact u.slot b ob q n hb hx
 . exact⟨ob.slots,u.keep b ob q n hb hx⟩
theorem Un.kept(k:∀b u,h.get? b=some u->h'.get? b=some u):Un fs ex H H h h':=
 ⟨λb ob q _ _ _=>k b ob q,λb ob q _ _ _=>⟨ob.slots,k b ob q⟩,λ_ _ _ n _=>n,λb ob q _=>⟨ob,k b ob q⟩,λ_ _ q=>q,λ_ _ _ q=>q,λ_ ps q=>⟨#[],by rw[q];simp⟩⟩
theorem Un.refl:Un fs ex H H h h:=Un.kept λ_ _ q=>q
theorem Un.laid(k:∀b u,h.get? b=some u->h'.get? b=some u)(hp:h.objs.size<=a)(hn:H a=none):Un fs ex H (upd H a o) h h' where
 keep:=λb u q _ _ _=>k b u q
 slot:=λb u q _ _ _=>⟨u.slots,k b u q⟩
 free:=λb u q n _=>by rw[aN (A6 (A1 (An q) hp))];exact n
 there:=λb u q _=>⟨u,k b u q⟩
 tups:=λb xs q=>by rw[aN (bB q hn)];exact q
 frzs:=λb u xs q=>by rw[aN (bB q hn)];exact q
 tbls:=λb ps q=>⟨#[],by rw[aN (bB q hn),q];simp⟩
theorem Un.write(mu:Mut (H x))(he:e=x\/H e=some (.own x))(k:∀b u,b≠e->h.get? b=some u->h'.get? b=some u)(heo:∃u,h'.get? e=some u):Un fs ex H (upd H x o) h h':=by
 have hx:∀b,H b=none->b≠x:=λb n z=>by subst z;rw[n] at mu;exact mu
 have hb:∀b,H b=none->b≠e:=λb n z=>by
  subst z
  rcases he with r|r
  . exact hx b n r
  . rw[n] at r;cases r
 have hm:∀b u,H b=some u->¬ Mut (some u)->b≠x:=λb u q nm z=>by subst z;rw[q] at mu;exact nm mu
 refine⟨λb u q n _ _=>k b u (hb b n) q,λb u q n _ _=>⟨u.slots,k b u (hb b n) q⟩,λb u q n _=>by rw[aN (hx b n)];exact n,λb u q _=>?_,
  λb xs q=>by rw[aN (hm b _ q λz=>z)];exact q,λb u xs q=>by rw[aN (hm b _ q λz=>z)];exact q,λb ps q=>⟨#[],by rw[aN (hm b _ q λz=>z),q];simp⟩⟩
 by_cases hbe:b=e
 . subst hbe;exact heo
 . exact⟨u,k b u hbe q⟩
end
def trk(h:Heap)(H:Hp):List Addr:=(AO h.objs.size).filter λa=>(H a).isSome
def rL(h:Heap)(H:Hp):Heap:=PySem.W.hideAll h (trk h H)
theorem aAG(h:Heap)(H:Hp):(rL h H).objs.size=h.objs.size:=PySem.W.hideAll_size _ _
theorem aBB{h:Heap}{H:Hp}{b:Addr}{o:Obj}(e:h.get? b=some o)(n:H b=none):(rL h H).get? b=some o:=
 PySem.W.hideAll_get _ e λhm=>by
  have q:(H b).isSome=true:=(Ec.mp hm).2
  rw[n] at q;simp at q
theorem aDE{h:Heap}{H:Hp}{b:Addr}{o:Obj}(e:(rL h H).get? b=some o):h.get? b=some o/\H b=none:=by
 have e':h.get? b=some o:=PySem.W.of_hideAll (trk h H) e
 refine⟨e',?_⟩
 cases q:H b with
 | none=>rfl
 | some x=>
  have hm:b∈trk h H:=Ec.mpr ⟨FI.mpr (An e'),by simp[q]⟩
  have z:(rL h H).get? b=none:=PySem.W.hideAll_none (trk h H) hm
  rw[z] at e;cases e
def aDF(g h:Heap)(L:Addr):List (Addr×Obj):=(AO h.objs.size).filterMap λa=>if a=L\/(g.get? a).isSome=true then none else (h.get? a).map λo=>(a,o)
def rest(g h:Heap)(L d:Addr):List (Addr×Obj):=(aDF g h L).filter λp=>decide (p.1≠d)
end L2
namespace L2
open PySem PySem.Spec PyProof.Rows
structure Mod (K:Ak) (mg:Str->Option Value) (base:Heap):Prop where
 kin:K.In base
 glob:base.Ns AZ mg
 blt:∃mb,base.Ns ED mb/\∀x:Str,x ≠ "__name__" -> mb x=BA x
 nolimit:base.NoLimit
set_option genInjectivity true in
structure Cx where
 prog:Av
 w:AG
 K:Ak
 mg:Str->Option Value
 base:Heap
 A:AY
 N:List Str
 s₀:Ae
 H₀:Hp
 env:Go
 outer:List Go
 stack:List Go
 ex:List Addr
 fn:Str->Bool
 calm:Bool
 pn:List (Addr×Obj)
 xe:Value->Ae->Prop
def frs(l:List Go):List Addr:=l.filterMap (·.frame)
abbrev Cx.fs(X:Cx):List Addr:=frs X.outer
def Vis(sc:Cu)(x:Str):Prop:=sc.names.lookup x=some .local\/sc.names.lookup x=some .cell\/sc.names.lookup x=some .free
def Loc(sc:Cu)(x:Str):Prop:=sc.names.lookup x=some .local\/sc.names.lookup x=some .cell
def aKW(env:Go)(h:Heap)(m:Str->Option Value)(x:Str)(u:Value):Prop:=
 (env.kindOf x=some .local/\m x=some u)\/((env.kindOf x=some .cell\/env.kindOf x=some .free)/\∃c,env.cells.lookup x=some c/\h.IsCell c (some u))
structure Cx.Ok (X:Cx):Prop where
 mod:Mod X.K X.mg X.base
 kind:X.env.scope.kind=.function
 glob:X.env.globals=AZ
 blt:X.env.builtins=ED
 above:X.s₀.heap.objs.size<=X.env.locals
 inj:∀x y c,X.env.cells.lookup x=some c->X.env.cells.lookup y=some c->x=y
 has:∀x,(X.env.kindOf x=some .cell\/X.env.kindOf x=some .free)->∃c,X.env.cells.lookup x=some c
 cab:∀x c,X.fn x=true->X.env.cells.lookup x=some c->X.s₀.heap.objs.size<=c
 hd:X.calm=true->X.A.handled=none
 frames:X.A.frames=some X.stack
 stk:X.stack=X.outer\/(X.stack=X.env::X.outer/\X.env.frame=some X.env.locals)
 exf:∀b∈X.ex,b≠X.env.locals/\∀x c,X.env.cells.lookup x=some c->c≠b
 bs:∀b o,X.base.get? b=some o->X.s₀.heap.get? b=some o/\X.H₀ b=none
 bsz:X.base.objs.size<=X.s₀.heap.objs.size
 noex:∀b o,X.base.get? b=some o->b∉X.ex
 exfs:∀b∈X.ex,b∉X.fs
 funs:X.s₀.heap.FunFrames X.base X.outer
 frf:∀b∈X.fs,X.H₀ b=none
structure Inv (X:Cx) (pins:List (Addr×Obj)) (σ:List (Option V)) (H:Hp) (s:Ae):Prop where
 ok:X.Ok
 os:s.os=X.s₀.os
 bare:D1 s.gens
 base:Un X.fs X.ex X.H₀ H X.s₀.heap s.heap
 loc:∃m,s.heap.Ns X.env.locals m/\∀(i:Nat) (x:Str) (v:V),X.N[i]? = some x->σ[i]? = some (some v)->Vis X.env.scope x->∃u,bI v u/\aKW X.env s.heap m x u
 cell:∀x c,X.env.cells.lookup x=some c->∃v,s.heap.IsCell c v
 free:H X.env.locals=none
 freeC:∀x c,X.env.cells.lookup x=some c->H c=none
 pin:∀p∈X.pn++pins,s.heap.get? p.1=some p.2/\H p.1=none/\p.1≠X.env.locals/\p.1∉X.fs/\∀v,p.2.data≠.cell v
 hok:HOk X.prog X.w H s.heap
 len:σ.length=X.N.length
section
variable {X:Cx} {pins:List (Addr×Obj)} {σ:List (Option V)} {H H':Hp} {s:Ae} {h':Heap}
theorem Cx.Ok.nofr(ok:X.Ok){b:Addr}{o:Obj}(e:X.base.get? b=some o):b∉X.fs:=λhb=>by
 have:=(ok.funs.mem hb).1
 rw[e] at this;cases this
theorem Inv.bs(I:Inv X pins σ H s):∀b o,X.base.get? b=some o->s.heap.get? b=some o/\H b=none:=λb o e=>
 ⟨I.base.keep b o (I.ok.bs b o e).1 (I.ok.bs b o e).2 (I.ok.nofr e) (I.ok.noex b o e),I.base.free b o (I.ok.bs b o e).1 (I.ok.bs b o e).2 (I.ok.noex b o e)⟩
theorem Inv.bk(I:Inv X pins σ H s):∀b o,X.base.get? b=some o->s.heap.get? b=some o:=λb o e=>(I.bs b o e).1
theorem Inv.mod(I:Inv X pins σ H s):Mod X.K X.mg X.base:=I.ok.mod
theorem Inv.kIn(I:Inv X pins σ H s):X.K.In s.heap:=I.ok.mod.kin.keeps I.bk
theorem Inv.lt(I:Inv X pins σ H s):X.env.locals<s.heap.objs.size:=let ⟨_,hn,_⟩:=I.loc;hn.lt
theorem Inv.sz(I:Inv X pins σ H s):X.s₀.heap.objs.size<=s.heap.objs.size:=AW I.ok.above (ES I.lt)
theorem Inv.nofs(I:Inv X pins σ H s){a:Addr}(h:s.heap.objs.size<=a):a∉X.fs:=λhb=>by
 obtain⟨_,o,ho,_⟩:=I.ok.funs.mem hb
 exact absurd (A1 (An ho) (AW I.sz h)) (AM _)
theorem Inv.cne(I:Inv X pins σ H s):∀x c,X.env.cells.lookup x=some c->c≠X.env.locals:=λx c e z=>by
 obtain⟨v,o,ho,hd⟩:=I.cell x c e
 obtain⟨m,⟨o',es,ep,ho',hd',_⟩,_⟩:=I.loc
 rw[z,ho'] at ho;cases ho;rw[hd'] at hd;cases hd
theorem Inv.funs(I:Inv X pins σ H s):s.heap.FunFrames X.base X.outer:=by
 have all:∀(l:List Go),(∀b∈frs l,b∈X.fs)->X.s₀.heap.FunFrames X.base l->s.heap.FunFrames X.base l:=by
  intro l
  induction l with
  | nil=>intro _ _;trivial
  | cons env r ih=>
   intro hs hl
   obtain⟨hk,⟨L,o,hf,hn,ho,hd⟩,hr⟩:=hl
   have hL:L∈X.fs:=hs L (by unfold frs;rw[C2,hf];exact Aq)
   obtain⟨sl,e⟩:=I.base.slot L o ho (I.ok.frf L hL) hL λz=>I.ok.exfs L z hL
   exact⟨hk,⟨L,_,hf,hn,e,hd⟩,ih (λb hb=>hs b (by unfold frs;rw[C2,hf];exact Ag _ hb)) hr⟩
 exact all X.outer (λ_ hb=>hb) I.ok.funs
theorem Inv.stack(I:Inv X pins σ H s):s.heap.FunFrames X.base X.stack:=by
 rcases I.ok.stk with e|⟨e,hf⟩
 . rw[e];exact I.funs
 . rw[e]
   obtain⟨m,hn,_⟩:=I.loc
   refine .cons (by rw[I.ok.kind];decide) hf hn ?_ I.funs
   exact Heap.get?_none_of_le (AW I.ok.bsz I.ok.above)
theorem Inv.stkSub(I:Inv X pins σ H s):∀b∈frs X.stack,b∈X.env.locals::X.fs:=λb hb=>by
 rcases I.ok.stk with e|⟨e,hf⟩
 . rw[e] at hb;exact Ag _ hb
 . rw[e] at hb
   unfold frs at hb
   rw[C2,hf] at hb
   exact hb
theorem Inv.stkFree(I:Inv X pins σ H s):∀b∈frs X.stack,H b=none:=λb hb=>by
 rcases AD.mp (I.stkSub b hb) with e|hb
 . rw[e];exact I.free
 . obtain⟨_,o,ho,_⟩:=I.ok.funs.mem hb
   exact I.base.free b o ho (I.ok.frf b hb) λz=>I.ok.exfs b z hb
theorem Inv.step{g':Array FJ}{t':Nat}{d':Drawn}{ch:List Addr}(I:Inv X pins σ H s)
 (hch:∀b∈ch,(b∈X.ex\/X.s₀.heap.objs.size<=b)/\b≠X.env.locals/\(∀x c,X.env.cells.lookup x=some c->c≠b)/\∀p∈X.pn++pins,p.1≠b)
 (keep:∀b o,b≠X.env.locals->b∉X.fs->b∉ch->s.heap.get? b=some o->H b=none->h'.get? b=some o)
 (slot:∀b o,b≠X.env.locals->b∈X.fs->b∉ch->s.heap.get? b=some o->H b=none->∃sl,h'.get? b=some { o with slots:=sl }) (free:∀b o,b∉ch->s.heap.get? b=some o->H b=none->H' b=none)
 (there:∀b o,b∉ch->s.heap.get? b=some o->∃o',h'.get? b=some o')
 (tups:∀b xs,H b=some (.tup xs)->H' b=some (.tup xs)) (frzs:∀b o u,H b=some (.frz o u)->H' b=some (.frz o u)) (tbls:∀b ps,H b=some (.tbl ps)->∃more,H' b=some (.tbl (ps++more)))
 (ns:∀m,s.heap.Ns X.env.locals m->h'.Ns X.env.locals m) (hok:HOk X.prog X.w H' h') (hg:D1 g') :
 Inv X pins σ H' { s with heap:=h',gens:=g',drawn:=d',toks:=t' }:=by
 have neL:∀b o,X.s₀.heap.get? b=some o->b≠X.env.locals:=λb o e=>A6 (A1 (An e) I.ok.above)
 have neC:∀b o,X.s₀.heap.get? b=some o->b∉X.ex->b∉ch:=λb o e hx hb=>by
  rcases(hch b hb).1 with z|z
  . exact hx z
  . exact absurd (A1 (An e) z) (AM _)
 have cellK:∀x c,X.env.cells.lookup x=some c->∀v,s.heap.IsCell c v->h'.IsCell c v:=λx c e v ⟨o,ho,hd⟩=>by
  have nch:c∉ch:=λz=>(hch c z).2.2.1 x c e rfl
  by_cases hc:c∈X.fs
  . obtain⟨sl,q⟩:=slot c o (I.cne x c e) hc nch ho (I.freeC x c e)
    exact⟨_,q,hd⟩
  . exact⟨o,keep c o (I.cne x c e) hc nch ho (I.freeC x c e),hd⟩
 refine⟨I.ok,I.os,hg,⟨λb o e n hb hx=>?_,λb o e n hb hx=>?_,λb o e n hx=>?_,λb o e hx=>?_,λb xs e=>tups b xs (I.base.tups b xs e),λb o xs e=>frzs b o xs (I.base.frzs b o xs e),λb ps e=>?_⟩,?_,λx c e=>?_,?_,λx c e=>?_,λp hp=>?_,hok,I.len⟩
 . exact keep b o (neL b o e) hb (neC b o e hx) (I.base.keep b o e n hb hx) (I.base.free b o e n hx)
 . obtain⟨sl,e1⟩:=I.base.slot b o e n hb hx
   obtain⟨sl',e2⟩:=slot b _ (neL b o e) hb (neC b o e hx) e1 (I.base.free b o e n hx)
   exact⟨sl',e2⟩
 . obtain⟨o',e1⟩:=I.base.there b o e hx
   exact free b o' (neC b o e hx) e1 (I.base.free b o e n hx)
 . obtain⟨o',e1⟩:=I.base.there b o e hx
   exact there b o' (neC b o e hx) e1
 . obtain⟨m1,e1⟩:=I.base.tbls b ps e
   obtain⟨m2,e2⟩:=tbls b _ e1
   exact⟨m1++m2,by rw[e2,Array.append_assoc]⟩
 . obtain⟨m,hn,hl⟩:=I.loc
   refine⟨m,ns m hn,λi x v e1 e2 e3=>?_⟩
   obtain⟨u,r,l⟩:=hl i x v e1 e2 e3
   refine⟨u,r,?_⟩
   rcases l with l|⟨k,c,e,z⟩
   . exact .inl l
   . exact .inr ⟨k,c,e,cellK x c e _ z⟩
 . obtain⟨v,z⟩:=I.cell x c e
   exact⟨v,cellK x c e v z⟩
 . obtain⟨m,⟨o,_,_,ho,_⟩,_⟩:=I.loc
   exact free _ o (λz=>(hch _ z).2.1 rfl) ho I.free
 . obtain⟨v,o,ho,hd⟩:=I.cell x c e
   exact free c o (λz=>(hch c z).2.2.1 x c e rfl) ho (I.freeC x c e)
 . obtain⟨e,n,ne,nf,d⟩:=I.pin p hp
   have nch:p.1∉ch:=λz=>(hch p.1 z).2.2.2 p hp rfl
   exact⟨keep p.1 p.2 ne nf nch e n,free p.1 p.2 nch e n,ne,nf,d⟩
theorem Inv.un{t':Nat}(I:Inv X pins σ H s)(u:Un X.fs [] H H' s.heap h')(hok:HOk X.prog X.w H' h'):Inv X pins σ H' { s with heap:=h',toks:=t' }:=by
 obtain⟨m,⟨o,es,ep,ho,r⟩,_⟩:=id I.loc
 obtain⟨sl,hL⟩:=u.any ho I.free (by simp)
 exact I.step (g':=s.gens) (d':=s.drawn) (ch:=[]) (λ_ z=>nomatch z) (λb o _ hb _ e n=>u.keep b o e n hb (by simp)) (λb o _ hb _ e n=>u.slot b o e n hb (by simp)) (λb o _ e n=>u.free b o e n (by simp)) (λb o _ e=>u.there b o e (by simp)) u.tups u.frzs u.tbls (λm' hm=>by
  obtain⟨o',es',ep',ho',r'⟩:=hm
  rw[ho] at ho';cases ho'
  exact⟨_,es',ep',hL,r'⟩) hok I.bare
theorem Inv.call{g':Array FJ}{t':Nat}{d':Drawn}{ch:List Addr}(I:Inv X pins σ H s)(u:Un (frs X.stack) ch H H' s.heap h')(hok:HOk X.prog X.w H' h')(hg:D1 g')
 (hch:∀b∈ch,(b∈X.ex\/X.s₀.heap.objs.size<=b)/\b≠X.env.locals/\(∀x c,X.env.cells.lookup x=some c->c≠b)/\∀p∈X.pn++pins,p.1≠b) :
 Inv X pins σ H' { s with heap:=h',gens:=g',drawn:=d',toks:=t' }:=by
 obtain⟨m,⟨o,es,ep,ho,r⟩,_⟩:=id I.loc
 obtain⟨sl,hL⟩:=u.any ho I.free λz=>(hch _ z).2.1 rfl
 exact I.step (ch:=ch) hch (λb o hL hb hc e n=>u.keep b o e n (λz=>(AD.mp (I.stkSub b z)).elim hL hb) hc) (λb o _ _ hc e n=>u.any e n hc) (λb o hc e n=>u.free b o e n hc) (λb o hc e=>u.there b o e hc) u.tups u.frzs u.tbls (λm' hm=>by
  obtain⟨o',es',ep',ho',r'⟩:=hm
  rw[ho] at ho';cases ho'
  exact⟨_,es',ep',hL,r'⟩) hok hg
theorem Inv.turned{t':Nat}{it:Addr}(I:Inv X pins σ H s)(k:∀b o,b≠it->s.heap.get? b=some o->h'.get? b=some o)(hn:H it=none)(hL:it≠X.env.locals)
 (h1:it∈X.ex\/X.s₀.heap.objs.size<=it) (h2:∀x c,X.env.cells.lookup x=some c->c≠it) (h3:∀p∈X.pn++pins,p.1≠it):Inv X pins σ H { s with heap:=h',toks:=t' }:=by
 have nit:∀b u,H b=some u->b≠it:=λb u e z=>by rw[z,hn] at e;cases e
 refine I.step (g':=s.gens) (d':=s.drawn) (ch:=[it]) (λb hb=>?_) (λb o _ _ hc e _=>k b o (λz=>hc (by simp[z])) e) (λb o _ _ hc e _=>⟨o.slots,k b o (λz=>hc (by simp[z])) e⟩) (λ_ _ _ _ n=>n)
  (λb o hc e=>⟨o,k b o (λz=>hc (by simp[z])) e⟩) (λ_ _ e=>e) (λ_ _ _ e=>e) (λb ps e=>⟨#[],by rw[e];simp⟩) (λm hm=>?_) (λb u e=>?_) I.bare
 . have e:b=it:=by simpa using hb
   subst e
   exact⟨h1,hL,h2,h3⟩
 . obtain⟨o,es,ep,ho,r⟩:=hm
   exact⟨o,es,ep,k _ o (Cz hL) ho,r⟩
 . refine(I.hok b u e).stay (λc v hc q=>k c v ?_ q) (λ_ q=>q) λ_ _ q=>q
   rcases hc with z|z
   . rw[z];exact nit b u e
   . exact nit c _ z
theorem Inv.tok(I:Inv X pins σ H s)(t:Nat):Inv X pins σ H { s with toks:=t }:=I.un (h':=s.heap) (t':=t) Un.refl I.hok
theorem Inv.kept{t':Nat}(I:Inv X pins σ H s)(k:∀b u,s.heap.get? b=some u->h'.get? b=some u):Inv X pins σ H { s with heap:=h',toks:=t' }:=I.un (Un.kept k) (I.hok.kept k)
theorem Inv.laid{a:Addr}{o:HO}{t':Nat}(I:Inv X pins σ H s)(k:∀b u,s.heap.get? b=some u->h'.get? b=some u)(hp:s.heap.objs.size<=a)(new:dZ X.prog X.w (upd H a o) h' a o) :
 Inv X pins σ (upd H a o) { s with heap:=h',toks:=t' }:=I.un (Un.laid k hp (I.hok.fresh hp)) (I.hok.laid k hp new)
theorem Inv.write{x e:Addr}{o:HO}{t':Nat}(I:Inv X pins σ H s)(mu:Mut (H x))(he:e=x\/H e=some (.own x))(k:∀b u,b≠e->s.heap.get? b=some u->h'.get? b=some u)(heo:∃u,h'.get? e=some u)
 (new:dZ X.prog X.w (upd H x o) h' x o):Inv X pins σ (upd H x o) { s with heap:=h',toks:=t' }:=I.un (Un.write mu he k heo) (I.hok.write mu he k heo new)
theorem Inv.pins_of{pins':List (Addr×Obj)}(I:Inv X pins σ H s)(h:∀p∈pins',s.heap.get? p.1=some p.2/\H p.1=none/\p.1≠X.env.locals/\p.1∉X.fs/\∀v,p.2.data≠.cell v):Inv X pins' σ H s:=
 ⟨I.ok,I.os,I.bare,I.base,I.loc,I.cell,I.free,I.freeC,λp hp=>(AS.mp hp).elim (λz=>I.pin p (Bd _ z)) (h p),I.hok,I.len⟩
theorem tW{N:List Str}(hN:N.Nodup){i j:Nat}{x:Str}(a:N[i]? = some x)(b:N[j]? = some x):i=j:=by
 obtain⟨h1,e1⟩:=Aw.mp a
 obtain⟨h2,e2⟩:=Aw.mp b
 exact(List.getElem_inj hN).mp (e1.trans e2.symm)
theorem qB{M:Hy}{A:AY}{E:Value->Ae->Prop}{i:Nat}{x:Str}{v:V}{u:Value}{Q:Unit->Ae->Prop}(I:Inv X pins σ H s)(hN:X.N.Nodup)(hi:X.N[i]? = some x)(hx:Loc X.env.scope x)(r:bI v u)
 (h:∀s',Inv X pins (σ.set i (some v)) H s'->(∃a,Bw a s.heap s'.heap/\(a=X.env.locals\/X.env.cells.lookup x=some a))->Q () s') (hf:X.fn x=true\/X.env.scope.names.lookup x=some .local:=by first|exact .inl rfl|exact .inr rfl|assumption):Au M A (storeName X.env x u) Q E s:=by
 obtain⟨m,hn,hl⟩:=id I.loc
 have hcls:(X.env.scope.kind==.class||(X.env.scope.kind==.module&&X.env.locals != X.env.globals))=false:=by rw[I.ok.kind];rfl
 have hiσ:i<σ.length:=by rw[I.len];exact(Aw.mp hi).1
 have cne:=I.cne
 have tracked:∀{a:Addr} {h':Heap},(∃o,s.heap.get? a=some o/\H a=none)->Bw a s.heap h'->HOk X.prog X.w H h':=λ{a h'} ha hs b ob e=>by
  obtain⟨_,_,hfree⟩:=ha
  refine(I.hok b ob e).stay (λc w' hc q=>(hs.2 c ?_).trans q) (λ_ q=>q) λ_ _ q=>q
  rintro rfl
  rcases hc with rfl|hc
  . rw[hfree] at e;cases e
  . rw[hfree] at hc;cases hc
 rcases hx with hk|hk
 . refine wpAny_storeName_local hk hn (λh' hn' hs=>?_) hcls
   obtain⟨oL,_,_,hoL,_⟩:=id hn
   refine h _ ⟨I.ok,I.os,I.bare,⟨λb o e n hb hx=>?_,λb o e n hb hx=>?_,I.base.free,λb o e hx=>?_,I.base.tups,I.base.frzs,I.base.tbls⟩,⟨_,hn',λj y v' e1 e2 e3=>?_⟩,λy c e=>?_,I.free,I.freeC,λp hp=>?_,tracked ⟨oL,hoL,I.free⟩ hs,by simpa using I.len⟩ ⟨_,hs,.inl rfl⟩
   . exact(hs.2 b (A6 (A1 (An e) I.ok.above))).trans (I.base.keep b o e n hb hx)
   . obtain⟨sl,e1⟩:=I.base.slot b o e n hb hx
     exact⟨sl,(hs.2 b (A6 (A1 (An e) I.ok.above))).trans e1⟩
   . obtain⟨o',e1⟩:=I.base.there b o e hx
     exact⟨o',(hs.2 b (A6 (A1 (An e) I.ok.above))).trans e1⟩
   . by_cases hj:j=i
     . subst hj
       rw[hi] at e1;cases e1
       rw[Ap hiσ] at e2
       cases e2
       exact⟨u,r,.inl ⟨hk,by simp⟩⟩
     . rw[Ac (Cz hj)] at e2
       obtain⟨u',r',q⟩:=hl j y v' e1 e2 e3
       refine⟨u',r',?_⟩
       rcases q with⟨k,e⟩|⟨k,c,e,z⟩
       . refine .inl ⟨k,?_⟩
         have:y≠x:=λe=>hj (tW hN e1 (e▸hi))
         simp[this,e]
       . exact .inr ⟨k,c,e,z.sameBut hs (cne y c e)⟩
   . obtain⟨w',z⟩:=I.cell y c e
     exact⟨w',z.sameBut hs (cne y c e)⟩
   . obtain⟨e,n,ne,nf,d⟩:=I.pin p hp
     exact⟨(hs.2 p.1 ne).trans e,n,ne,nf,d⟩
 . have hfn:X.fn x=true:=by
    rcases hf with z|z
    . exact z
    . rw[z] at hk;cases hk
   obtain⟨c,hc⟩:=I.ok.has x (.inl hk)
   obtain⟨w',z⟩:=I.cell x c hc
   refine wpAny_storeName_cell I.ok.kind hk hc z (λh' hc' hs=>?_)
   obtain⟨oc,hoc,hocd⟩:=id z
   refine h { s with heap:=h' } ⟨I.ok,I.os,I.bare,⟨λb o e n hb hx=>?_,λb o e n hb hx=>?_,I.base.free,λb o e hx=>?_,I.base.tups,I.base.frzs,I.base.tbls⟩,⟨m,hn.sameBut hs (Cz (cne x c hc)),λj y v' e1 e2 e3=>?_⟩,λy c' e=>?_,I.free,I.freeC,λp hp=>?_,tracked ⟨oc,hoc,I.freeC x c hc⟩ hs,by simpa using I.len⟩ ⟨c,hs,.inr hc⟩
   . exact(hs.2 b (A6 (A1 (An e) (I.ok.cab x c hfn hc)))).trans (I.base.keep b o e n hb hx)
   . obtain⟨sl,e1⟩:=I.base.slot b o e n hb hx
     exact⟨sl,(hs.2 b (A6 (A1 (An e) (I.ok.cab x c hfn hc)))).trans e1⟩
   . obtain⟨o',e1⟩:=I.base.there b o e hx
     exact⟨o',(hs.2 b (A6 (A1 (An e) (I.ok.cab x c hfn hc)))).trans e1⟩
   . by_cases hj:j=i
     . subst hj
       rw[hi] at e1;cases e1
       rw[Ap hiσ] at e2
       cases e2
       exact⟨u,r,.inr ⟨.inl hk,c,hc,hc'⟩⟩
     . rw[Ac (Cz hj)] at e2
       obtain⟨u',r',q⟩:=hl j y v' e1 e2 e3
       refine⟨u',r',?_⟩
       rcases q with q|⟨k,c',e,z'⟩
       . exact .inl q
       . refine .inr ⟨k,c',e,z'.sameBut hs ?_⟩
         rintro rfl
         exact hj (tW hN e1 (I.ok.inj _ _ _ e hc▸hi))
   . by_cases hcc:c'=c
     . subst hcc;exact⟨_,hc'⟩
     . obtain⟨w2,z2⟩:=I.cell y c' e
       exact⟨w2,z2.sameBut hs hcc⟩
   . obtain⟨e,n,ne,nf,d⟩:=I.pin p hp
     refine⟨(hs.2 p.1 ?_).trans e,n,ne,nf,d⟩
     intro q
     rw[q,hoc] at e
     have q':oc=p.2:=Ai e
     exact d w' (by rw[<-q'];exact hocd)
theorem tX{M:Hy}{A:AY}{E:Value->Ae->Prop}{i:Nat}{x:Str}{v:V}{u:Value}{Q:Unit->Ae->Prop}(I:Inv X pins σ H s)(hN:X.N.Nodup)(hi:X.N[i]? = some x)(hx:Loc X.env.scope x)(r:bI v u)
 (h:∀s',Inv X pins (σ.set i (some v)) H s'->Q () s') (hf:X.fn x=true\/X.env.scope.names.lookup x=some .local:=by first|exact .inl rfl|exact .inr rfl|assumption):Au M A (storeName X.env x u) Q E s:=
 qB I hN hi hx r (λs' I' _=>h s' I') hf
theorem Inv.call'{s':Ae}{ch:List Addr}(I:Inv X pins σ H s)(ho:s'.os=s.os)(u:Un (frs X.stack) ch H H' s.heap s'.heap)(hok:HOk X.prog X.w H' s'.heap)(hg:D1 s'.gens)
 (hch:∀b∈ch,(b∈X.ex\/X.s₀.heap.objs.size<=b)/\b≠X.env.locals/\(∀x c,X.env.cells.lookup x=some c->c≠b)/\∀p∈X.pn++pins,p.1≠b):Inv X pins σ H' s':=by
 obtain⟨h',g',d',t',o'⟩:=s'
 have e:o'=s.os:=ho
 subst e
 exact I.call (g':=g') (t':=t') (d':=d') u hok hg hch
end
abbrev XK:=Value->Option Addr->Hp->Prop
abbrev St:=List (Option V)
abbrev VK:=V->Hp->Prop
abbrev TE:=St->Hp->VK->Prop
abbrev TT:=St->Hp->(Bool->Hp->Prop)->Prop
abbrev TA:=St->Hp->(List V->Hp->Prop)->Prop
structure Ends where
 nx:St->Hp->Prop
 rt:VK
 bk:St->Hp->Prop:=λ_ _=>False
 ct:St->Hp->Prop:=λ_ _=>False
abbrev TS:=Ends->St->Hp->Prop
def EP(X:Cx)(pins:List (Addr×Obj))(σ:St)(Q:VK)(u:Value)(s':Ae):Prop:=∃v H',Inv X pins σ H' s'/\bI v u/\Q v H'
def TP(X:Cx)(pins:List (Addr×Obj))(σ:St)(Q:Bool->Hp->Prop)(b:Bool)(s':Ae):Prop:=∃H',Inv X pins σ H' s'/\Q b H'
def AP(X:Cx)(pins:List (Addr×Obj))(σ:St)(Q:List V->Hp->Prop)(us:List Value)(s':Ae):Prop:=∃vs H',Inv X pins σ H' s'/\aV vs us/\Q vs H'
def SP(X:Cx)(pins:List (Addr×Obj))(D:Ends)(f:Flow)(s':Ae):Prop:=
 match f with
 | .next=>∃σ' H',Inv X pins σ' H' s'/\D.nx σ' H'
 | .brk=>∃σ' H',Inv X pins σ' H' s'/\D.bk σ' H'
 | .cont=>∃σ' H',Inv X pins σ' H' s'/\D.ct σ' H'
 | .ret u=>∃v σ' H',Inv X pins σ' H' s'/\bI v u/\D.rt v H'
def PE(X:Cx)(e:Ah)(t:TE):Prop:=
 ∀(pins:List (Addr×Obj)) (s:Ae) (σ:St) (H:Hp) (Q:VK),Inv X pins σ H s->t σ H Q->Au (A3 X.prog X.w) X.A (C3 e X.env) (EP X pins σ Q) X.xe s
def PT(X:Cx)(e:Ah)(t:TT):Prop:=
 ∀(pins:List (Addr×Obj)) (s:Ae) (σ:St) (H:Hp) (Q:Bool->Hp->Prop),Inv X pins σ H s->t σ H Q->Au (A3 X.prog X.w) X.A (FK e X.env (C3 e X.env)) (TP X pins σ Q) X.xe s
def PW(X:Cx)(e:Ah)(t:TT):Prop:=
 ∀(whole:Hx Value) (pins:List (Addr×Obj)) (s:Ae) (σ:St) (H:Hp) (Q:Bool->Hp->Prop),Inv X pins σ H s->t σ H Q->Au (A3 X.prog X.w) X.A (FK e X.env whole) (TP X pins σ Q) X.xe s
theorem PW.pt{X:Cx}{e:Ah}{t:TT}(h:PW X e t):PT X e t:=h _
def PA(X:Cx)(es:List Ah)(t:TA):Prop:=
 ∀(pos:BX) (pins:List (Addr×Obj)) (s:Ae) (σ:St) (H:Hp) (Q:List V->Hp->Prop),Inv X pins σ H s->t σ H Q->Au (A3 X.prog X.w) X.A (G9 (Dp pos (AN es X.env))) (AP X pins σ Q) X.xe s
def PS(X:Cx)(st:Br)(t:TS):Prop:=
 ∀(pins:List (Addr×Obj)) (s:Ae) (σ:St) (H:Hp) (D:Ends),Inv X pins σ H s->t D σ H->Au (A3 X.prog X.w) X.A (exec st X.env) (SP X pins D) X.xe s
def PSs(X:Cx)(st:List Br)(t:TS):Prop:=
 ∀(pins:List (Addr×Obj)) (s:Ae) (σ:St) (H:Hp) (D:Ends),Inv X pins σ H s->t D σ H->Au (A3 X.prog X.w) X.A (execs st X.env) (SP X pins D) X.xe s
theorem thn{α:Type}{t:Hx α}{Q Q':α->Ae->Prop}{M:Hy}{A:AY}{E:Value->Ae->Prop}{s:Ae}(h:Au M A t Q E s)(hQ:∀a s,Q a s->Q' a s):Au M A t Q' E s:=Cd h hQ λ_ _ x=>x
end L2
namespace L2
open PySem PySem.Spec PyProof.Rows
section
variable {X:Cx}
def aDG(i:Nat):TE:=λσ H Q=>∃v,σ[i]? = some (some v)/\Q v H
def tC(v:V):TE:=λ_ H Q=>Q v H
theorem lK{i:Nat}{x:Str}{pos:BX}(hN:X.N[i]? = some x)(hv:Vis X.env.scope x)(hd:(x==("__debug__" : Str))=false:=by decide)(hcd:(x==("__classdict__" : Str))=false:=by decide):PE X (.Name x pos) (aDG i):=by
 intro pins s σ H Q I h
 obtain⟨v,e,h⟩:=h
 obtain⟨m,hn,hl⟩:=I.loc
 obtain⟨u,r,l⟩:=hl i x v hN e hv
 have fin:EP X pins σ Q u s:=⟨v,H,I,r,h⟩
 rcases l with⟨hk,hm⟩|⟨hk,c,hc,hcell⟩
 . exact FL (wpAny_loadName_local I.ok.kind hk hn hm fin) hd
 . rcases hk with hk|hk
   . exact FL (wpAny_loadName_cell I.ok.kind hk hc hcell fin) hd
   . exact FL (wpAny_loadName_free I.ok.kind hk hc hcell fin hcd) hd
theorem aFL{i j pos}:PE X (.Constant (.int i) j pos) (tC (.int i)):=λ_ _ _ H _ I h=>wpAny_Constant_int ⟨.int i,H,I.tok _,⟨_,rfl⟩,h⟩
theorem aIj{b j pos}:PE X (.Constant (.bool b) j pos) (tC (.bl b)):=λ_ _ _ H _ I h=>Constant_bool ⟨.bl b,H,I,rfl,h⟩
theorem aFM{j pos}:PE X (.Constant .none j pos) (tC .non):=λ_ _ _ H _ I h=>Constant_none ⟨.non,H,I,rfl,h⟩
theorem aFN{x j pos}:PE X (.Constant (.str x) j pos) (tC (.str x)):=λ_ _ _ H _ I h=>Calls.Constant_str ⟨.str x,H,I.tok _,⟨_,rfl⟩,h⟩
def Gl(X:Cx)(x:Str):Prop:=X.env.kindOf x=some .globalImplicit
theorem rM{E:Value->Ae->Prop}{pins:List (Addr×Obj)}{s:Ae}{σ:St}{H:Hp}{x:Str}{u:Value}{pos:BX}{Q:Value->Ae->Prop}(I:Inv X pins σ H s)(hg:Gl X x)(hm:X.mg x=some u)(h:Q u s)
 (hd:(x==("__debug__" : Str))=false:=by decide):Au (A3 X.prog X.w) X.A (C3 (.Name x pos) X.env) Q E s:=
 Dq I.ok.kind hg (Calls.loadGlobal_global (by rw[I.ok.glob];exact I.mod.glob.keeps I.bk) hm h) hd
theorem gU{E:Value->Ae->Prop}{pins:List (Addr×Obj)}{s:Ae}{σ:St}{H:Hp}{x:Str}{u:Value}{pos:BX}{Q:Value->Ae->Prop}(I:Inv X pins σ H s)(hg:Gl X x)(hm:X.mg x=none)(hv:BA x=some u)(h:Q u s)
 (hn:x ≠ "__name__" := by decide) (hd:(x==("__debug__" : Str))=false:=by decide):Au (A3 X.prog X.w) X.A (C3 (.Name x pos) X.env) Q E s:=by
 obtain⟨mb,h1,h2⟩:=I.mod.blt
 exact Dq I.ok.kind hg (Calls.loadGlobal_builtin (by rw[I.ok.glob];exact I.mod.glob.keeps I.bk) hm (by rw[I.ok.blt];exact h1.keeps I.bk) ((h2 x hn).trans hv) h) hd
theorem zD{x:Str}{v:V}{u:Value}{pos:BX}(hg:Gl X x)(hm:X.mg x=some u)(r:bI v u)(hd:(x==("__debug__" : Str))=false:=by decide):PE X (.Name x pos) (tC v):=
 λ_ _ _ H _ I h=>rM I hg hm ⟨v,H,I,r,h⟩ hd
variable {a b:Ah} {ta tb:TE} {pos:BX}
variable {tA tB':TT} {rest:List Ah}
def aKX(t u:TT):TT:=λσ H Q=>t σ H λc H1=>if c=true then u σ H1 Q else Q false H1
def tOr(t u:TT):TT:=λσ H Q=>t σ H λc H1=>if c=true then Q true H1 else u σ H1 Q
def aKY(t:TT):TT:=λσ H Q=>t σ H λc H1=>Q (!c) H1
theorem aDH(ha:PT X a tA):PW X (.BoolOp .And [a] pos) tA:=by
 intro wh pins s σ H Q I h
 refine isTrue_and (thn (ha pins s σ H Q I h) λc s1 e=>?_)
 cases c with
 | true=>exact isTrue_and_nil e
 | false=>exact e
theorem aFO(ha:PT X a tA):PW X (.BoolOp .Or [a] pos) tA:=by
 intro wh pins s σ H Q I h
 refine isTrue_or (thn (ha pins s σ H Q I h) λc s1 e=>?_)
 cases c with
 | false=>exact isTrue_or_nil e
 | true=>exact e
theorem aFP(ha:PT X a tA)(hb:PW X (.BoolOp .And (b::rest) pos) tB'):PW X (.BoolOp .And (a::b::rest) pos) (aKX tA tB'):=by
 intro wh pins s σ H Q I h
 refine isTrue_and (thn (ha pins s σ H _ I h) λc s1 ⟨H1,I1,q1⟩=>?_)
 cases c with
 | true=>exact hb wh pins s1 σ H1 Q I1 q1
 | false=>exact⟨H1,I1,q1⟩
theorem aIk(ha:PT X a tA)(hb:PW X (.BoolOp .Or (b::rest) pos) tB'):PW X (.BoolOp .Or (a::b::rest) pos) (tOr tA tB'):=by
 intro wh pins s σ H Q I h
 refine isTrue_or (thn (ha pins s σ H _ I h) λc s1 ⟨H1,I1,q1⟩=>?_)
 cases c with
 | true=>exact⟨H1,I1,q1⟩
 | false=>exact hb wh pins s1 σ H1 Q I1 q1
theorem aFQ(ha:PT X a tA):PT X (.UnaryOp .Not a pos) (aKY tA):=by
 intro pins s σ H Q I h
 exact isTrue_not (ha pins s σ H (λc H1=>Q (!c) H1) I h)
def aIl(ta tb:TE):TE:=λσ H Q=>ta σ H λx H1=>∃c,x=.bl c/\if c=true then tb σ H1 Q else Q (.bl false) H1
def aKZ(ta tb:TE):TE:=λσ H Q=>ta σ H λx H1=>∃c,x=.bl c/\if c=true then Q (.bl true) H1 else tb σ H1 Q
theorem aBC{op}{t:TE}(h:PE X a t):PE X (.BoolOp op [a] pos) t:=λpins s σ H Q I hw=>BoolOp_one (h pins s σ H Q I hw)
theorem aFR(ha:PE X a ta)(hb:PE X (.BoolOp .And (b::rest) pos) tb):PE X (.BoolOp .And (a::b::rest) pos) (aIl ta tb):=by
 intro pins s σ H Q I h
 refine BoolOp_and (thn (ha pins s σ H _ I h) λv s1 ⟨x,H1,I1,r1,q1⟩=>?_)
 obtain⟨c,rfl,q1⟩:=q1
 cases r1
 refine Bq ?_
 cases c with
 | true=>exact hb pins s1 σ H1 Q I1 q1
 | false=>exact⟨.bl false,H1,I1,rfl,q1⟩
theorem aIm(ha:PE X a ta)(hb:PE X (.BoolOp .Or (b::rest) pos) tb):PE X (.BoolOp .Or (a::b::rest) pos) (aKZ ta tb):=by
 intro pins s σ H Q I h
 refine BoolOp_or (thn (ha pins s σ H _ I h) λv s1 ⟨x,H1,I1,r1,q1⟩=>?_)
 obtain⟨c,rfl,q1⟩:=q1
 cases r1
 refine Bq ?_
 cases c with
 | false=>exact hb pins s1 σ H1 Q I1 q1
 | true=>exact⟨.bl true,H1,I1,rfl,q1⟩
def tIf(t:TT)(ta tb:TE):TE:=λσ H Q=>t σ H λc H1=>if c=true then ta σ H1 Q else tb σ H1 Q
theorem aBD{c:Ah}(hc:PT X c tA)(ha:PE X a ta)(hb:PE X b tb):PE X (.IfExp c a b pos) (tIf tA ta tb):=by
 intro pins s σ H Q I h
 refine wpAny_IfExp (thn (hc pins s σ H _ I h) λd s1 ⟨H1,I1,q1⟩=>?_)
 cases d with
 | true=>exact ha pins s1 σ H1 Q I1 q1
 | false=>exact hb pins s1 σ H1 Q I1 q1
end
end L2
namespace L2
open PySem PySem.Spec PyProof.Rows
def SqL(K:Ak)(H:Hp)(a:Addr)(xs:List V):Prop:=
 Rd H a (.lst xs) \/
  ∃(o:Obj) (its:Array Value) (n:Nat),K.lookup a=some o/\o.cls=.type "list" /\ o.dict=none/\o.data=.seq its n/\its.size<=sizeLine/\aV xs its.toList
def SqT(K:Ak)(H:Hp)(a:Addr)(xs:List V):Prop:=
 Rd H a (.tup xs) \/
  ∃(o:Obj) (its:Array Value) (n:Nat),K.lookup a=some o/\o.cls=.type "tuple" /\ o.data=.seq its n/\its.size<=sizeLine/\aV xs its.toList
def aLa:Value->Option V
 | .none=>some .non
 | .bool b=>some (.bl b)
 | .int i _=>some (.int i)
 | .str x _=>some (.str x)
 | .bytes b _=>some (.byt b)
 | .float b _=>some (.flt b)
 | .ref a=>some (.ref a)
 | .type n=>some (.ty n)
 | _=>none
theorem bI.abs{x:V}{u:Value}(r:bI x u):aLa u=some x:=by
 cases x with
 | non=>cases r;rfl
 | bl _=>cases r;rfl
 | int _=>obtain⟨t,rfl⟩:=r;rfl
 | str _=>obtain⟨t,rfl⟩:=r;rfl
 | byt _=>obtain⟨t,rfl⟩:=r;rfl
 | flt _=>obtain⟨t,rfl⟩:=r;rfl
 | ref _=>cases r;rfl
 | ty _=>cases r;rfl
theorem bI.inj{x y:V}{u:Value}(r:bI x u)(q:bI y u):x=y:=Ai (r.abs.symm.trans q.abs)
theorem aV.inj:∀{xs ys:List V} {us:List Value},aV xs us->aV ys us->xs=ys
 | _,_,_,.nil,.nil=>rfl
 | _,_,_,.cons r t,.cons r' t'=>by rw[r.inj r',aV.inj t t']
section
variable {X:Cx} {pins:List (Addr×Obj)} {σ:St} {H:Hp} {s:Ae} {a:Addr} {xs ys:List V}
theorem SqL.of{K:Ak}(h:H a=some (.lst xs)):SqL K H a xs:=.inl (.inl h)
theorem SqT.of{K:Ak}(h:H a=some (.tup xs)):SqT K H a xs:=.inl (.inl h)
theorem Inv.list(I:Inv X pins σ H s)(h:SqL X.K H a xs):∃its:List Value,aV xs its/\PlainL s.heap a its.toArray/\xs.length<=sizeLine:=by
 rcases h with h|⟨o,its,n,hk,hc,hd,hs,hz,r⟩
 . obtain⟨z,its,n,r,e⟩:=h.ok I.hok
   exact⟨its,r,⟨_,n,e,rfl,rfl,rfl⟩,z⟩
 . refine⟨its.toList,r,⟨o,n,I.kIn a o hk,hc,hd,by simpa using hs⟩,?_⟩
   have e:=r.length
   simp only[B9] at e
   omega
theorem Inv.tuple(I:Inv X pins σ H s)(h:SqT X.K H a xs):∃its:List Value,aV xs its/\IsTup s.heap a its.toArray/\xs.length<=sizeLine:=by
 rcases h with h|⟨o,its,n,hk,hc,hs,hz,r⟩
 . obtain⟨z,its,r,p⟩:=h.ok I.hok
   exact⟨its,r,p,z⟩
 . refine⟨its.toList,r,⟨o,I.kIn a o hk,hc,n,by simpa using hs⟩,?_⟩
   have e:=r.length
   simp only[B9] at e
   omega
theorem Inv.list_inj(I:Inv X pins σ H s)(h:SqL X.K H a xs)(h':SqL X.K H a ys):xs=ys:=by
 obtain⟨its,r,⟨o,n,e,_,_,d⟩,_⟩:=I.list h
 obtain⟨its',r',⟨o',n',e',_,_,d'⟩,_⟩:=I.list h'
 rw[e] at e';cases e'
 rw[d] at d'
 injection d' with d1 _
 have:its=its':=by simpa using congrArg Array.toList d1
 subst this
 exact r.inj r'
theorem Inv.tuple_inj(I:Inv X pins σ H s)(h:SqT X.K H a xs)(h':SqT X.K H a ys):xs=ys:=by
 obtain⟨its,r,⟨o,e,_,n,d⟩,_⟩:=I.tuple h
 obtain⟨its',r',⟨o',e',_,n',d'⟩,_⟩:=I.tuple h'
 rw[e] at e';cases e'
 rw[d] at d'
 injection d' with d1 _
 have:its=its':=by simpa using congrArg Array.toList d1
 subst this
 exact r.inj r'
end
abbrev Cx.wish(X:Cx)(E:Value->Ae->Prop):Cx:={ X with xe:=E }
abbrev Cx.nox(X:Cx):Cx:=X.wish λ_ _=>False
theorem Cx.Ok.wish{X:Cx}(ok:X.Ok)(E:Value->Ae->Prop):(X.wish E).Ok:=
 ⟨ok.mod,ok.kind,ok.glob,ok.blt,ok.above,ok.inj,ok.has,ok.cab,ok.hd,ok.frames,ok.stk,ok.exf,ok.bs,ok.bsz,ok.noex,ok.exfs,ok.funs,ok.frf⟩
theorem Cx.Ok.unwish{X:Cx}{E:Value->Ae->Prop}(ok:(X.wish E).Ok):X.Ok:=
 ⟨ok.mod,ok.kind,ok.glob,ok.blt,ok.above,ok.inj,ok.has,ok.cab,ok.hd,ok.frames,ok.stk,ok.exf,ok.bs,ok.bsz,ok.noex,ok.exfs,ok.funs,ok.frf⟩
section
variable {X:Cx} {pins:List (Addr×Obj)} {σ:St} {H:Hp} {s:Ae} {E:Value->Ae->Prop}
theorem Inv.wish(I:Inv X pins σ H s)(E:Value->Ae->Prop):Inv (X.wish E) pins σ H s:=⟨I.ok.wish E,I.os,I.bare,I.base,I.loc,I.cell,I.free,I.freeC,I.pin,I.hok,I.len⟩
theorem Inv.unwish(I:Inv (X.wish E) pins σ H s):Inv X pins σ H s:=⟨I.ok.unwish,I.os,I.bare,I.base,I.loc,I.cell,I.free,I.freeC,I.pin,I.hok,I.len⟩
theorem SP.unwish{D:Ends}{f:Flow}{s':Ae}(h:SP (X.wish E) pins D f s'):SP X pins D f s':=by
 cases f with
 | next=>obtain⟨σ',H',I,q⟩:=h;exact⟨σ',H',I.unwish,q⟩
 | brk=>obtain⟨σ',H',I,q⟩:=h;exact⟨σ',H',I.unwish,q⟩
 | cont=>obtain⟨σ',H',I,q⟩:=h;exact⟨σ',H',I.unwish,q⟩
 | ret u=>obtain⟨v,σ',H',I,r,q⟩:=h;exact⟨v,σ',H',I.unwish,r,q⟩
theorem PSs.nox{st:List Br}{t:TS}(h:PSs X.nox st t):PSs X st t:=λpins s σ H D I hw=>
 Cd (h pins s σ H D (I.wish _) hw) (λ_ _ q=>q.unwish) λ_ _ z=>BS z
end
section
variable {X:Cx} {st:Br} {rest:List Br} {t u:TS} {e:Ah} {te:TE} {pos:BX}
def aFj:TS:=λD σ H=>D.nx σ H
def aLb(t u:TS):TS:=λD σ H=>t { D with nx:=u D } σ H
theorem zE:PSs X [] aFj:=λ_ _ σ H _ I h=>CA ⟨σ,H,I,h⟩
theorem aBE(h1:PS X st t)(h2:PSs X rest u):PSs X (st::rest) (aLb t u):=by
 intro pins s σ H D I h
 refine Fl (thn (h1 pins s σ H { D with nx:=u D } I h) λf s1 q=>?_)
 cases f with
 | next=>
  obtain⟨σ',H',I',q⟩:=q
  exact h2 pins s1 σ' H' D I' q
 | ret v=>exact q
 | brk=>exact q
 | cont=>exact q
theorem rN(h1:PS X st t):PSs X [st] t:=by
 intro pins s σ H D I h
 refine Fl (thn (h1 pins s σ H D I h) λf s1 q=>?_)
 cases f with
 | next=>exact CA q
 | ret v=>exact q
 | brk=>exact q
 | cont=>exact q
def aFS:TS:=λD σ H=>D.bk σ H
def aIn:TS:=λD σ H=>D.ct σ H
theorem aDI:PS X (.Pass pos) aFj:=λ_ _ σ H _ I h=>wpAny_Pass ⟨σ,H,I,h⟩
theorem aBF:PS X (.Break pos) aFS:=λ_ _ σ H _ I h=>wpAny_Break ⟨σ,H,I,h⟩
theorem tY:PS X (.Continue pos) aIn:=λ_ _ σ H _ I h=>wpAny_Continue ⟨σ,H,I,h⟩
theorem Inv.quiet{pins:List (Addr×Obj)}{σ:St}{H:Hp}{s:Ae}(I:Inv X pins σ H s):GO X.env=false:=by simp[GO,I.ok.kind]
def aIo(te:TE):TS:=λD σ H=>te σ H λ_ H1=>D.nx σ H1
theorem eL(he:PE X e te)(hs:G1 e none pos.line X.env=pure false:=by rfl):PS X (.Expr e pos) (aIo te):=by
 intro pins s σ H D I h
 exact wpAny_Expr_any (thn (he pins s σ H _ I h) λv s1 ⟨x,H1,I1,r1,q1⟩=>⟨σ,H1,I1,q1⟩) I.quiet hs
def aLc(te:TE):TS:=λD σ H=>te σ H D.rt
theorem rO(he:PE X e te):PS X (.Return (some e) pos) (aLc te):=by
 intro pins s σ H D I h
 exact wpAny_Return_some (thn (he pins s σ H _ I h) λv s1 ⟨x,H1,I1,r1,q1⟩=>⟨x,σ,H1,I1,r1,q1⟩)
def aIp:TS:=λD _ H=>D.rt .non H
theorem aDJ:PS X (.Return none pos) aIp:=λ_ _ σ H _ I h=>wpAny_Return_none ⟨.non,σ,H,I,rfl,h⟩
def aLd(c:TT)(t u:TS):TS:=λD σ H=>c σ H λb H1=>if b=true then t D σ H1 else u D σ H1
theorem aBG{c:Ah}{a b:List Br}{tc:TT}(hc:PT X c tc)(ha:PSs X a t)(hb:PSs X b u):PS X (.If c a b pos) (aLd tc t u):=by
 intro pins s σ H D I h
 refine wpAny_If (thn (hc pins s σ H _ I h) λd s1 ⟨H1,I1,q1⟩=>?_)
 cases d with
 | true=>exact ha pins s1 σ H1 D I1 q1
 | false=>exact hb pins s1 σ H1 D I1 q1
def aFT:TS:=λ_ _ _=>False
theorem aBH:PS X st aFT:=λ_ _ _ _ _ _ h=>h.elim
end
abbrev TG:=V->St->Hp->(St->Hp->Prop)->Prop
abbrev TGs:=List V->St->Hp->(St->Hp->Prop)->Prop
def PG(X:Cx)(target:Ah)(t:TG):Prop:=
 ∀(pins:List (Addr×Obj)) (s:Ae) (σ:St) (H:Hp) (v:V) (u:Value) (Q:St->Hp->Prop),Inv X pins σ H s->bI v u->t v σ H Q ->
  Au (A3 X.prog X.w) X.A (DL target X.env u) (λ_ s'=>∃σ' H',Inv X pins σ' H' s'/\Q σ' H') X.xe s
def PGs(X:Cx)(ts:List Ah)(t:TGs):Prop:=
 ∀(pins:List (Addr×Obj)) (s:Ae) (σ:St) (H:Hp) (vs:List V) (us:List Value) (Q:St->Hp->Prop),Inv X pins σ H s->aV vs us->t vs σ H Q ->
  Au (A3 X.prog X.w) X.A (assignInOrder ((Ce ts X.env).map (·.2)) us) (λ_ s'=>∃σ' H',Inv X pins σ' H' s'/\Q σ' H') X.xe s
abbrev aFU:=V->V->V->Hp->(Hp->Prop)->Prop
def aIq(X:Cx)(t:aFU):Prop:=
 ∀(pins:List (Addr×Obj)) (s:Ae) (σ:St) (H:Hp) (o i v:V) (ov iv u:Value) (Q:Hp->Prop),Inv X pins σ H s->bI o ov->bI i iv->bI v u->t o i v H Q ->
  Au (A3 X.prog X.w) X.A (setItem ov iv u) (λ_ s'=>∃H',Inv X pins σ H' s'/\Q H') X.xe s
section
variable {X:Cx} {pos:BX}
def qC(i:Nat):TG:=λv σ H Q=>Q (σ.set i (some v)) H
theorem nK{i:Nat}{x:Str}(hN:X.N.Nodup)(hi:X.N[i]? = some x)(hx:Loc X.env.scope x)(hf:X.fn x=true\/X.env.scope.names.lookup x=some .local:=by first|exact .inl rfl|exact .inr rfl|assumption):PG X (.Name x pos) (qC i):=by
 intro pins s σ H v u Q I r h
 exact ET (tX I hN hi hx r (λs' I'=>⟨_,H,I',h⟩) hf)
def aIr:TGs:=λvs σ H Q=>vs=[]/\Q σ H
def aFk(t:TG)(u:TGs):TGs:=λvs σ H Q=>∃v r,vs=v::r/\t v σ H λσ' H'=>u r σ' H' Q
theorem aDK:PGs X [] aIr:=by
 intro pins s σ H vs us Q I r h
 obtain⟨e,h⟩:=h
 subst e
 cases r
 exact assignInOrder_nil ⟨σ,H,I,h⟩
theorem aBI{e:Ah}{es:List Ah}{t:TG}{u:TGs}(h1:PG X e t)(h2:PGs X es u)
 (hs:(Ce (e::es) X.env).map (·.2)=DL e X.env::(Ce es X.env).map (·.2):=by rfl):PGs X (e::es) (aFk t u):=by
 intro pins s σ H vs us Q I r h
 obtain⟨v,vr,e1,h⟩:=h
 subst e1
 cases r with
 | cons r rr=>
  rw[hs]
  refine assignInOrder_cons (thn (h1 pins s σ H _ _ _ I r h) λ_ s1 ⟨σ1,H1,I1,q1⟩=>?_)
  exact h2 pins s1 σ1 H1 _ _ Q I1 rr q1
def aIs(K:Ak)(n:Nat)(t:TGs):TG:=λv σ H Q=>∃a xs,v=.ref a/\SqT K H a xs/\xs.length=n/\t xs σ H Q
theorem aFV{es:List Ah}{k:Nat}{t:TGs}{n:Nat}(hc:X.calm=true)(h:PGs X es t)
 (hn:(Ce es X.env).length=n:=by rfl) (hst:(Ce es X.env).findIdx? (·.1)=none:=by rfl):PG X (.Tuple es k pos) (aIs X.K n t):=by
 intro pins s σ H v u Q I r hw
 obtain⟨a,xs,e1,hq,hl,hw⟩:=hw
 subst e1
 cases r
 obtain⟨its,rv,ht,hz⟩:=I.tuple hq
 refine assign_Tuple_tuple (I.ok.hd hc) ht (by simp[hn,<-hl,rv.length]) hst λh' hx=>?_
 have I1:Inv X pins σ H { s with heap:=h' }:=I.kept (t':=s.toks) λb o e=>hx b o (A6 (An e)) e
 exact h pins _ σ H xs _ Q I1 (by simpa using rv) hw
def aLe(to ti:TE)(t:aFU):TG:=λv σ H Q=>to σ H λo H1=>ti σ H1 λi H2=>t o i v H2 λH3=>Q σ H3
theorem aFW{o i:Ah}{to ti:TE}{t:aFU}(ho:PE X o to)(hi:PE X i ti)(hs:aIq X t)
 (ha:∀v,DL (.Subscript o i pos) X.env v=(do
  let ov<-FD [v] (C3 o X.env)
  let iv<-FD [v,ov] (C3 i X.env)
  Hl pos
  FD [v,ov,iv] (setItem ov iv v)
  release [v,ov,iv] []):=by intro _;rfl):PG X (.Subscript o i pos) (aLe to ti t):=by
 intro pins s σ H v u Q I r h
 rw[ha]
 refine Aa (CV (thn (ho pins s σ H _ I h) λov s1 ⟨x,H1,I1,r1,q1⟩=>?_))
 refine Aa (CV (thn (hi pins s1 σ H1 _ I1 q1) λiv s2 ⟨y,H2,I2,r2,q2⟩=>?_))
 refine Aa (E6 (Aa (CV (thn (hs pins s2 σ H2 x y v ov iv u _ I2 r1 r2 r q2) λ_ s3 ⟨H3,I3,q3⟩=>?_))))
 exact wpAny_release ⟨σ,H3,I3,q3⟩
def aDL(te:TE)(g:TG):TS:=λD σ H=>te σ H λx H1=>g x σ H1 D.nx
theorem wY{tg e:Ah}{te:TE}{g:TG}(he:PE X e te)(hg:PG X tg g)(hs:swapsWithSole [tg] e pos.line X.env=pure false:=by rfl)(hw:swappedStores [tg] e X.env=pure none:=by rfl)
 (h1:(Ce [tg] X.env).map (·.2)=[DL tg X.env]:=by rfl):PS X (.Assign [tg] e pos) (aDL te g):=by
 intro pins s σ H D I h
 refine wpAny_Assign_stores (thn (he pins s σ H _ I h) λv s1 ⟨x,H1,I1,r1,q1⟩=>?_) hs hw
 rw[h1]
 exact thn (hg pins s1 σ H1 x v _ I1 r1 q1) λ_ s2 q=>q
theorem lL{i:Nat}{x:Str}{e:Ah}{te:TE}{pos':BX}(hN:X.N.Nodup)(hi:X.N[i]? = some x)(hx:Loc X.env.scope x)(he:PE X e te)(hs:G1 e (some (.Name x pos')) pos.line X.env=pure false:=by rfl)(hf:X.fn x=true\/X.env.scope.names.lookup x=some .local:=by first|exact .inl rfl|exact .inr rfl|assumption) :
 PS X (.Assign [.Name x pos'] e pos) (aDL te (qC i)):=by
 intro pins s σ H D I h
 refine wpAny_Assign_Name (thn (he pins s σ H _ I h) λv s1 ⟨y,H1,I1,r1,q1⟩=>?_) hs
 exact tX I1 hN hi hx r1 (λs2 I2=>⟨_,H1,I2,q1⟩) hf
end
section
variable {X:Cx} {pos:BX}
def aFX(c:TT)(tb:TS):TS:=λD σ H=>∃W:Nat->St->Hp->Prop,(∃m,W m σ H)/\∀m σ H,W m σ H ->
 c σ H λb H1=>if b=true then ∃N:St->Hp->Prop,(∀σ' H',N σ' H'->∃m',m'<m/\W m' σ' H')/\tb { D with nx:=N,ct:=N,bk:=D.nx } σ H1 else D.nx σ H1
theorem aBJ{c:Ah}{body:List Br}{tc:TT}{tb:TS}(hp:Dk (A3 X.prog X.w) X.A X.env X.xe)(hc:PT X c tc)(hb:PSs X body tb):PS X (.While c body [] pos) (aFX tc tb):=by
 intro pins s σ H D I h
 obtain⟨W,⟨m0,w0⟩,turn⟩:=h
 refine wpAny_While (codeAny_whileLoop (λn s'=>∃σ' H',Inv X pins σ' H' s'/\W n σ' H') ?_ m0 ⟨σ,H,I,w0⟩)
 rintro n s1 ⟨σ1,H1,I1,w1⟩
 refine BK hp (thn (hc pins s1 σ1 H1 _ I1 (turn n σ1 H1 w1)) λb s2 ⟨H2,I2,q2⟩=>?_)
 cases b with
 | true=>
  obtain⟨N,hN,q2⟩:=q2
  rw[if_pos rfl]
  refine BK hp (thn (hb pins s2 σ1 H2 _ I2 q2) λf s3 q3=>?_)
  cases f with
  | next=>
   obtain⟨σ3,H3,I3,n3⟩:=q3
   obtain⟨m',hm,w3⟩:=hN σ3 H3 n3
   exact⟨m',hm,σ3,H3,I3,w3⟩
  | cont=>
   obtain⟨σ3,H3,I3,n3⟩:=q3
   obtain⟨m',hm,w3⟩:=hN σ3 H3 n3
   exact⟨m',hm,σ3,H3,I3,w3⟩
  | brk=>exact q3
  | ret v=>exact q3
 | false=>
  rw[if_neg CC]
  exact CA ⟨σ1,H2,I2,q2⟩
end
structure It where
 go:Nat->Hp->Prop
 yld:Nat->Hp->V->Hp->Prop
 stop:Nat->Hp->Prop
def jS(X:Cx)(pins:List (Addr×Obj))(H:Hp)(b:Addr):Prop:=
 H b=none/\b≠X.env.locals/\b∉X.fs/\(b∈X.ex\/X.s₀.heap.objs.size<=b)/\(∀x c,X.env.cells.lookup x=some c->c≠b)/\∀p∈X.pn++pins,p.1≠b
theorem Inv.fpOk{X:Cx}{pins:List (Addr×Obj)}{σ:St}{H H':Hp}{s:Ae}{b:Addr}(I:Inv X pins σ H s)(hb:s.heap.objs.size<=b)(hn:H' b=none):jS X pins H' b:=by
 refine⟨hn,BB (A1 I.lt hb),I.nofs hb,.inr (AW I.sz hb),λx c e z=>?_,λp hp z=>?_⟩
 . obtain⟨v,q⟩:=I.cell x c e
   exact absurd (A1 q.lt (by rw[z];exact hb)) (AM _)
 . exact absurd (A1 (An (I.pin p hp).1) (by rw[z];exact hb)) (AM _)
structure tZ (P:Av) (w:AG) (K:Ak) (tg:Ah) (J:It) (fp:List Addr) (it:Addr) (tn:Nat->Heap->Prop):Prop where
 mem:it∈fp
 obj:∀i h,tn i h->∀b∈fp,∃o,h.get? b=some o/\∀v,o.data≠.cell v
 keep:∀i h h',tn i h->(∀b∈fp,∀o,h.get? b=some o->h'.get? b=some o)->tn i h'
 item:∀(X:Cx),X.prog=P->X.w=w->X.K=K->X.calm=true->∀(i:Nat) (pins:List (Addr×Obj)) (s:Ae) (σ:St) (H:Hp) (E:Value->Ae->Prop),Inv X pins σ H s->(∀b∈fp,jS X pins H b)->tn i s.heap->J.go i H ->
  Au (A3 P w) X.A (D5 (.ref it)) (λr s1=>∃u,r=some u /\
   Au (A3 P w) X.A (Da tg (.ref it) u) (λ_ s2=>∃x H',Inv X pins σ H' s2/\bI x u/\J.yld i H x H'/\tn (i+1) s2.heap/\∀b∈fp,H' b=none) E s1) E s
 done:∀(X:Cx),X.prog=P->X.w=w->X.K=K->X.calm=true->∀(i:Nat) (pins:List (Addr×Obj)) (s:Ae) (σ:St) (H:Hp) (E:Value->Ae->Prop),Inv X pins σ H s->(∀b∈fp,jS X pins H b)->tn i s.heap->J.stop i H ->
  Au (A3 P w) X.A (D5 (.ref it)) (λr s1=>r=none/\Inv X pins σ H s1) E s
 self:∀(A:AY) (i:Nat) (s:Ae) (Q:Value->Ae->Prop) (E:Value->Ae->Prop),tn i s.heap->Q (.ref it) s->Au (A3 P w) A (GA (.ref it)) Q E s
abbrev TI:=St->Hp->(It->Hp->Prop)->Prop
def PIE(X:Cx)(pins:List (Addr×Obj))(σ:St)(tg:Ah)(R:It->Hp->Prop)(itv:Value)(s2:Ae):Prop:=
 ∃(it:Addr) (fp:List Addr) (tn:Nat->Heap->Prop) (J:It) (H':Hp),itv=.ref it/\Inv X pins σ H' s2/\tZ X.prog X.w X.K tg J fp it tn/\tn 0 s2.heap/\(∀b∈fp,jS X pins H' b)/\R J H'
def PI(X:Cx)(tg iter:Ah)(wi:TI):Prop:=
 ∀(pins:List (Addr×Obj)) (s:Ae) (σ:St) (H:Hp) (R:It->Hp->Prop),Inv X pins σ H s->wi σ H R ->
  Au (A3 X.prog X.w) X.A (C3 iter X.env) (λv s1=>Au (A3 X.prog X.w) X.A (GA v) (PIE X pins σ tg R) X.xe s1) X.xe s
theorem nX{M:Hy}{A:AY}{E:Value->Ae->Prop}{s:Ae}{tg:Ah}{it:Addr}{u:Value}{o:Obj}{n:String}{vs:Array Value}{Q:Unit->Ae->Prop}(ho:s.heap.get? it=some o)(hc:o.cls=.type n)(hd:o.data=.fields vs)
 (hn:["enumerate", "zip", "dict_itemiterator", "dict_reverseitemiterator", "odict_iterator", "itertools.zip_longest", "itertools.pairwise"].contains n=false) (hQ:Q () s):Au M A (Da tg (.ref it) u) Q E s:=by
 unfold Da
 cases tg <;> first
  | exact Ar hQ
  | (cases u <;> first
   | exact Ar hQ
   | (refine Aa (wpAny_load ho ?_)
      rw[hc,hd]
      show Au M A (if (["enumerate", "zip", "dict_itemiterator", "dict_reverseitemiterator", "odict_iterator", "itertools.zip_longest", "itertools.pairwise"].contains n&&vs[0]?==some (Em _))=true then _ else _) Q E s
      rw[if_neg (by intro h;rw[hn,CI] at h;cases h)]
      exact Ar hQ))
def Itl(K:Ak)(a:Addr):It:=
 ⟨λi H=>∃xs x,SqL K H a xs/\xs[i]? = some x,λi H x H'=>H'=H/\∀xs,SqL K H a xs->xs[i]? = some x,λi H=>∃xs,SqL K H a xs/\xs.length<=i⟩
def Itt(K:Ak)(a:Addr):It:=
 ⟨λi H=>∃xs x,SqT K H a xs/\xs[i]? = some x,λi H x H'=>H'=H/\∀xs,SqT K H a xs->xs[i]? = some x,λi H=>∃xs,SqT K H a xs/\xs.length<=i⟩
def Itr(lo:Int)(n:Nat):It:=⟨λi _=>i<n,λi H x H'=>H'=H/\x=.int (lo+i),λi _=>n<=i⟩
theorem qD{P:Av}{w:AG}{K:Ak}{tg:Ah}(a it:Addr):tZ P w K tg (Itl K a) [it] it (λi h=>h.IsListIter it a i) where
 mem:=by simp
 obj:=λi h st b hb=>by
  have e:b=it:=by simpa using hb
  subst e
  obtain⟨o,e,c,d⟩:=st
  exact⟨o,e,λv z=>by rw[d] at z;cases z⟩
 keep:=λi h h' st k=>st.at λo e=>k it (by simp) o e
 item:=by
  intro X hP hw hK hc i pins s σ H E I hf st hg
  subst hP hw hK
  obtain⟨xs,x,hq,hx⟩:=hg
  obtain⟨its,rv,p,hz⟩:=I.list hq
  obtain⟨u,hu,ru⟩:=rv.get hx
  obtain⟨f0,f1,f2,f3,f4,f5⟩:=hf it (by simp)
  refine wpAny_pyNext_list_item st p.isList (x:=u) (by simpa using hu) λh' st' sb=>?_
  have I1:Inv X pins σ H { s with heap:=h' }:=I.turned (t':=s.toks) (λb o hb e=>(sb.2 b hb).trans e) f0 f1 f3 f4 f5
  obtain⟨o,e,c,d⟩:=id st'
  exact⟨u,rfl,nX (s:={ s with heap:=h' }) e c d (by decide) ⟨x,H,I1,ru,⟨rfl,λys hy=>by rw[I.list_inj hy hq];exact hx⟩,st',λb hb=>(hf b hb).1⟩⟩
 done:=by
  intro X hP hw hK hc i pins s σ H E I hf st hg
  subst hP hw hK
  obtain⟨xs,hq,hx⟩:=hg
  obtain⟨its,rv,p,hz⟩:=I.list hq
  obtain⟨f0,f1,f2,f3,f4,f5⟩:=hf it (by simp)
  have hl:=rv.length
  exact wpAny_pyNext_list_end (I.ok.hd hc) st p.isList (by simp;omega) λh' eb=>⟨rfl,I.turned (t':=s.toks) (λb o hb e=>eb b o hb e) f0 f1 f3 f4 f5⟩
 self:=λ_ _ _ _ _ st h=>wpAny_pyIter_listiter st h
theorem wZ{P:Av}{w:AG}{K:Ak}{tg:Ah}(a it:Addr):tZ P w K tg (Itt K a) [it] it (λi h=>h.IsTupleIter it a i) where
 mem:=by simp
 obj:=λi h st b hb=>by
  have e:b=it:=by simpa using hb
  subst e
  obtain⟨o,e,c,d⟩:=st
  exact⟨o,e,λv z=>by rw[d] at z;cases z⟩
 keep:=λi h h' st k=>st.at λo e=>k it (by simp) o e
 item:=by
  intro X hP hw hK hc i pins s σ H E I hf st hg
  subst hP hw hK
  obtain⟨xs,x,hq,hx⟩:=hg
  obtain⟨its,rv,p,hz⟩:=I.tuple hq
  obtain⟨u,hu,ru⟩:=rv.get hx
  obtain⟨f0,f1,f2,f3,f4,f5⟩:=hf it (by simp)
  refine wpAny_pyNext_tuple_item st (show s.heap.IsTuple a its.toArray from p) (x:=u) (by simpa using hu) λh' st' sb=>?_
  have I1:Inv X pins σ H { s with heap:=h' }:=I.turned (t':=s.toks) (λb o hb e=>(sb.2 b hb).trans e) f0 f1 f3 f4 f5
  obtain⟨o,e,c,d⟩:=id st'
  exact⟨u,rfl,nX (s:={ s with heap:=h' }) e c d (by decide) ⟨x,H,I1,ru,⟨rfl,λys hy=>by rw[I.tuple_inj hy hq];exact hx⟩,st',λb hb=>(hf b hb).1⟩⟩
 done:=by
  intro X hP hw hK hc i pins s σ H E I hf st hg
  subst hP hw hK
  obtain⟨xs,hq,hx⟩:=hg
  obtain⟨its,rv,p,hz⟩:=I.tuple hq
  obtain⟨f0,f1,f2,f3,f4,f5⟩:=hf it (by simp)
  have hl:=rv.length
  exact wpAny_pyNext_tuple_end (I.ok.hd hc) st (show s.heap.IsTuple a its.toArray from p) (by simp;omega) λh' eb=>⟨rfl,I.turned (t':=s.toks) (λb o hb e=>eb b o hb e) f0 f1 f3 f4 f5⟩
 self:=λ_ _ _ _ _ st h=>wpAny_pyIter_tupleiter st h
theorem xA{P:Av}{w:AG}{K:Ak}{tg:Ah}(it:Addr)(lo:Int)(n:Nat):tZ P w K tg (Itr lo n) [it] it (λi h=>GP h it (lo+(i:Nat)*1) ((n:Int)-(i:Nat)) 1) where
 mem:=by simp
 obj:=λi h st b hb=>by
  have e:b=it:=by simpa using hb
  subst e
  exact⟨_,st,λv z=>by
   have z':F3 _=Ew v:=z
   cases z'⟩
 keep:=λi h h' st k=>k it (by simp) _ st
 item:=by
  intro X hP hw hK hc i pins s σ H E I hf st hg
  subst hP hw hK
  obtain⟨f0,f1,f2,f3,f4,f5⟩:=hf it (by simp)
  have W:=Walks.range (prog:=X.prog) (w:=X.w) (I.ok.hd hc) it lo 1 n
  refine W.item i s _ _ hg st λv h' tk hv st' kk=>?_
  obtain⟨t,rfl⟩:=hv
  have I1:Inv X pins σ H { s with heap:=h',toks:=tk }:=I.turned (λb o hb e=>kk b o (by simpa using hb) e) f0 f1 f3 f4 f5
  refine⟨_,rfl,nX (s:={ s with heap:=h',toks:=tk }) (n:= "range_iterator") st' rfl rfl (by decide) ⟨.int (lo+i),H,I1,⟨t,?_⟩,⟨rfl,rfl⟩,st',λb hb=>(hf b hb).1⟩⟩
  rw[Int.mul_one]
 done:=by
  intro X hP hw hK hc i pins s σ H E I hf st hg
  subst hP hw hK
  obtain⟨f0,f1,f2,f3,f4,f5⟩:=hf it (by simp)
  exact wpAny_pyNext_range_end (I.ok.hd hc) st (by have:n<=i:=hg;omega) λh' eb=>⟨rfl,I.turned (t':=s.toks) (λb o hb e=>eb b o hb e) f0 f1 f3 f4 f5⟩
 self:=λ_ _ _ _ _ st h=>wpAny_pyIter_rangeiter st h
end L2
namespace L2
open PySem PySem.Spec PyProof.Rows
section
variable {X:Cx} {tg:Ah}
def aIt(K:Ak)(tl:TE):TI:=λσ H R=>tl σ H λx H1=>∃a,x=.ref a/\(∃xs,SqL K H1 a xs)/\R (Itl K a) H1
theorem zF{l:Ah}{tl:TE}(hl:PE X l tl):PI X tg l (aIt X.K tl):=by
 intro pins s σ H R I h
 refine thn (hl pins s σ H _ I h) λv s1 ⟨x,H1,I1,r1,q1⟩=>?_
 obtain⟨a,e,⟨xs,hq⟩,q⟩:=q1
 subst e
 cases r1
 obtain⟨its,rv,p,hz⟩:=I1.list hq
 refine Cv p.isList ?_
 refine⟨s1.heap.objs.size,[s1.heap.objs.size],_,_,H1,rfl,I1.kept (t':=s1.toks) λb o e=>Ab _ e,qD a _,⟨_,As _ rfl,rfl,rfl⟩,λb hb=>?_,q⟩
 have e:b=s1.heap.objs.size:=by simpa using hb
 subst e
 exact I1.fpOk (Aj _) (I1.hok.fresh (Aj _))
theorem uA{pins:List (Addr×Obj)}{σ:St}{H:Hp}{s:Ae}{R:It->Hp->Prop}{E:Value->Ae->Prop}{lo hi:Int}{t u v:Tok}{tk:Nat}(I:Inv X pins σ H s)(h1:-(2 ^ 62)<=lo)(h2:lo<2 ^ 62)(h3:-(2 ^ 62)<=hi)(h4:hi<2 ^ 62)
 (q:R (Itr lo (hi-lo).toNat) H):Au (A3 X.prog X.w) X.A (GA (.ref s.heap.objs.size)) (PIE X pins σ tg R) E { s with heap:=s.heap.push { cls:=.type "range",data:=.fields #[.int lo t,.int hi u,.int 1 v] },toks:=tk }:=by
 refine wpAny_pyIter_range (IsRange.new ..) (small_one h1 h2 h3 h4) ?_
 have I1:Inv X pins σ H { s with heap:=s.heap.push { cls:=.type "range",data:=.fields #[.int lo t,.int hi u,.int 1 v] },toks:=tk }:=I.kept λb o e=>Ab _ e
 refine⟨(s.heap.push { cls:=.type "range",data:=.fields #[.int lo t,.int hi u,.int 1 v] }).objs.size,[(s.heap.push { cls:=.type "range",data:=.fields #[.int lo t,.int hi u,.int 1 v] }).objs.size],_,_,H,rfl,
  I1.kept (t':=tk) λb o e=>Ab _ e,xA _ lo (hi-lo).toNat,?_,λb hb=>?_,q⟩
 . have e1:lo+((0:Nat):Int)*1=lo:=by simp
   have e2:(((hi-lo).toNat:Nat):Int)-((0:Nat):Int)=G2 lo hi 1:=by rw[rangeSize_one];split <;> omega
   show GP _ _ (lo+((0:Nat):Int)*1) ((((hi-lo).toNat:Nat):Int)-((0:Nat):Int)) 1
   rw[e1,e2]
   exact As _ rfl
 . have e:b=(s.heap.push { cls:=.type "range",data:=.fields #[.int lo t,.int hi u,.int 1 v] }).objs.size:=by simpa using hb
   subst e
   exact I1.fpOk (Aj _) (I1.hok.fresh (Aj _))
def aIu(ta:TA):TI:=λσ H R=>ta σ H λvs H1=>∃j:Int,vs=[.int j]/\-(2 ^ 62)<=j/\j<2 ^ 62/\R (Itr 0 j.toNat) H1
def aIv(ta:TA):TI:=λσ H R=>ta σ H λvs H1=>∃i j:Int,vs=[.int i,.int j]/\(-(2 ^ 62)<=i/\i<2 ^ 62/\-(2 ^ 62)<=j/\j<2 ^ 62)/\R (Itr i (j-i).toNat) H1
theorem lO{a:Ah}{ta:TA}{p pos:BX}(hg:Gl X "range")(hm:X.mg "range" = none)(ha:PA X [a] ta)(hs:AN [a] X.env=[(false,C3 a X.env)]:=by rfl):PI X tg (.Call (.Name "range" p) [a] [] pos) (aIu ta):=by
 intro pins s σ H R I h
 refine Hz (gU I hg hm boot_range (Bn (thn (ha pos pins s σ H _ I h) λus s1 ⟨vs,H1,I1,r1,q1⟩=>?_) hs rfl))
 obtain⟨j,e,q1,q2,q⟩:=q1
 subst e
 cases r1 with
 | cons r rr=>
  cases rr
  obtain⟨t,rfl⟩:=r
  exact call_range_1 (uA I1 (by omega) (by omega) q1 q2 (by simpa using q))
theorem aAH{a b:Ah}{ta:TA}{p pos:BX}(hg:Gl X "range")(hm:X.mg "range" = none)(ha:PA X [a,b] ta)(hs:AN [a,b] X.env=[(false,C3 a X.env),(false,C3 b X.env)]:=by rfl)(hs2:AN [b] X.env=[(false,C3 b X.env)]:=by rfl) :
 PI X tg (.Call (.Name "range" p) [a,b] [] pos) (aIv ta):=by
 intro pins s σ H R I h
 refine Hz (gU I hg hm boot_range (Bn (thn (ha pos pins s σ H _ I h) λus s1 ⟨vs,H1,I1,r1,q1⟩=>?_) (by rw[hs,hs2]) (by rw[hs2];rfl)))
 obtain⟨i,j,e,⟨q1,q2,q3,q4⟩,q⟩:=q1
 subst e
 cases r1 with
 | cons r rr=>
  cases rr with
  | cons r' rr=>
   cases rr
   obtain⟨t,rfl⟩:=r
   obtain⟨t',rfl⟩:=r'
   exact call_range_2 (uA I1 q1 q2 q3 q4 q)
def aLf(wi:TI)(g:TG)(tb:TS):TS:=λD σ H=>wi σ H λJ H1=>∃W:Nat->Nat->St->Hp->Prop,(∃m,W 0 m σ H1)/\∀i m σ H,W i m σ H ->
 (J.stop i H/\D.nx σ H)\/(J.go i H/\∃N:St->Hp->Prop,(∀σ' H',N σ' H'->∃m',m'<m/\W (i+1) m' σ' H')/\∀x H',J.yld i H x H'->g x σ H' λσ2 H2=>tb { D with nx:=N,ct:=N,bk:=D.nx } σ2 H2)
def nY(fp:List Addr)(h:Heap):List (Addr×Obj):=fp.filterMap λb=>(h.get? b).map λo=>(b,o)
theorem gB{fp:List Addr}{h:Heap}{b:Addr}{o:Obj}(hb:b∈fp)(e:h.get? b=some o):(b,o)∈nY fp h:=Cf.mpr ⟨b,hb,by rw[e];rfl⟩
theorem aAI{fp:List Addr}{h:Heap}{p:Addr×Obj}(hp:p∈nY fp h):p.1∈fp/\h.get? p.1=some p.2:=by
 obtain⟨b,hb,e⟩:=Cf.mp hp
 cases q:h.get? b with
 | none=>rw[q] at e;cases e
 | some o=>
  rw[q] at e
  have e':(b,o)=p:=Ai e
  subst e'
  exact⟨hb,q⟩
theorem Inv.pinned{pins:List (Addr×Obj)}{σ:St}{H:Hp}{s:Ae}{fp:List Addr}(I:Inv X pins σ H s)(hf:∀b∈fp,jS X pins H b)(ho:∀b∈fp,∃o,s.heap.get? b=some o/\∀v,o.data≠.cell v):Inv X (pins++nY fp s.heap) σ H s:=
 I.pins_of λp hp=>(AS.mp hp).elim (λz=>I.pin p (A2 _ z)) λz=>by
  obtain⟨hb,e⟩:=aAI z
  obtain⟨f0,f1,f2,_⟩:=hf p.1 hb
  obtain⟨o,e',d⟩:=ho p.1 hb
  rw[e] at e';cases e'
  exact⟨e,f0,f1,f2,d⟩
theorem Inv.unpinned{pins pl:List (Addr×Obj)}{σ:St}{H:Hp}{s:Ae}(I:Inv X (pins++pl) σ H s):Inv X pins σ H s:=I.pins_of λp hp=>I.pin p (A2 _ (Bd _ hp))
theorem rP{iter:Ah}{body:List Br}{wi:TI}{g:TG}{tb:TS}{pos:BX}(hp:Dk (A3 X.prog X.w) X.A X.env X.xe)(hc:X.calm=true)(hi:PI X tg iter wi)(hg:PG X tg g)(hb:PSs X body tb)
 (hs:∀x,B4 iter X.env x=pure x:=by intro _;rfl):PS X (.For tg iter body [] pos) (aLf wi g tb):=by
 intro pins s σ H D I h
 refine wpAny_For (thn (hi pins s σ H _ I h) λv s1 h1=>thn h1 λitv s2 h2=>?_) hs
 obtain⟨it,fp,tn,J,H2,e,I2,T,st2,f2,W,⟨m0,w0⟩,turn⟩:=h2
 subst e
 have stat:∀{H':Hp},(∀b∈fp,H' b=none)->∀b∈fp,jS X pins H' b:=λhn b hb=>⟨hn b hb,(f2 b hb).2⟩
 refine codeAny_forLoop_any (λn s'=>∃i σ' H',Inv X pins σ' H' s'/\tn i s'.heap/\(∀b∈fp,H' b=none)/\W i n σ' H') ?_ m0 ⟨0,σ,H2,I2,st2,λb hb=>(f2 b hb).1,w0⟩
 rintro n s3 ⟨i,σ3,H3,I3,st3,fr3,w3⟩
 rcases turn i n σ3 H3 w3 with⟨stop,qn⟩|⟨go,N,hN,step⟩
 . refine BK hp (thn (T.done X rfl rfl rfl hc i pins s3 σ3 H3 X.xe I3 (stat fr3) st3 stop) λr s4 ⟨hr,I4⟩=>?_)
   subst hr
   exact CA ⟨σ3,H3,I4,qn⟩
 . refine BK hp (thn (T.item X rfl rfl rfl hc i pins s3 σ3 H3 X.xe I3 (stat fr3) st3 go) λr s4 ⟨u,hr,h4⟩=>?_)
   subst hr
   refine BK hp (thn h4 λ_ s5 ⟨x,H5,I5,r5,y5,st5,fr5⟩=>?_)
   have I5':=I5.pinned (stat fr5) (T.obj _ _ st5)
   refine BK hp (thn (hg _ s5 σ3 H5 x u _ I5' r5 (step x H5 y5)) λ_ s6 ⟨σ6,H6,I6,q6⟩=>?_)
   refine BK hp (thn (hb _ s6 σ6 H6 _ I6 q6) λf s7 q7=>?_)
   have again:∀{σ7:St} {H7:Hp},Inv X (pins++nY fp s5.heap) σ7 H7 s7->N σ7 H7->∃m,m<n/\∃i σ' H',Inv X pins σ' H' s7/\tn i s7.heap/\(∀b∈fp,H' b=none)/\W i m σ' H':=λ{σ7 H7} I7 n7=>by
    obtain⟨m',hm,w7⟩:=hN σ7 H7 n7
    refine⟨m',hm,i+1,σ7,H7,I7.unpinned,T.keep _ _ _ st5 λb hb o e=>(I7.pin (b,o) (A2 _ (A2 _ (gB hb e)))).1,λb hb=>?_,w7⟩
    obtain⟨o,e,d⟩:=T.obj _ _ st5 b hb
    exact(I7.pin (b,o) (A2 _ (A2 _ (gB hb e)))).2.1
   cases f with
   | next=>obtain⟨σ7,H7,I7,n7⟩:=q7;exact again I7 n7
   | cont=>obtain⟨σ7,H7,I7,n7⟩:=q7;exact again I7 n7
   | brk=>obtain⟨σ7,H7,I7,q7⟩:=q7;exact⟨σ7,H7,I7.unpinned,q7⟩
   | ret v=>obtain⟨x7,σ7,H7,I7,r7,q7⟩:=q7;exact⟨x7,σ7,H7,I7.unpinned,r7,q7⟩
end
theorem uB{K:Ak}{a:Addr}{xs:List V}{g:TG}{tb:TS}{D:Ends}{σ:St}{H:Hp}(Pv:Nat->St->Hp->Prop)(h0:Pv 0 σ H)(hl:∀i σ H,i<=xs.length->Pv i σ H->SqL K H a xs)
 (hs:∀i x σ H,xs[i]? = some x->Pv i σ H->g x σ H λσ2 H2=>tb { D with nx:=Pv (i+1),ct:=Pv (i+1),bk:=D.nx } σ2 H2) (hd:∀σ H,Pv xs.length σ H->D.nx σ H) :
 ∃W:Nat->Nat->St->Hp->Prop,(∃m,W 0 m σ H)/\∀i m σ H,W i m σ H ->
  ((Itl K a).stop i H/\D.nx σ H)\/((Itl K a).go i H/\∃N:St->Hp->Prop,(∀σ' H',N σ' H'->∃m',m'<m/\W (i+1) m' σ' H')/\∀x H',(Itl K a).yld i H x H'->g x σ H' λσ2 H2=>tb { D with nx:=N,ct:=N,bk:=D.nx } σ2 H2):=by
 refine⟨λi m σ H=>m=xs.length-i/\i<=xs.length/\Pv i σ H,⟨xs.length,by simp,BD _,h0⟩,?_⟩
 rintro i m σ H ⟨rfl,hi,p⟩
 have q:=hl i σ H hi p
 by_cases hlt:i<xs.length
 . refine .inr ⟨⟨xs,xs[i],q,by simp[hlt]⟩,Pv (i+1),λσ' H' p'=>⟨xs.length-(i+1),by omega,rfl,hlt,p'⟩,λx H' y=>?_⟩
   obtain⟨e,y⟩:=y
   subst e
   exact hs i x σ _ (y xs q) p
 . have e:i=xs.length:=by omega
   subst e
   exact .inl ⟨⟨xs,q,Aj _⟩,hd σ H p⟩
end L2
namespace L2
open PySem PySem.Spec PyProof.Rows
abbrev R2:=V->V->Hp->VK->Prop
def OpR(X:Cx)(f:Value->Value->Hx Value)(r:R2):Prop:=
 ∀(pins:List (Addr×Obj)) (s:Ae) (σ:St) (H:Hp) (x y:V) (v u:Value) (Q:VK),Inv X pins σ H s->bI x v->bI y u->r x y H Q ->
  Au (A3 X.prog X.w) X.A (f v u) (EP X pins σ Q) X.xe s
def UnR(X:Cx)(f:Value->Hx Value)(r:V->Hp->VK->Prop):Prop:=
 ∀(pins:List (Addr×Obj)) (s:Ae) (σ:St) (H:Hp) (x:V) (v:Value) (Q:VK),Inv X pins σ H s->bI x v->r x H Q ->
  Au (A3 X.prog X.w) X.A (f v) (EP X pins σ Q) X.xe s
def eZ(X:Cx)(f:Value)(r:List V->Hp->VK->Prop):Prop:=
 ∀(pins:List (Addr×Obj)) (s:Ae) (σ:St) (H:Hp) (xs:List V) (us:List Value) (Q:VK),Inv X pins σ H s->aV xs us->r xs H Q ->
  Au (A3 X.prog X.w) X.A (call f us) (EP X pins σ Q) X.xe s
def aLg(X:Cx)(r:V->Hp->(Bool->Hp->Prop)->Prop):Prop:=
 ∀(pins:List (Addr×Obj)) (s:Ae) (σ:St) (H:Hp) (x:V) (v:Value) (Q:Bool->Hp->Prop),Inv X pins σ H s->bI x v->r x H Q ->
  Au (A3 X.prog X.w) X.A (truthy v) (TP X pins σ Q) X.xe s
def tOp(r:R2)(ta tb:TE):TE:=λσ H Q=>ta σ H λx H1=>tb σ H1 λy H2=>r x y H2 Q
def tUn(r:V->Hp->VK->Prop)(ta:TE):TE:=λσ H Q=>ta σ H λx H1=>r x H1 Q
def rI(C:Int->Int->Prop)(g:Int->Int->V):R2:=λx y H Q=>∃i j,x=.int i/\y=.int j/\C i j/\Q (g i j) H
def rI0(g:Int->Int->V):R2:=λx y H Q=>∃i j,x=.int i/\y=.int j/\Q (g i j) H
def rU(g:Int->V):V->Hp->VK->Prop:=λx H Q=>∃i,x=.int i/\Q (g i) H
section
variable {X:Cx} {a b c:Ah} {ta tb tc:TE} {pos:BX}
theorem aIw(ha:PE X a ta)(hb:PE X b tb){pins:List (Addr×Obj)}{s:Ae}{σ:St}{H:Hp}{R:V->V->Hp->Prop}(I:Inv X pins σ H s)
 (h:ta σ H λx H1=>tb σ H1 λy H2=>R x y H2) {Q:Value->Ae->Prop} {f:Value->Value->Hx Value}
 (hf:∀v u s2 x y H2,Inv X pins σ H2 s2->bI x v->bI y u->R x y H2->Au (A3 X.prog X.w) X.A (f v u) Q X.xe s2) :
 Au (A3 X.prog X.w) X.A (C3 a X.env) (λv s₁=>Au (A3 X.prog X.w) X.A (C3 b X.env) (λu s₂=>Au (A3 X.prog X.w) X.A (f v u) Q X.xe s₂) X.xe s₁) X.xe s:=by
 refine thn (ha pins s σ H _ I h) λv s1 ⟨x,H1,I1,r1,q1⟩=>?_
 refine thn (hb pins s1 σ H1 _ I1 q1) λu s2 ⟨y,H2,I2,r2,q2⟩=>?_
 exact hf v u s2 x y H2 I2 r1 r2 q2
theorem aIx{op:UnaryOp}{r:V->Hp->VK->Prop}(ho:UnR X (unaryOp op) r)(ha:PE X a ta):PE X (.UnaryOp op a pos) (tUn r ta):=by
 intro pins s σ H Q I h
 exact UnaryOp_ (thn (ha pins s σ H _ I h) λv s1 ⟨x,H1,I1,r1,q1⟩=>ho pins s1 σ H1 x v Q I1 r1 q1)
theorem opI{f:Value->Value->Hx Value}{C:Int->Int->Prop}{g:Int->Int->Int}
 (rule:∀(i j:Int) (t u:Tok) (s:Ae) (Q:Value->Ae->Prop) (E:Value->Ae->Prop),C i j->Q (.int (g i j) s.toks) { s with toks:=s.toks+1 }->Au (A3 X.prog X.w) X.A (f (.int i t) (.int j u)) Q E s) :
 OpR X f (rI C λi j=>.int (g i j)):=by
 intro pins s σ H x y v u Q I rx ry h
 obtain⟨i,j,rfl,rfl,hc,q⟩:=h
 obtain⟨t,rfl⟩:=rx
 obtain⟨t',rfl⟩:=ry
 exact rule i j t t' s _ _ hc ⟨.int (g i j),H,I.tok _,⟨_,rfl⟩,q⟩
theorem aIy{f:Value->Value->Hx Value}{g:Int->Int->Int}
 (rule:∀(i j:Int) (t u:Tok) (s:Ae) (Q:Value->Ae->Prop) (E:Value->Ae->Prop),Q (.int (g i j) s.toks) { s with toks:=s.toks+1 }->Au (A3 X.prog X.w) X.A (f (.int i t) (.int j u)) Q E s) :
 OpR X f (rI0 λi j=>.int (g i j)):=by
 intro pins s σ H x y v u Q I rx ry h
 obtain⟨i,j,rfl,rfl,q⟩:=h
 obtain⟨t,rfl⟩:=rx
 obtain⟨t',rfl⟩:=ry
 exact rule i j t t' s _ _ ⟨.int (g i j),H,I.tok _,⟨_,rfl⟩,q⟩
theorem aDM{f:Value->Value->Hx Value}{g:Int->Int->Bool}
 (rule:∀(i j:Int) (t u:Tok) (s:Ae) (Q:Value->Ae->Prop) (E:Value->Ae->Prop),Q (.bool (g i j)) s->Au (A3 X.prog X.w) X.A (f (.int i t) (.int j u)) Q E s) :
 OpR X f (rI0 λi j=>.bl (g i j)):=by
 intro pins s σ H x y v u Q I rx ry h
 obtain⟨i,j,rfl,rfl,q⟩:=h
 obtain⟨t,rfl⟩:=rx
 obtain⟨t',rfl⟩:=ry
 exact rule i j t t' s _ _ ⟨.bl (g i j),H,I,rfl,q⟩
def aLh(i j:Int):Prop:=0<j/\j<1073741824
def aLi(i j:Int):Prop:=0<=j/\j<=1000000/\i.natAbs<2 ^ 64
def aFY(i j:Int):Prop:=(-(2 ^ 64)<i/\i<2 ^ 64)\/(-(2 ^ 64)<j/\j<2 ^ 64)
theorem aFY.ok{i j:Int}(h:aFY i j):IntMulOk i j:=by
 rcases h with⟨h1,h2⟩|⟨h1,h2⟩
 . exact .of_left (Gp h1 h2)
 . exact .of_right (Gp h1 h2)
theorem aFZ:OpR X (BY .Add) (rI0 λi j=>.int (i+j)):=aIy λ_ _ _ _ _ _ _ q=>add_int q
theorem aGa:OpR X (BY .Sub) (rI0 λi j=>.int (i-j)):=aIy λ_ _ _ _ _ _ _ q=>sub_int q
theorem aGb:OpR X (BY .Mult) (rI aFY λi j=>.int (i*j)):=opI λ_ _ _ _ _ _ _ hc q=>mul_int q hc.ok
theorem aDN:OpR X (BY .FloorDiv) (rI aLh λi j=>.int (i / j)):=opI λi j _ _ _ _ _ hc q=>by
 have h1:(0:Int)<j:=hc.1
 have h2:j<1073741824:=hc.2
 exact floordiv_int (by omega) (by rw[Int.fdiv_eq_ediv_of_nonneg i (by omega)];exact q) (.inl (PyProof.noPylong_small (by omega)))
theorem aGc:OpR X (BY .Mod) (rI (λ_ j=>0<j) λi j=>.int (i % j)):=opI λi j _ _ _ _ _ hc q=>by
 have h1:(0:Int)<j:=hc
 exact mod_int' (by omega) (by rw[Int.fmod_eq_emod_of_nonneg i (by omega)];exact q)
theorem aGd:OpR X (BY .Pow) (rI aLi λi j=>.int (i ^ j.toNat)):=opI λ_ _ _ _ _ _ _ hc q=>pow_int_small hc.1 hc.2.1 hc.2.2 q
theorem unI{f:Value->Hx Value}{g:Int->Int}
 (rule:∀(i:Int) (t:Tok) (s:Ae) (Q:Value->Ae->Prop) (E:Value->Ae->Prop),Q (.int (g i) s.toks) { s with toks:=s.toks+1 }->Au (A3 X.prog X.w) X.A (f (.int i t)) Q E s) :
 UnR X f (rU λi=>.int (g i)):=by
 intro pins s σ H x v Q I rx h
 obtain⟨i,rfl,q⟩:=h
 obtain⟨t,rfl⟩:=rx
 exact rule i t s _ _ ⟨.int (g i),H,I.tok _,⟨_,rfl⟩,q⟩
theorem aGe:UnR X (unaryOp .USub) (rU λi=>.int (-i)):=unI λ_ _ _ _ _ q=>neg_int q
end
section
variable {X:Cx} {a b c:Ah} {ta tb tc:TE} {pos:BX}
theorem xB{pins:List (Addr×Obj)}{σ:St}{H:Hp}{s:Ae}{Q:VK}{k k':Bool}(I:Inv X pins σ H s)(q:Q (.bl k) H)(e:k=k'):EP X pins σ Q (.bool k') s:=by
 subst e
 exact⟨.bl k,H,I,rfl,q⟩
theorem aIz:OpR X (Bt .Lt) (rI0 λi j=>.bl (decide (i<j))):=aDM λ_ _ _ _ _ _ _ q=>lt_int q
theorem aIA:OpR X (Bt .LtE) (rI0 λi j=>.bl (decide (i<=j))):=aDM λ_ _ _ _ _ _ _ q=>le_int q
theorem aIB:OpR X (Bt .Gt) (rI0 λi j=>.bl (decide (j<i))):=aDM λ_ _ _ _ _ _ _ q=>gt_int q
theorem aIC:OpR X (Bt .GtE) (rI0 λi j=>.bl (decide (j<=i))):=aDM λ_ _ _ _ _ _ _ q=>ge_int q
theorem aAJ:OpR X (Bt .In) (λx y H Q=>∃i j,x=.str i/\y=.str j/\Q (.bl (!(BZ j i 0 j.length 1).isEmpty)) H):=by
 intro pins s σ H x y v u Q I rx ry h
 obtain⟨i,j,rfl,rfl,q⟩:=h
 obtain⟨t,rfl⟩:=rx
 obtain⟨t',rfl⟩:=ry
 exact in_str (xB I q rfl)
theorem aGf:OpR X (Bt .Is) (λx y H Q=>y=.non/\Q (.bl (decide (x=.non))) H):=by
 intro pins s σ H x y v u Q I rx ry h
 obtain⟨rfl,q⟩:=h
 cases ry
 refine is_none_gen (xB I q ?_)
 cases x <;> first
  | (cases rx;rfl)
  | (obtain⟨t,rfl⟩:=rx;rfl)
theorem aDO:OpR X (Bt .IsNot) (λx y H Q=>y=.non/\Q (.bl (!decide (x=.non))) H):=by
 intro pins s σ H x y v u Q I rx ry h
 obtain⟨rfl,q⟩:=h
 cases ry
 refine isnot_none_gen (xB I q ?_)
 cases x <;> first
  | (cases rx;rfl)
  | (obtain⟨t,rfl⟩:=rx;rfl)
theorem aDP{op:CmpOp}{r:R2}(ho:OpR X (Bt op) r)(ha:PE X a ta)(hb:PE X b tb)(hm:E7 op b=false):PE X (.Compare a [op] [b] pos) (tOp r ta tb):=by
 intro pins s σ H Q I h
 exact wpAny_Compare1 (aIw ha hb I h λv u s2 x y H2 I2 rx ry q=>ho pins s2 σ H2 x y v u Q I2 rx ry q) hm
def aFl(t:TE):TT:=λσ H Q=>t σ H λx H'=>∃k,x=.bl k/\Q k H'
theorem nL{op:CmpOp}{r:R2}(ho:OpR X (Bt op) r)(ha:PE X a ta)(hb:PE X b tb)(hm:E7 op b=false):PT X (.Compare a [op] [b] pos) (aFl (tOp r ta tb)):=by
 intro pins s σ H Q I h
 refine wpAny_isTrue_Compare1 (thn (ha pins s σ H _ I h) λv s1 ⟨x,H1,I1,r1,q1⟩=>thn (hb pins s1 σ H1 _ I1 q1) λu s2 ⟨y,H2,I2,r2,q2⟩=>
  thn (ho pins s2 σ H2 x y v u _ I2 r1 r2 q2) λc s3 ⟨z,H3,I3,r3,k,e,q3⟩=>?_) hm
 subst e
 cases r3
 exact Bq ⟨H3,I3,q3⟩
def aBK(r r':R2)(ta tb tc:TE):TE:=λσ H Q=>ta σ H λx H1=>tb σ H1 λy H2=>r x y H2 λz H3=>∃k,z=.bl k /\
 (if k=true then tc σ H3 λw' H4=>r' y w' H4 Q else Q (.bl false) H3)
theorem aBL{op op':CmpOp}{r r':R2}(ho:OpR X (Bt op) r)(ho':OpR X (Bt op') r')(ha:PE X a ta)(hb:PE X b tb)(hc:PE X c tc)
 (hm:G3 [op,op'] [b,c]=false:=by with_unfolding_all rfl):PE X (.Compare a [op,op'] [b,c] pos) (aBK r r' ta tb tc):=by
 intro pins s σ H Q I h
 refine Compare_chain (thn (ha pins s σ H _ I h) λv s1 ⟨x,H1,I1,r1,q1⟩=>chain_link (thn (hb pins s1 σ H1 _ I1 q1) λu s2 ⟨y,H2,I2,r2,q2⟩=>
  thn (ho pins s2 σ H2 x y v u _ I2 r1 r2 q2) λd s3 ⟨z,H3,I3,r3,k,e,q3⟩=>?_)) hm
 subst e
 cases r3
 refine Bq ?_
 cases k with
 | false=>exact ite_ff ⟨.bl false,H3,I3,rfl,q3⟩
 | true=>exact ite_tt (chain_last (thn (hc pins s3 σ H3 _ I3 q3) λw' s4 ⟨z',H4,I4,r4,q4⟩=>ho' pins s4 σ H4 y z' u w' Q I4 r2 r4 q4))
theorem aBM{op op':CmpOp}{r r':R2}(ho:OpR X (Bt op) r)(ho':OpR X (Bt op') r')(ha:PE X a ta)(hb:PE X b tb)(hc:PE X c tc)
 (hm:G3 [op,op'] [b,c]=false:=by with_unfolding_all rfl):PT X (.Compare a [op,op'] [b,c] pos) (aFl (aBK r r' ta tb tc)):=by
 intro pins s σ H Q I h
 refine isTrue_chain (thn (ha pins s σ H _ I h) λv s1 ⟨x,H1,I1,r1,q1⟩=>test_link (thn (hb pins s1 σ H1 _ I1 q1) λu s2 ⟨y,H2,I2,r2,q2⟩=>
  thn (ho pins s2 σ H2 x y v u _ I2 r1 r2 q2) λd s3 ⟨z,H3,I3,r3,k,e,q3⟩=>?_)) hm
 subst e
 cases r3
 refine Bq ?_
 cases k with
 | false=>
  obtain⟨k',e',q'⟩:=q3
  cases e'
  exact ite_ff ⟨H3,I3,q'⟩
 | true=>
  refine ite_tt (test_last (thn (hc pins s3 σ H3 _ I3 q3) λw' s4 ⟨z',H4,I4,r4,q4⟩=>thn (ho' pins s4 σ H4 y z' u w' _ I4 r2 r4 q4) λd' s5 ⟨z2,H5,I5,r5,k2,e2,q5⟩=>?_))
  subst e2
  cases r5
  exact Bq ⟨H5,I5,q5⟩
def aDQ(K:Ak)(x:V)(H:Hp)(k:Bool):Prop:=
 match x with
 | .non=>k=false
 | .bl b=>k=b
 | .int i=>k=(i != 0)
 | .str y=>y.length<=sizeLine/\k=((y.length:Int) != 0)
 | .byt y=>y.size<=sizeLine/\k=((y.size:Int) != 0)
 | .ref p=>(∃xs,SqL K H p xs/\k=!xs.isEmpty)\/(∃xs,SqT K H p xs/\k=!xs.isEmpty)\/∃kvs,H p=some (.dK kvs)/\k=!kvs.isEmpty
 | _=>False
theorem xC{κ:Type}{kvs:List (κ×V)}{vs:List (κ×Value)}(r:KV kvs vs):(!vs.isEmpty)=!kvs.isEmpty:=by
 cases r <;> rfl
theorem nZ{xs:List V}{its:List Value}(r:aV xs its):(!its.toArray.isEmpty)=!xs.isEmpty:=by
 cases r <;> simp
theorem jG:(sizeLine:Nat)<2 ^ 63:=by rw[B1];decide
theorem aBN:aLg X (λx H Q=>∃k,aDQ X.K x H k/\Q k H):=by
 intro pins s σ H x v Q I rx h
 obtain⟨k,e,q⟩:=h
 have hl:=jG
 have hs:sizeLine=16777216:=B1
 cases x with
 | non=>
  cases rx
  have e':k=false:=e
  subst e'
  exact truthy_none ⟨H,I,q⟩
 | bl b=>
  cases rx
  have e':k=b:=e
  subst e'
  exact Bq ⟨H,I,q⟩
 | int i=>
  obtain⟨t,rfl⟩:=rx
  have e':k=(i != 0):=e
  subst e'
  exact PySem.P.truthy_int ⟨H,I,q⟩
 | str y=>
  obtain⟨t,rfl⟩:=rx
  obtain⟨hy,e'⟩:y.length<=sizeLine/\k=((y.length:Int) != 0):=e
  subst e'
  exact PySem.P.truthy_str (by omega) ⟨H,I.tok _,q⟩
 | byt y=>
  obtain⟨t,rfl⟩:=rx
  obtain⟨hy,e'⟩:y.size<=sizeLine/\k=((y.size:Int) != 0):=e
  subst e'
  exact PySem.W.truthy_bytes (by omega) ⟨H,I.tok _,q⟩
 | ref p=>
  cases rx
  have e':(∃xs,SqL X.K H p xs/\k=!xs.isEmpty)\/(∃xs,SqT X.K H p xs/\k=!xs.isEmpty)\/∃kvs,H p=some (.dK kvs)/\k=!kvs.isEmpty:=e
  rcases e' with⟨xs,hx,e'⟩|⟨xs,hx,e'⟩|⟨kvs,hx,e'⟩
  . subst e'
    obtain⟨its,r,pl,hz⟩:=I.list hx
    have hlen:=r.length
    exact wpAny_truthy_list pl.isList (by simp only[Af];omega) ⟨H,I.tok _,by rw[nZ r];exact q⟩
  . subst e'
    obtain⟨its,r,pl,hz⟩:=I.tuple hx
    have hlen:=r.length
    exact truthy_tuple pl (by simp only[Af];omega) ⟨H,I.tok _,by rw[nZ r];exact q⟩
  . subst e'
    obtain⟨hz,hS,vs,r,m⟩:kvs.length<=sizeLine/\(p==Dm)=false/\∃vs,KV kvs vs/\s.heap.DictOf (eY X.prog X.w) p vs:=I.hok p _ hx
    have hlen:kvs.length=vs.length:=Gn r
    exact wpAny_truthy_dict hS m (by omega) ⟨H,I.tok _,by rw[xC r];exact q⟩
 | _=>exact(show False from e).elim
theorem aBO(ha:PE X a ta)(he:∀whole,FK a X.env whole=(do let v<-whole;Hl a.pos;FD [v] (truthy v))) :
 PT X a (λσ H Q=>ta σ H λx H'=>∃k,aDQ X.K x H' k/\Q k H'):=by
 intro pins s σ H Q I h
 exact isTrue_plain (thn (ha pins s σ H _ I h) λv s1 ⟨x,H1,I1,r1,q1⟩=>aBN pins s1 σ H1 x v Q I1 r1 q1) (he _)
theorem xD:OpR X (BY .Add) (λx y H Q=>∃i j,x=.str i/\y=.str j/\i.length+j.length<=sizeLine/\Q (.str (i++j)) H):=by
 intro pins s σ H x y v u Q I rx ry h
 obtain⟨i,j,rfl,rfl,hz,q⟩:=h
 obtain⟨t,rfl⟩:=rx
 obtain⟨t',rfl⟩:=ry
 exact add_str (λt' tk=>⟨.str (i++j),H,I.tok _,⟨_,rfl⟩,q⟩) hz
theorem qF{x:V}{us:List Value}(r:aV [x] us):∃u,us=[u]/\bI x u:=by
 cases r with
 | cons r1 r2=>cases r2;exact⟨_,rfl,r1⟩
theorem aID{x y:V}{us:List Value}(r:aV [x,y] us):∃u w',us=[u,w']/\bI x u/\bI y w':=by
 cases r with
 | cons r1 r2=>
  cases r2 with
  | cons r3 r4=>cases r4;exact⟨_,_,rfl,r1,r3⟩
theorem aAK(hc:X.calm=true):eZ X (.builtin "min") (λxs H Q=>∃i j,xs=[.int i,.int j]/\Q (.int (if j<i then j else i)) H):=by
 intro pins s σ H xs us Q I r h
 obtain⟨i,j,rfl,q⟩:=h
 obtain⟨u,w',rfl,⟨t,rfl⟩,⟨t',rfl⟩⟩:=aID r
 refine min_two_ints (I.ok.hd hc) λh' tk k=>⟨_,H,I.kept k,?_,q⟩
 by_cases hj:j<i
 . rw[if_pos hj,if_pos hj];exact⟨_,rfl⟩
 . rw[if_neg hj,if_neg hj];exact⟨_,rfl⟩
end
end L2
namespace L2
open PySem PySem.Spec PyProof.Rows
section
variable {prog:Av} {w:AG} {A:AY} {E:Value->Ae->Prop} {s:Ae} {K:Ak} {x dx C f:Addr} {mA:Str->Option Value} {name:Str} {v:Value}
end
section
variable {P:Av} {w:AG} {H H':Hp} {h h':Heap} {a C dx:Addr} {fs fs':List (Str×V)}
end
section
variable {X:Cx} {pins:List (Addr×Obj)} {σ:St} {H:Hp} {s:Ae} {a C dx:Addr} {fs:List (Str×V)} {f:Str} {v:V} {A:AY} {E:Value->Ae->Prop}
end
section
variable {X:Cx} {o e value:Ah} {f:Str} {pos pos' tpos:BX} {ta tv:TE}
end
section
variable {X:Cx} {pins:List (Addr×Obj)} {σ:St} {H:Hp} {s:Ae} {A:AY} {E:Value->Ae->Prop} {Q:Value->Ae->Prop} {c:Value} {b:Bool}
end
end L2
namespace L2
open PySem PySem.Spec PyProof.Rows
structure jH (k:Nat) (A:AY):Prop where
 hd:A.handled=none
 gd:A.guards=some []
 dp:A.depth+3*k+5<FM
 un:A.units+16*k+200<G4
theorem jH.deeper{k:Nat}{A:AY}(r:jH (k+1) A)(env:Go):jH k (A.deeper env):=
 ⟨r.hd,r.gd,by have:=r.dp;show A.depth+1+3*k+5<_;omega,by have:=r.un;show A.units+3+16*k+200<_;omega⟩
theorem jH.depth{k:Nat}{A:AY}(r:jH k A):A.depth<FM:=by have:=r.dp;omega
def aIE:TA:=λ_ H Q=>Q [] H
def aIF(ta:TE)(tr:TA):TA:=λσ H Q=>ta σ H λx H1=>tr σ H1 λxs H2=>Q (x::xs) H2
section
variable {X:Cx} {e:Ah} {es:List Ah} {te:TE} {t:TA} {pos:BX}
theorem dO:PA X [] aIE:=λ_ _ _ _ H Q I h=>EU ⟨[],H,I,.nil,h⟩
theorem bX(ha:PE X e te)(hr:PA X es t)(hs:AN (e::es) X.env=(false,C3 e X.env)::AN es X.env:=by rfl):PA X (e::es) (aIF te t):=by
 intro pos pins s σ H Q I h
 rw[hs]
 show Au _ _ (G9 ((false,C3 e X.env)::Dp pos (AN es X.env))) _ _ s
 refine Dr (thn (ha pins s σ H _ I h) λu s1 ⟨x,H1,I1,r1,q1⟩=>?_)
 exact thn (hr pos pins s1 σ H1 _ I1 q1) λus s2 ⟨xs,H2,I2,r2,q2⟩=>⟨x::xs,H2,I2,.cons r1 r2,q2⟩
def aLj(t:TA):TE:=λσ H Q=>t σ H λxs H1=>xs.length<=sizeLine/\∀p,H1 p=none->Q (.ref p) (upd H1 p (.tup xs))
def aLk(t:TA):TE:=λσ H Q=>t σ H λxs H1=>xs.length<=sizeLine/\∀p,H1 p=none->Q (.ref p) (upd H1 p (.lst xs))
theorem aBP{x1}(h:PA X es t):PE X (.Tuple es x1 pos) (aLj t):=by
 intro pins s σ H Q I hq
 refine wpAny_Tuple_spliced (thn (h pos pins s σ H _ I hq) λus s1 ⟨xs,H1,I1,r,z,q⟩=>⟨by rw[<-r.length];exact z,?_⟩)
 have hf:H1 s1.heap.objs.size=none:=I1.hok.fresh (Aj _)
 refine⟨.ref s1.heap.objs.size,upd H1 s1.heap.objs.size (.tup xs),I1.laid (t':=s1.toks) (λb u e=>Ab _ e) (Aj _) ?_,rfl,q _ hf⟩
 exact⟨z,us,r,⟨_,As _ rfl,rfl,_,rfl⟩⟩
theorem aGg(h:PA X es t):PE X (.List es pos) (aLk t):=by
 intro pins s σ H Q I hq
 refine wpAny_List_spliced (thn (h pos pins s σ H _ I hq) λus s1 ⟨xs,H1,I1,r,z,q⟩=>⟨by rw[<-r.length];exact z,?_⟩)
 have hf:H1 s1.heap.objs.size=none:=I1.hok.fresh (Aj _)
 refine⟨.ref s1.heap.objs.size,upd H1 s1.heap.objs.size (.lst xs),I1.laid (t':=s1.toks) (λb u e=>Ab _ e) (Aj _) ?_,rfl,q _ hf⟩
 exact⟨z,us,0,r,As _ rfl⟩
end
abbrev Sp:=List V->Hp->VK->XK->Prop
abbrev CXT:=List Go->Hp->Ae->XK->Value->Ae->Prop
structure aDR (P:Av) (w:AG) (K:Ak) (mg:Str->Option Value) (base:Heap) (A:AY) (outer:List Go) (s:Ae) (H:Hp):Prop where
 frames:A.frames=some outer
 mod:Mod K mg base
 bs:∀b o,base.get? b=some o->s.heap.get? b=some o/\H b=none
 bsz:base.objs.size<=s.heap.objs.size
 funs:s.heap.FunFrames base outer
 frf:∀b∈frs outer,H b=none
 hok:HOk P w H s.heap
 bare:D1 s.gens
def CE(outer:List Go)(P:Av)(w:AG)(H:Hp)(s:Ae)(Q:VK)(u:Value)(s':Ae):Prop:=
 ∃v H',s'.os=s.os/\D1 s'.gens/\Un (frs outer) [] H H' s.heap s'.heap/\HOk P w H' s'.heap/\bI v u/\Q v H'
def CR(CX:CXT)(outer:List Go)(P:Av)(w:AG)(H:Hp)(s:Ae)(Q:VK)(E:XK)(r:FN)(s':Ae):Prop:=
 match r with
 | .ok (.ret u)=>CE outer P w H s Q u s'
 | .ok _=>False
 | .error e=>CX outer H s E e s'
structure nD (P:Av) (w:AG) (K:Ak) (mg:Str->Option Value) (base:Heap) (CX:CXT) (k:Nat) (f:Addr) (fd:Cy) (ps:List Str) (sp:Sp):Prop where
 len:∀vs H Q E,sp vs H Q E->vs.length=ps.length
 run:∀(A:AY) (outer:List Go) (s:Ae) (H:Hp) (args:Args) (us:List Value) (vs:List V) (Q:VK) (E:XK),jH k A->aDR P w K mg base A outer s H->GB s fd args (ps.zip us)->aV vs us->sp vs H Q E ->
  DN (A3 P w) A (.call (.ref f) args) (CR CX outer P w H s Q E) s
section
variable {X:Cx} {pins:List (Addr×Obj)} {σ:St} {H:Hp} {s s':Ae}
theorem Inv.env0(I:Inv X pins σ H s):aDR X.prog X.w X.K X.mg X.base X.A X.stack s H:=
 ⟨I.ok.frames,I.ok.mod,I.bs,AW I.ok.bsz I.sz,I.stack,I.stkFree,I.hok,I.bare⟩
theorem Inv.after{Q:VK}{u:Value}(I:Inv X pins σ H s)(h:CE X.stack X.prog X.w H s Q u s'):EP X pins σ Q u s':=by
 obtain⟨v,H',os,bare,un,hok,r,q⟩:=h
 obtain⟨hh,g,d,t,os'⟩:=s'
 obtain rfl:os'=s.os:=os
 exact⟨v,H',I.call (h':=hh) (g':=g) (d':=d) (t':=t) (ch:=[]) un hok bare (λb z=>absurd z (by simp)),r,q⟩
end
def aFm(sp:Sp)(dvs:List V)(E:XK)(t:TA):TE:=λσ H Q=>t σ H λvs H1=>sp (vs++dvs) H1 Q E
def jC(K:Ak)(fd:Cy)(ps:List Str)(ds:List Value):Prop:=
 ∀(s:Ae) (us:List Value),K.In s.heap->(us++ds).length=ps.length->GB s fd ⟨us,[]⟩ (ps.zip (us++ds))
theorem jC.all{K:Ak}{fd:Cy}{ps:List Str}(h:∀us:List Value,us.length=ps.length->FO fd ⟨us,[]⟩=pure (ps.zip us)):jC K fd ps []:=λs us _ hl=>by
 rw[Ax] at hl ⊢
 exact .of_eq (h us hl)
def rQ(CX:CXT)(X:Cx)(E:XK):Prop:=∀(pins:List (Addr×Obj)) (σ:St) (H:Hp) (s:Ae) (e:Value) (s':Ae),Inv X pins σ H s->CX X.stack H s E e s'->X.xe e s'
section
variable {X:Cx} {CX:CXT} {k:Nat} {f C:Addr} {fd:Cy} {ps:List Str} {sp:Sp} {dvs:List V} {ds:List Value} {E:XK} {x m:Str} {p pos apos:BX} {e o:Ah} {es:List Ah} {ta:TE} {t:TA}
theorem aBQ{pins:List (Addr×Obj)}{σ:St}{H:Hp}{s:Ae}{Q:VK}{us:List Value}{vs:List V}(F:nD X.prog X.w X.K X.mg X.base CX k f fd ps sp)(hr:jH k X.A)(hb:jC X.K fd ps ds)(hd:aV dvs ds)(hx:rQ CX X E)
 (I:Inv X pins σ H s) (r:aV vs us) (h:sp (vs++dvs) H Q E):Au (A3 X.prog X.w) X.A (call (.ref f) us) (EP X pins σ Q) X.xe s:=by
 have r2:aV (vs++dvs) (us++ds):=r.append hd
 have hl:(us++ds).length=ps.length:=by rw[<-r2.length];exact F.len _ _ _ _ h
 refine wpAny_call (EV (F.run X.A X.stack s H ⟨us,[]⟩ (us++ds) (vs++dvs) Q E hr I.env0 (hb s us I.kIn hl) r2 h) λr s' hq=>?_)
 cases r with
 | error e=>exact hx pins σ H s e s' I hq
 | ok fl=>
  cases fl with
  | ret u=>exact I.after hq
  | next=>exact BS hq
  | brk=>exact BS hq
  | cont=>exact BS hq
theorem gC(F:nD X.prog X.w X.K X.mg X.base CX k f fd ps sp)(hr:jH k X.A)(hg:Gl X x)(hm:X.mg x=some (.ref f))(hk:BG X.K (.ref f)=true)(hb:jC X.K fd ps ds)(hd:aV dvs ds)(hx:rQ CX X E)
 (ha:PA X (e::es) t) (hdb:(x==("__debug__" : Str))=false:=by decide) (he:AN (e::es) X.env=(false,C3 e X.env)::AN es X.env:=by rfl) (hpl:(Dp pos (AN es X.env)).any (·.1)=false:=by rfl) :
 PE X (.Call (.Name x p) (e::es) [] pos) (aFm sp dvs E t):=by
 intro pins s σ H Q I h
 refine Cg (rM I hg hm ?_ hdb)
 refine PySem.W.callWith_K (h₀:=X.base) I.ok.mod.kin hk (thn (ha pos pins s σ H _ I h) λus s1 ⟨vs,H1,I1,r,q⟩=>⟨I1.kIn,?_⟩) he hpl
 exact aBQ F hr hb hd hx I1 r q
theorem aBR(F:nD X.prog X.w X.K X.mg X.base CX k f fd ps sp)(hr:jH k X.A)(hg:Gl X x)(hm:X.mg x=some (.ref f))(hk:BG X.K (.ref f)=true)(hb:jC X.K fd ps ds)(hd:aV dvs ds)(hx:rQ CX X E)
 (hdb:(x==("__debug__" : Str))=false:=by decide):PE X (.Call (.Name x p) [] [] pos) (aFm sp dvs E aIE):=by
 intro pins s σ H Q I h
 refine Cg (rM I hg hm ?_ hdb)
 exact PySem.W.callWith_K0 I.kIn hk (aBQ (us:=[]) F hr hb hd hx I .nil h)
end
section
variable {X:Cx} {CX:CXT} {k:Nat} {f C:Addr} {fd:Cy} {ps ks:List Str} {sp:Sp} {E:XK} {x m:Str} {p pos apos kpos:BX} {e o:Ah} {es:List Ah} {kws:List Hm} {te ta:TE} {t tk:TA} {nm:Option Str}
variable {g:List Value->List Value->List Value} {gV:List V->List V->List V}
end
structure nM (N P:List Str) (sc:Cu):Prop where
 kind:sc.kind=.function
 co:sc.isCoroutine=false
 gen:sc.isGenerator=false
 nd:N.Nodup
 pre:N.take P.length=P
 par:∀x∈P,sc.names.lookup x=some .local\/sc.names.lookup x=some .cell
 nofree:∀y∈sc.names,y.2≠.free
theorem qG{kindOf:Str->Option B2}{x:Str}:∀{binds:List (Str×Value)} {m:Str->Option Value},(∀v,(x,v)∉binds)->FP kindOf binds m x=m x
 | [],_,_=>rfl
 | (n,v)::r,m,h=>by
  unfold FP
  rw[qG λw hw=>h w (Ag _ hw)]
  split
  . have:x≠n:=by rintro rfl;exact h v Aq
    simp[this]
  . rfl
theorem qH{kindOf:Str->Option B2}{x:Str}:∀{binds:List (Str×Value)} {m:Str->Option Value},(∀v,(x,v)∉binds)->FQ kindOf binds m x=m x
 | [],_,_=>rfl
 | (n,v)::r,m,h=>by
  unfold FQ
  rw[qH λw hw=>h w (Ag _ hw)]
  split
  . rfl
  . have:x≠n:=by rintro rfl;exact h v Aq
    simp[this]
theorem qJ{kindOf:Str->Option B2}{x:Str}{v:Value}:∀{P:List Str} {vs:List Value} {i:Nat} {m:Str->Option Value},P.Nodup->P[i]? = some x->vs[i]? = some v->kindOf x=some .local ->
 FP kindOf (P.zip vs) m x=some v
 | [],_,_,_,_,h,_,_=>by simp at h
 | _::_,[],_,_,_,_,h,_=>by simp at h
 | p::P,w::vs,0,m,nd,h1,h2,hk=>by
  simp at h1 h2;subst h1;subst h2
  show FP kindOf ((p,w)::P.zip vs) m p=_
  unfold FP
  rw[qG λv hv=>(B8.mp nd).1 (Db hv).1,if_pos hk]
  simp
 | p::P,w::vs,i+1,m,nd,h1,h2,hk=>by
  show FP kindOf ((p,w)::P.zip vs) m x=_
  unfold FP
  exact qJ (i:=i) (B8.mp nd).2 (by simpa using h1) (by simpa using h2) hk
theorem qK{kindOf:Str->Option B2}{x:Str}{v:Value}:∀{P:List Str} {vs:List Value} {i:Nat} {m:Str->Option Value},P.Nodup->P[i]? = some x->vs[i]? = some v->kindOf x≠some .local ->
 FQ kindOf (P.zip vs) m x=some v
 | [],_,_,_,_,h,_,_=>by simp at h
 | _::_,[],_,_,_,_,h,_=>by simp at h
 | p::P,w::vs,0,m,nd,h1,h2,hk=>by
  simp at h1 h2;subst h1;subst h2
  show FQ kindOf ((p,w)::P.zip vs) m p=_
  unfold FQ
  rw[qH λv hv=>(B8.mp nd).1 (Db hv).1,if_neg hk]
  simp
 | p::P,w::vs,i+1,m,nd,h1,h2,hk=>by
  show FQ kindOf ((p,w)::P.zip vs) m x=_
  unfold FQ
  exact qK (i:=i) (B8.mp nd).2 (by simpa using h1) (by simpa using h2) hk
def start(N:List Str)(vs:List V):St:=vs.map some++Ad (N.length-vs.length) none
def xE(CX:CXT)(P:Av)(w:AG)(K:Ak)(mg:Str->Option Value)(base:Heap)(N:List Str)(qual:Str)(scope:Cu)(f:Addr)(cd:Value)(A:AY)(outer:List Go)(s:Ae)(H:Hp)(E:XK):Cx where
 prog:=P
 w:=w
 K:=K
 mg:=mg
 base:=base
 A:=A.deeper (En qual scope s.heap.objs.size f cd)
 N:=N
 s₀:=s
 H₀:=H
 env:=En qual scope s.heap.objs.size f cd
 outer:=outer
 stack:=En qual scope s.heap.objs.size f cd::outer
 ex:=[]
 calm:=true
 fn:=λ_=>true
 pn:=[]
 xe:=λe s'=>Au (A3 P w) (A.deeper (En qual scope s.heap.objs.size f cd)) (leaving (En qual scope s.heap.objs.size f cd) e) (λ_ s''=>CX outer H s E e s'') (λe' s''=>CX outer H s E e' s'') s'
theorem uC{sc:Cu}{n:Nat}{x:Str}(h:sc.names.lookup x=some .cell):∃c,(G5 n sc.names []).lookup x=some c:=by
 have q:=DO sc.names n [] (.inl h)
 exact C4.mp q
theorem aAL{CX:CXT}{P:Av}{w:AG}{K:Ak}{mg:Str->Option Value}{base:Heap}{N ps:List Str}{qual:Str}{scope:Cu}{f:Addr}{cd:Value}{A:AY}{outer:List Go}{s s1:Ae}{H:Hp}{E:XK}{us:List Value}{vs:List V}
 (S:nM N ps scope) (hd:A.handled=none) (e0:aDR P w K mg base A outer s H) (hl:vs.length=ps.length) (r:aV vs us)
 (x:InCallC s s.heap.objs.size (FP (En qual scope s.heap.objs.size f cd).kindOf (ps.zip us) λ_=>none) (G5 (s.heap.objs.size+1) scope.names []) (FQ (En qual scope s.heap.objs.size f cd).kindOf (ps.zip us) λ_=>none) s1) :
 Inv (xE CX P w K mg base N qual scope f cd A outer s H E) [] (start N vs) H s1:=by
 have hpl:ps.length<=N.length:=by have:=congrArg F4 S.pre;rw[BE] at this;omega
 obtain⟨h1,tk,rfl,hk⟩:=x.done
 have noA:∀b:Addr,b∉(xE CX P w K mg base N qual scope f cd A outer s H E).ex:=λb z=>absurd (show b∈([]:List Addr) from z) (by simp)
 refine⟨⟨e0.mod,S.kind,rfl,rfl,Aj _,λy z c h1 h2=>?_,λy hy=>?_,λy c _ h=>?_,λ_=>hd,Around.frames_deeper e0.frames,.inr ⟨rfl,rfl⟩,λb z=>absurd z (noA b),e0.bs,e0.bsz,λb _ _=>noA b,λb z=>absurd z (noA b),e0.funs,e0.frf⟩,
  rfl,e0.bare,Un.kept hk,⟨_,x.toInCall.ns,λi y v h1 h2 h3=>?_⟩,λy c h=>⟨_,x.cell y c h⟩,e0.hok.fresh (Aj _),λy c h=>?_,λp hp=>absurd (show p∈([]:List (Addr×Obj)) from hp) (by simp),e0.hok.kept hk,?_⟩
 . exact name_of_addr x.apart (Bg h1) (Bg h2)
 . have hy:scope.names.lookup y=some .cell\/scope.names.lookup y=some .free:=hy
   rcases hy with hy|hy
   . exact uC hy
   . exact absurd rfl (S.nofree _ (Bg hy))
 . exact ES (x.above y c (Bg h))
 . have hi:i<vs.length:=by
    unfold start at h2
    by_cases hi:i<vs.length
    . exact hi
    . rw[AT (by simpa using hi)] at h2
      rw[B5] at h2
      split at h2 <;> cases h2
   have ha:vs[i]? = some v:=by
    unfold start at h2
    rw[Bf (by simpa using hi),A4] at h2
    cases e:vs[i]? with
    | none=>rw[e] at h2;cases h2
    | some a=>rw[e] at h2;cases h2;rfl
   obtain⟨u,hu,rv⟩:=r.get ha
   have hp:ps[i]? = some y:=by
    rw[<-S.pre,List.getElem?_take_of_lt (by omega)];exact h1
   have ndP:ps.Nodup:=by rw[<-S.pre];exact S.nd.sublist (List.take_sublist _ _)
   refine⟨u,rv,?_⟩
   rcases S.par y (List.mem_of_getElem? hp) with k|k
   . exact .inl ⟨k,qJ ndP hp hu k⟩
   . obtain⟨c,e⟩:=uC (n:=s.heap.objs.size+1) k
     refine .inr ⟨.inl k,c,e,?_⟩
     have q:=x.cell y c e
     rw[qK ndP hp hu (by show scope.names.lookup y≠_;rw[k];decide)] at q
     exact q
 . exact e0.hok.fresh (ES (x.above y c (Bg h)))
 . unfold start
   show _=N.length
   rw[Ch,Ed,AK]
   omega
theorem aIG{CX:CXT}{P:Av}{w:AG}{K:Ak}{mg:Str->Option Value}{base:Heap}{k:Nat}{f:Addr}{name qual:Str}{params:Ex}{body:List Br}{scope:Cu}{dV kV doc pm cdv ct oc:Value}{an od:Option Addr}
 {osl:Array (Option Value)} {N ps:List Str} {sp:Sp} (lk:K.lookup f=some ⟨oc,od,.func (DP name qual params body scope dV kV doc pm an cdv ct),osl⟩) (hcd:FR K cdv qual=true) (S:nM N ps scope)
 (len:∀vs H Q E,sp vs H Q E->vs.length=ps.length)
 (hbody:∀(A:AY) (outer:List Go) (s:Ae) (H:Hp) (vs:List V) (Q:VK) (E:XK),jH k (A.deeper (En qual scope s.heap.objs.size f cdv))->sp vs H Q E ->
  ∃t,PSs (xE CX P w K mg base N qual scope f cdv A outer s H E) body t/\t { nx:=λ_ H'=>Q .non H',rt:=Q } (start N vs) H) :
 nD P w K mg base CX (k+1) f (DP name qual params body scope dV kV doc pm an cdv ct) ps sp:=by
 refine⟨len,λA outer s H args us vs Q E hr e0 hb r hsp=>?_⟩
 have hl:=len _ _ _ _ hsp
 have KX:K.In s.heap:=e0.mod.kin.keeps λb o e=>(e0.bs b o e).1
 have lim:s.heap.NoLimit:=e0.mod.nolimit.keeps λb o e=>(e0.bs b o e).1
 have hkind:∀y∈ps.zip us,scope.names.lookup y.1=some .local\/(scope.names.lookup y.1=some .cell/\((G5 (s.heap.objs.size+1) scope.names []).lookup y.1).isSome=true):=λ⟨n,v⟩ hy=>by
  rcases S.par n (Db hy).1 with q|q
  . exact .inl q
  . exact .inr ⟨q,DO _ _ _ (.inl q)⟩
 refine codeAny_call_function hr.depth (KX _ _ lk) rfl S.co S.gen rfl (PySem.W.codeRec_of KX hcd) (hb _ _ _ _ ?_)
 refine wpAny_newFunctionEnv_cells S.kind hkind λenv he s1 x=>?_
 subst he
 refine⟨lim.keeps x.toInCall.keep,codeAny_func ?_⟩
 obtain⟨t,ht,hq⟩:=hbody A outer s H vs Q E (hr.deeper _) hsp
 have I:Inv (xE CX P w K mg base N qual scope f cdv A outer s H E) [] (start N vs) H s1:=aAL S hr.hd e0 hl r x
 refine Cd (ht [] s1 (start N vs) H _ I hq) (λfl s' hs=>?_) λe s' hs=>hs
 have fin:∀{σ':St} {H':Hp} {v:V} {u:Value},Inv (xE CX P w K mg base N qual scope f cdv A outer s H E) [] σ' H' s'->bI v u->Q v H'->CE outer P w H s Q u s':=
  λ{σ' H' v u} J rv q=>⟨v,H',J.os,J.bare,J.base,J.hok,rv,q⟩
 cases fl with
 | ret u=>
  obtain⟨v,σ',H',J,rv,q⟩:=hs
  exact fin J rv q
 | next=>
  obtain⟨σ',H',J,q⟩:=hs
  exact fin (v:=V.non) (u:=CM) J rfl q
 | brk=>
  obtain⟨_,_,_,q⟩:=hs
  exact BS q
 | cont=>
  obtain⟨_,_,_,q⟩:=hs
  exact BS q
end L2
namespace L2
open PySem PySem.Spec PyProof.Rows
section
variable {X:Cx} {x:Str} {p pos:BX} {e:Ah} {es:List Ah} {t:TA} {id T:String} {r:List V->Hp->VK->Prop}
def tCB(r:List V->Hp->VK->Prop)(t:TA):TE:=λσ H Q=>t σ H λvs H1=>r vs H1 Q
theorem jT(hc:eZ X (.builtin id) r)(hg:Gl X x)(hm:X.mg x=none)(hv:BA x=some (.builtin id))(ha:PA X (e::es) t)(hn:x ≠ "__name__" := by decide)(hdb:(x==("__debug__" : Str))=false:=by decide)
 (he:AN (e::es) X.env=(false,C3 e X.env)::AN es X.env:=by rfl) (hpl:(Dp pos (AN es X.env)).any (·.1)=false:=by rfl):PE X (.Call (.Name x p) (e::es) [] pos) (tCB r t):=by
 intro pins s σ H Q I h
 refine Cg (gU I hg hm hv ?_ hn hdb)
 exact CP (thn (ha pos pins s σ H _ I h) λus s1 ⟨vs,H1,I1,r1,q1⟩=>hc pins s1 σ H1 vs us Q I1 r1 q1) he hpl
theorem qL(hc:eZ X (.type T) r)(hg:Gl X x)(hm:X.mg x=none)(hv:BA x=some (.type T))(ha:PA X (e::es) t)(hn:x ≠ "__name__" := by decide)(hdb:(x==("__debug__" : Str))=false:=by decide)
 (he:AN (e::es) X.env=(false,C3 e X.env)::AN es X.env:=by rfl) (hpl:(Dp pos (AN es X.env)).any (·.1)=false:=by rfl):PE X (.Call (.Name x p) (e::es) [] pos) (tCB r t):=by
 intro pins s σ H Q I h
 refine Cg (gU I hg hm hv ?_ hn hdb)
 exact Bn (thn (ha pos pins s σ H _ I h) λus s1 ⟨vs,H1,I1,r1,q1⟩=>hc pins s1 σ H1 vs us Q I1 r1 q1) he hpl
end
end L2
namespace HT
open PySem PyProof.Rows
section
open PySem.SeqAt
open PySem.AutoSeq1 (wpAny_loadPart')
open PySem.MeetsSeq PySem.MeetsSeq2 PySem.MeetsSeq3
end
section
variable {prog:Av} {w:AG} {A:AY} {E:Value->Ae->Prop} {s:Ae}
theorem cat_tup{t b:Addr}{vs ws:List Value}{Q:Value->Ae->Prop}(ht:IsTup s.heap t vs.toArray)(hb:IsTup s.heap b ws.toArray)(hv:vs≠[])
 (h1:ws=[]->Q (.ref t) s) (h2:ws≠[]->Q (.ref s.heap.objs.size) { s with heap:=s.heap.push { cls:=.type "tuple",data:=.seq (vs++ws).toArray } })
 (hsz:vs.length+ws.length<=sizeLine):Au (A3 prog w) A (BY .Add (.ref t) (.ref b)) Q E s:=by
 obtain⟨⟨cls,dd,data,sl⟩,ho,hc,n,hd⟩:=id ht
 obtain⟨⟨cls2,dd2,data2,sl2⟩,ho2,hc2,n2,hd2⟩:=id hb
 simp only at hc hd hc2 hd2
 subst hc hd hc2 hd2
 have e:vs.toArray++ws.toArray=(vs++ws).toArray:=by simp
 by_cases hw:ws=[]
 . exact DQ ⟨_,ho,rfl⟩ ⟨_,ho2,rfl⟩ DC E8 CJ CD (C5 _ _)
    (tuple_addW1 t b vs.toArray ws.toArray n n2 dd dd2 sl sl2 (by simpa using hv) (by simp[hw])) ⟨ho,ho2,h1 hw⟩
 . refine DQ ⟨_,ho,rfl⟩ ⟨_,ho2,rfl⟩ DC E8 CJ CD (C5 _ _)
    (tuple_addW2 t b vs.toArray ws.toArray n n2 dd dd2 sl sl2 (by simpa using hv) (by simpa using hw) (by rw[Af,Af];exact hsz)) ⟨ho,ho2,?_⟩
   rw[e]
   exact h2 hw
def sIx(n d:Nat):Option Int->Nat
 | none=>d
 | some v=>if v<0 then (v+(n:Int)).toNat else min v.toNat n
theorem aGh(n d:Nat)(hd:d<=n)(o:Option Int):sIx n d o<=n:=by
 cases o with
 | none=>exact hd
 | some v=>
  show(if v<0 then (v+(n:Int)).toNat else min v.toNat n)<=n
  by_cases hv:v<0
  . rw[if_pos hv];omega
  . rw[if_neg hv];exact Nat.min_le_right _ _
theorem zG(v:Int)(n d:Nat):(if v<0 then max (v+(n:Int)) 0 else min v (n:Int))=((sIx n d (some v):Nat):Int):=by
 show(if v<0 then max (v+(n:Int)) 0 else min v (n:Int))=(((if v<0 then (v+(n:Int)).toNat else min v.toNat n):Nat):Int)
 by_cases hv:v<0
 . simp only[if_pos hv];omega
 . simp only[if_neg hv];omega
theorem xF(lo hi:Option Int)(n:Nat):C1 lo hi 1 (n:Int)=(((sIx n 0 lo:Nat):Int),((sIx n n hi:Nat):Int)):=by
 have h1:¬ ((1:Int)<0):=by omega
 unfold C1
 simp only[h1,if_false]
 refine H0 ?_ ?_
 . cases lo with
   | none=>rfl
   | some v=>exact zG v n 0
 . cases hi with
   | none=>rfl
   | some v=>exact zG v n n
theorem xG(i j:Nat):BJ (i:Int) (j:Int) 1=j-i:=by
 unfold BJ
 have h1:(1:Int)>0:=by omega
 simp only[h1,if_true,Int.ediv_one]
 split <;> omega
theorem oA{v:Value}{o:Option Int}{Q:Option Int->Ae->Prop}(p:DR v o)(h:Q o s):Au (A3 prog w) A (F8 v) Q E s:=by
 cases p with
 | none=>exact FS h
 | int i t=>exact slicePart_int h
theorem sliceApplied_gen{sl:Addr}{vl vu:Value}{lo hi:Option Int}{n:Nat}{Q:Int×Int×Nat->Ae->Prop}(hs:s.heap.IsSliceOf sl vl vu .none)(pl:DR vl lo)(pu:DR vu hi)
 (h:Q (((sIx n 0 lo:Nat):Int),1,sIx n n hi-sIx n 0 lo) s):Au (A3 prog w) A (Ds (.ref sl) (pure (n:Int))) Q E s:=by
 obtain⟨os,hos,hcs,hds⟩:=id hs
 unfold Ds Gk
 refine Aa (Aa (AL hos hds (x:=vl) rfl (Aa (AL hos hds (x:=vu) rfl (Aa (AL hos hds (x:=.none) rfl (Ar ?_)))))))
 refine Aa (FS ?_)
 show Au _ _ (if ((1:Int)==0)=true then _ else _) _ _ s
 rw[if_neg (by decide)]
 refine Aa (oA pl (Aa (oA pu (Aa (Ar ?_)))))
 show Au _ _ (match C1 lo hi 1 (n:Int) with|(lo,hi)=>pure (lo,(1:Int),BJ lo hi 1)) _ _ s
 rw[xF lo hi n]
 show Au _ _ (pure (((sIx n 0 lo:Nat):Int),(1:Int),BJ ((sIx n 0 lo:Nat):Int) ((sIx n n hi:Nat):Int) 1)) _ _ s
 rw[xG]
 exact Ar h
theorem aBS(xs:Array Value)(i k:Nat):((AO k).filterMap λ(m:Nat)=>xs[((i:Int)+(m:Int)*1).toNat]?).toArray=((xs.toList.drop i).take k).toArray:=by
 have e:(λ(m:Nat)=>xs[((i:Int)+(m:Int)*1).toNat]?)=λm=>xs[i+m]? := by
  funext m
  have:((i:Int)+(m:Int)*1).toNat=i+m:=by omega
  rw[this]
 rw[e]
 have:=pick_run xs i k
 rw[List.filterMap_map] at this
 have e2:((λx=>xs[x]?)∘λx=>i+x)=λm=>xs[i+m]? := rfl
 rw[e2] at this
 rw[this]
theorem getItem_tuple_cut{t sl:Addr}{items:Array Value}{vl vu:Value}{lo hi:Option Int}{Q:Value->Ae->Prop}(ht:IsTup s.heap t items)(hs:s.heap.IsSliceOf sl vl vu .none)(pl:DR vl lo)(pu:DR vu hi)
 (hw:¬ (sIx items.size 0 lo=0/\sIx items.size items.size hi=items.size))
 (h:Q (.ref s.heap.objs.size) { s with heap:=s.heap.push { cls:=.type "tuple",data:=.seq ((items.toList.drop (sIx items.size 0 lo)).take (sIx items.size items.size hi-sIx items.size 0 lo)).toArray } })
 (hsz:items.size<=sizeLine):Au (A3 prog w) A (DS (.ref t) (.ref sl)) Q E s:=by
 have htake:sizeOk (.seq ((items.toList.drop (sIx items.size 0 lo)).take (sIx items.size items.size hi-sIx items.size 0 lo)).toArray):=by
  show((items.toList.drop (sIx items.size 0 lo)).take (sIx items.size items.size hi-sIx items.size 0 lo)).toArray.size<=sizeLine
  rw[Af,BE,C0,B9]
  omega
 have hj:sIx items.size items.size hi<=items.size:=aGh _ _ (Aj _) hi
 obtain⟨os,hos,hcs,hds⟩:=id hs
 have hTs:s.TypeIs (.ref sl) "slice" := ⟨os,hos,hcs⟩
 unfold DS
 try with_reducible refine CV ?_
 first|refine Aa (Ar ?_)|skip
 refine Aa (EW ht.typeIs (by decide) ?_)
 refine Aa (AU (name:=Ci "__getitem__") ht.typeIs AR
  (Bu AR ht.typeIs Ez ?_ (EE _ _)))
 show Au _ _ (Dt (.ref t) >>= _) _ _ s
 refine Aa (Gq ht ?_)
 refine Aa (EX hTs ?_)
 rw[if_pos (by decide)]
 refine Aa (sliceApplied_gen hs pl pu ?_)
 have hno:¬ ((((sIx items.size 0 lo:Nat):Int)==0&&(1:Int)==1&&(sIx items.size items.size hi-sIx items.size 0 lo)==items.size)=true):=by
  intro q
  rw[Fm,Fm] at q
  have q1:((sIx items.size 0 lo:Nat):Int)=0:=eq_of_beq q.1.1
  have q2:sIx items.size items.size hi-sIx items.size 0 lo=items.size:=eq_of_beq q.2
  exact hw ⟨by omega,by omega⟩
 show Au _ _ (if (((sIx items.size 0 lo:Nat):Int)==0&&(1:Int)==1&&(sIx items.size items.size hi-sIx items.size 0 lo)==items.size)=true then _ else _) _ _ s
 rw[if_neg hno,aBS]
 first
  | exact Aa (m:=BU _) (B6 (Ar ⟨_,rfl,Ar h⟩) htake)
  | exact Aa (m:=BU _) (B6 (Aa (Ar (Ar ⟨_,rfl,Ar h⟩))) htake)
  | exact Aa (Aa (m:=BU _) (B6 (Ar (Ar ⟨_,rfl,Ar h⟩)) htake))
  | exact Aa (Aa (m:=BU _) (B6 (Ar ⟨_,rfl,Ar h⟩) htake))
end
end HT
namespace L2
open PySem PySem.Spec PyProof.Rows
abbrev TO:=St->Hp->(Option Int->Hp->Prop)->Prop
def PO(X:Cx)(e:Option Ah)(t:TO):Prop:=
 ∀(pins:List (Addr×Obj)) (s:Ae) (σ:St) (H:Hp) (Q:Option Int->Hp->Prop),Inv X pins σ H s->t σ H Q ->
  Au (A3 X.prog X.w) X.A (evalPart e X.env) (λu s'=>∃o H',Inv X pins σ H' s'/\DR u o/\Q o H') X.xe s
def aDS:TO:=λ_ H Q=>Q none H
def aIH(t:TE):TO:=λσ H Q=>t σ H λx H1=>∃i,x=.int i/\Q (some i) H1
section
variable {X:Cx} {e:Ah} {te:TE} {lo hi:Option Ah} {tl th:TO} {pos p2:BX}
theorem aDT:PO X none aDS:=by
 intro pins s σ H Q I h
 rw[Gr]
 exact Ar ⟨none,H,I,.none,h⟩
theorem aDU(h:PE X e te):PO X (some e) (aIH te):=by
 intro pins s σ H Q I hw
 rw[evalPart_some]
 refine thn (h pins s σ H _ I hw) λu s1 ⟨x,H1,I1,r1,q1⟩=>?_
 obtain⟨i,rfl,q⟩:=q1
 obtain⟨t,rfl⟩:=r1
 exact⟨some i,H1,I1,.int i t,q⟩
def SlR(X:Cx)(r:V->Option Int->Option Int->Hp->VK->Prop):Prop:=
 ∀(pins:List (Addr×Obj)) (s:Ae) (σ:St) (H:Hp) (x:V) (v vl vu:Value) (lo hi:Option Int) (sl:Addr) (Q:VK),Inv X pins σ H s->bI x v->s.heap.IsSliceOf sl vl vu .none->DR vl lo->DR vu hi->r x lo hi H Q ->
  ∃T id,typeLookup (.type T) "__getitem__" = pure (some (.builtin id))/\s.TypeIs v T/\Au (A3 X.prog X.w) X.A (DS v (.ref sl)) (EP X pins σ Q) X.xe s
theorem SlR.or{r r':V->Option Int->Option Int->Hp->VK->Prop}(h:SlR X r)(h':SlR X r'):SlR X (λx lo hi H Q=>r x lo hi H Q\/r' x lo hi H Q):=by
 intro pins s σ H x v vl vu lo hi sl Q I rx hs pl pu q
 rcases q with q|q
 . exact h pins s σ H x v vl vu lo hi sl Q I rx hs pl pu q
 . exact h' pins s σ H x v vl vu lo hi sl Q I rx hs pl pu q
def tSl(r:V->Option Int->Option Int->Hp->VK->Prop)(te:TE)(tl th:TO):TE:=λσ H Q=>te σ H λx H1=>tl σ H1 λl H2=>th σ H2 λu H3=>r x l u H3 Q
theorem aBT{r:V->Option Int->Option Int->Hp->VK->Prop}(hr:SlR X r)(he:PE X e te)(hl:PO X lo tl)(hu:PO X hi th):PE X (.Subscript e (.Slice lo hi none p2) pos) (tSl r te tl th):=by
 intro pins s σ H Q I h
 refine Subscript_ (thn (he pins s σ H _ I h) λv s1 ⟨x,H1,I1,r1,q1⟩=>?_)
 refine wpAny_Slice (thn (hl pins s1 σ H1 _ I1 q1) λvl s2 ⟨l,H2,I2,pl,q2⟩=>thn (hu pins s2 σ H2 _ I2 q2) λvu s3 ⟨u,H3,I3,pu,q3⟩=>?_)
 rw[Gr]
 refine Ar ?_
 have I4:Inv X pins σ H3 { s3 with heap:=s3.heap.push { cls:=.type "slice",data:=.fields #[vl,vu,.none] } }:=I3.kept (t':=s3.toks) λb ob q=>Ab _ q
 obtain⟨T,id,hT,ht,hg⟩:=hr pins { s3 with heap:=s3.heap.push { cls:=.type "slice",data:=.fields #[vl,vu,.none] } } σ H3 x v vl vu l u s3.heap.objs.size Q I4 r1 (He ..) pl pu q3
 show Au (A3 X.prog X.w) X.A (Gs e (.Slice lo hi none p2) v (.ref s3.heap.objs.size)) (EP X pins σ Q) X.xe { s3 with heap:=s3.heap.push { cls:=.type "slice",data:=.fields #[vl,vu,.none] } }
 exact tail_any (ops:=[.ref s3.heap.objs.size,v]) ht hT hg (by with_unfolding_all rfl)
def uE(xs:List V)(lo hi:Option Int):List V:=(xs.drop (HT.sIx xs.length 0 lo)).take (HT.sIx xs.length xs.length hi-HT.sIx xs.length 0 lo)
theorem mP(xs:List V)(lo hi:Option Int):(uE xs lo hi).length<=xs.length:=by
 unfold uE
 rw[BE,C0]
 omega
def aBU(K:Ak):V->Option Int->Option Int->Hp->VK->Prop:=λx lo hi H Q=>∃a xs,x=.ref a/\SqT K H a xs /\
 ¬ (HT.sIx xs.length 0 lo=0/\HT.sIx xs.length xs.length hi=xs.length)/\∀p,H p=none->Q (.ref p) (upd H p (.tup (uE xs lo hi)))
theorem aGi:SlR X (aBU X.K):=by
 intro pins s σ H x v vl vu lo hi sl Q I rx hs pl pu h
 obtain⟨a,xs,rfl,hx,hw,q⟩:=h
 cases rx
 obtain⟨its,r,ht,hz⟩:=I.tuple hx
 have hlen:its.toArray.size=xs.length:=by rw[Af];exact r.length.symm
 refine⟨"tuple",_,AR.lookup,ht.typeIs,?_⟩
 refine HT.getItem_tuple_cut ht hs pl pu (by rw[hlen];exact hw) ?_ (by rw[hlen];exact hz)
 rw[hlen]
 refine⟨.ref s.heap.objs.size,_,I.laid (t':=s.toks) (o:=.tup (uE xs lo hi)) (λb ob q=>Ab _ q) (Aj _) ?_,rfl,q _ (I.hok.fresh (Aj _))⟩
 exact⟨AW (mP xs lo hi) hz,_,(r.drop (HT.sIx xs.length 0 lo)).take (HT.sIx xs.length xs.length hi-HT.sIx xs.length 0 lo),G6 _ _⟩
def aII(K:Ak):R2:=λx y H Q=>∃a b xs ys,x=.ref a/\y=.ref b/\SqT K H a xs/\SqT K H b ys/\xs≠[]/\xs.length+ys.length<=sizeLine /\
 (ys=[]->Q (.ref a) H)/\(ys≠[]->∀p,H p=none->Q (.ref p) (upd H p (.tup (xs++ys))))
theorem aV.nil_iff{xs:List V}{us:List Value}(r:aV xs us):us=[]↔xs=[]:=by
 cases r with
 | nil=>simp
 | cons _ _=>simp
theorem aDV:OpR X (BY .Add) (aII X.K):=by
 intro pins s σ H x y v u Q I rx ry h
 obtain⟨a,b,xs,ys,rfl,rfl,ha,hb,hx,hz,q1,q2⟩:=h
 cases rx
 cases ry
 obtain⟨its,r1,p1,_⟩:=I.tuple ha
 obtain⟨its2,r2,p2,_⟩:=I.tuple hb
 refine HT.cat_tup p1 p2 (λz=>hx (r1.nil_iff.mp z)) (λz=>⟨.ref a,H,I,rfl,q1 (r2.nil_iff.mp z)⟩) (λz=>?_) (by rw[<-r1.length,<-r2.length];exact hz)
 refine⟨.ref s.heap.objs.size,_,I.laid (t':=s.toks) (o:=.tup (xs++ys)) (λb ob q=>Ab _ q) (Aj _) ?_,rfl,q2 (λw=>z (r2.nil_iff.mpr w)) _ (I.hok.fresh (Aj _))⟩
 exact⟨by rw[Ch];exact hz,_,r1.append r2,G6 _ _⟩
end
end L2
namespace L2
open PySem PySem.Spec PyProof.Rows
def ixN(n:Nat)(i:Int):Option Nat:=if 0<=i then (if i<n then some i.toNat else none) else if -(n:Int)<=i then some (i+n).toNat else none
def atI{α:Type}(xs:List α)(i:Int):Option α:=(ixN xs.length i).bind λj=>xs[j]?
theorem zH{n:Nat}{i:Int}{j:Nat}(h:ixN n i=some j):seqIndex? i n=some j/\j<n/\-(n:Int)<=i/\i<n:=by
 unfold ixN at h
 by_cases h0:0<=i
 . rw[if_pos h0] at h
   by_cases h1:i<n
   . rw[if_pos h1] at h
     have e:i.toNat=j:=Ai h
     exact⟨by rw[F5 h0 h1,e],by omega,by omega,h1⟩
   . rw[if_neg h1] at h;cases h
 . rw[if_neg h0] at h
   by_cases h1:-(n:Int)<=i
   . rw[if_pos h1] at h
     have e:(i+n).toNat=j:=Ai h
     exact⟨by rw[EY (by omega) h1,e],by omega,h1,by omega⟩
   . rw[if_neg h1] at h;cases h
theorem rR{α:Type}{xs:List α}{i:Int}{v:α}(h:atI xs i=some v):∃j,seqIndex? i xs.length=some j/\xs[j]? = some v/\j<xs.length/\-(xs.length:Int)<=i/\i<xs.length:=by
 unfold atI at h
 cases e:ixN xs.length i with
 | none=>rw[e] at h;cases h
 | some j=>
  rw[e] at h
  obtain⟨h1,h2,h3,h4⟩:=zH e
  exact⟨j,h1,h,h2,h3,h4⟩
def zI(b:Ah):Prop:=∀o i,GQ b false o i=operate [o,i] (DS o i)
def IxR(X:Cx)(r:R2):Prop:=
 ∀(value slice:Ah) (pins:List (Addr×Obj)) (s:Ae) (σ:St) (H:Hp) (x y:V) (v u:Value) (Q:VK),Inv X pins σ H s->bI x v->bI y u->r x y H Q ->
  GQ slice false v u=operate [v,u] (DS v u)->Au (A3 X.prog X.w) X.A (Gs value slice v u) (EP X pins σ Q) X.xe s
def MtR(X:Cx)(id:String)(r:V->List V->Hp->VK->Prop):Prop:=
 ∀(pins:List (Addr×Obj)) (s:Ae) (σ:St) (H:Hp) (x:V) (xs:List V) (v:Value) (us:List Value) (Q:VK),Inv X pins σ H s->bI x v->aV xs us->r x xs H Q ->
  Au (A3 X.prog X.w) X.A (call (.builtin id) (v::us)) (EP X pins σ Q) X.xe s
section
variable {X:Cx} {a b:Ah} {ta tb:TE} {pos:BX}
theorem IxR.or{r r':R2}(h:IxR X r)(h':IxR X r'):IxR X (λx y H Q=>r x y H Q\/r' x y H Q):=by
 intro value slice pins s σ H x y v u Q I rx ry q hs
 rcases q with q|q
 . exact h value slice pins s σ H x y v u Q I rx ry q hs
 . exact h' value slice pins s σ H x y v u Q I rx ry q hs
theorem qM{r:R2}(hr:IxR X r)(ha:PE X a ta)(hb:PE X b tb)(hs:zI b):PE X (.Subscript a b pos) (tOp r ta tb):=by
 intro pins s σ H Q I h
 exact Subscript_ (aIw ha hb I h λv u s2 x y H2 I2 rx ry q=>hr a b pins s2 σ H2 x y v u Q I2 rx ry q (hs _ _))
def aIJ(K:Ak):R2:=λx y H Q=>∃p xs i v,x=.ref p/\y=.int i/\SqL K H p xs/\atI xs i=some v/\Q v H
def aIK(K:Ak):R2:=λx y H Q=>∃p xs i v,x=.ref p/\y=.int i/\SqT K H p xs/\atI xs i=some v/\Q v H
def aIL:R2:=λx y H Q=>∃z i c,x=.str z/\y=.int i/\z.length<=sizeLine/\atI z.cps.toList i=some c/\Q (.str ⟨#[c]⟩) H
theorem zJ:IxR X (aIJ X.K):=by
 intro value slice pins s σ H x y v u Q I rx ry h hs
 obtain⟨p,xs,i,z,rfl,rfl,hq,he,q⟩:=h
 cases rx
 obtain⟨t,rfl⟩:=ry
 obtain⟨its,r,pl,hz⟩:=I.list hq
 obtain⟨j,h1,h2,h3,h4,h5⟩:=rR he
 obtain⟨w,ew,rw'⟩:=r.get h2
 have hl:=r.length
 have hn:=jG
 have fin:EP X pins σ Q w s:=⟨z,H,I,rw',q⟩
 by_cases h0:0<=i
 . have hj:i.toNat=j:=by
    rw[F5 h0 h5] at h1
    exact Ai h1
   exact item_listR pl.isList h0 (by omega) (by rw[hj];simpa using ew) fin hs
 . have hj:(i+(its.toArray.size:Int)).toNat=j:=by
    rw[EY (by omega) h4] at h1
    rw[Af,<-hl]
    exact Ai h1
   exact DT (x:=w) pl.isList.typeIs EZ.lookup
    (wpAny_getItem_list_neg (Q:=λr s'=>r=w/\EP X pins σ Q r s') pl.isList (by omega) (by rw[Af] <;> omega) (by omega) (by rw[hj];simpa using ew) ⟨rfl,fin⟩) hs
theorem xH:IxR X (aIK X.K):=by
 intro value slice pins s σ H x y v u Q I rx ry h hs
 obtain⟨p,xs,i,z,rfl,rfl,hq,he,q⟩:=h
 cases rx
 obtain⟨t,rfl⟩:=ry
 obtain⟨its,r,pl,hz⟩:=I.tuple hq
 obtain⟨j,h1,h2,h3,h4,h5⟩:=rR he
 obtain⟨w,ew,rw'⟩:=r.get h2
 have hl:=r.length
 have hn:=jG
 have fin:EP X pins σ Q w s:=⟨z,H,I,rw',q⟩
 exact DT (x:=w) pl.typeIs slot_tuple_getitem.lookup
  (getItem_tuple (j:=j) (Q:=λr s'=>r=w/\EP X pins σ Q r s') pl (by omega) (by omega) (by rw[Af,<-hl];exact h1) (by simpa using ew) ⟨rfl,fin⟩) hs
theorem aGj:IxR X aIL:=by
 intro value slice pins s σ H x y v u Q I rx ry h hs
 obtain⟨z,i,c,rfl,rfl,hz,he,q⟩:=h
 obtain⟨t,rfl⟩:=rx
 obtain⟨t',rfl⟩:=ry
 obtain⟨j,h1,h2,h3,h4,h5⟩:=rR he
 have hl:z.cps.toList.length=z.length:=by simp[FT]
 rw[hl] at h1 h4 h5
 have hn:=jG
 exact tail_any (typeIs_str s z t) Fo.lookup (getItem_str (c:=c) (by
  have e1:decide (i < -(2 ^ 63:Int))=false:=Ao (by omega)
  have e2:decide (i ≥ 2 ^ 63)=false:=Ao (by omega)
  rw[e1,e2,Bool.or_false]) (by rw[h1];simpa using h2) ⟨.str ⟨#[c]⟩,H,I.tok _,⟨_,rfl⟩,q⟩) hs
def rIx(K:Ak):R2:=λx y H Q=>aIJ K x y H Q\/aIK K x y H Q\/aIL x y H Q
theorem xI:IxR X (rIx X.K):=zJ.or (xH.or aGj)
theorem xJ(its:List Value)(n j:Nat)(u:Value):Du (·.setIfInBounds j u) { cls:=.type "list",data:=.seq its.toArray n }={ cls:=.type "list",data:=.seq (its.set j u).toArray n }:=by
 simp[Du]
theorem Inv.lst{pins:List (Addr×Obj)}{σ:St}{H:Hp}{s:Ae}{p:Addr}{xs:List V}(I:Inv X pins σ H s)(h:H p=some (.lst xs)) :
 ∃(its:List Value) (n:Nat),aV xs its/\s.heap.get? p=some { cls:=.type "list",data:=.seq its.toArray n }/\xs.length<=sizeLine:=by
 obtain⟨z,its,n,r,e⟩:=I.hok p _ h
 exact⟨its,n,r,e,z⟩
theorem Inv.lstUpd{pins:List (Addr×Obj)}{σ:St}{H:Hp}{s:Ae}{p:Addr}{xs ys:List V}{its its':List Value}{n n':Nat}{f:Obj->Obj}(I:Inv X pins σ H s)(h:H p=some (.lst xs))
 (ho:s.heap.get? p=some { cls:=.type "list",data:=.seq its.toArray n }) (hf:f { cls:=.type "list",data:=.seq its.toArray n }={ cls:=.type "list",data:=.seq its'.toArray n' }) (r:aV ys its') (hz:ys.length<=sizeLine) (t:Nat) :
 Inv X pins σ (upd H p (.lst ys)) { s with heap:=s.heap.update p f,toks:=t }:=by
 have e:(s.heap.update p f).get? p=some { cls:=.type "list",data:=.seq its'.toArray n' }:=by
  rw[Ei f ho (by rw[hf] <;> rfl),hf]
 refine I.write (x:=p) (e:=p) (by rw[h];trivial) (.inl rfl) (λb u hb q=>(Cj _ _ (Cz hb)).trans q) ⟨_,e⟩ ?_
 exact⟨hz,its',n',r,e⟩
def aIM:V->V->V->Hp->(Hp->Prop)->Prop:=λo i v H Q=>∃p xs k j,o=.ref p/\i=.int k/\H p=some (.lst xs)/\ixN xs.length k=some j/\Q (upd H p (.lst (xs.set j v)))
theorem aBV:aIq X aIM:=by
 intro pins s σ H o i v ov iv u Q I ro ri rv h
 obtain⟨p,xs,k,j,rfl,rfl,hp,hj,q⟩:=h
 cases ro
 obtain⟨t,rfl⟩:=ri
 obtain⟨its,n,r,ho,hz⟩:=I.lst hp
 obtain⟨h1,h2,h3,h4⟩:=zH hj
 have hl:=r.length
 have hn:=jG
 have I':Inv X pins σ (upd H p (.lst (xs.set j v))) { s with heap:=s.heap.update p (Du (·.setIfInBounds j u)) }:=
  I.lstUpd hp ho (xJ its n j u) (r.set rv j) (by rw[Ay];exact hz) s.toks
 by_cases h0:0<=k
 . have hk:k.toNat=j:=by
    rw[F5 h0 h4] at h1
    exact Ai h1
   exact PySem.W.ki_setAt ho h0 (by omega) (by rw[Af,<-hl];exact h4) (by rw[hk];exact⟨_,I',q⟩)
 . have hk:(k+(its.toArray.size:Int)).toNat=j:=by
    rw[EY (by omega) h3] at h1
    rw[Af,<-hl]
    exact Ai h1
   exact PySem.W.ki_setBack ho (by omega) (by rw[Af,<-hl];exact h3) (by omega) (by rw[hk];exact⟨_,I',q⟩)
theorem rS(lo hi:Option Int)(n:Nat):(CF lo hi none n).1=((HT.sIx n 0 lo:Nat):Int)/\(CF lo hi none n).2.1=((HT.sIx n n hi:Nat):Int)/\(CF lo hi none n).2.2=1:=by
 refine⟨?_,?_,rfl⟩
 . cases lo with
   | none=>simp[CF,HT.sIx]
   | some i=>
    simp only[CF,HT.sIx,CQ,show(1:Int)>0 by decide,if_true]
    by_cases h:i<0
    . simp only[h,if_true] <;> omega
    . simp only[h,if_false] <;> omega
 . cases hi with
   | none=>simp[CF,HT.sIx]
   | some i=>
    simp only[CF,HT.sIx,CQ,show(1:Int)>0 by decide,if_true]
    by_cases h:i<0
    . simp only[h,if_true] <;> omega
    . simp only[h,if_false] <;> omega
theorem pV(its:List Value)(lo hi:Option Int):slicePick its.toArray lo hi none=((its.drop (HT.sIx its.length 0 lo)).take (HT.sIx its.length its.length hi-HT.sIx its.length 0 lo)).toArray:=by
 obtain⟨h1,h2,h3⟩:=rS lo hi its.toArray.size
 unfold slicePick
 rw[h1,h2,h3]
 simp only[sliceRange_one,pick_run,Af] <;> rfl
def aBW(K:Ak):V->Option Int->Option Int->Hp->VK->Prop:=λx lo hi H Q=>∃a xs,x=.ref a/\SqL K H a xs/\∀p,H p=none->Q (.ref p) (upd H p (.lst (uE xs lo hi)))
theorem aDW:SlR X (aBW X.K):=by
 intro pins s σ H x v vl vu lo hi sl Q I rx hs pl pu h
 obtain⟨a,xs,rfl,hx,q⟩:=h
 cases rx
 obtain⟨its,r,ht,hz⟩:=I.list hx
 have hlen:=r.length
 refine⟨"list",_,EZ.lookup,ht.isList.typeIs,?_⟩
 refine wpAny_getItem_list_slice ht.isList hs pl pu .none (by simp) ?_ (by rw[Af] <;> omega)
 rw[pV,<-hlen]
 refine⟨.ref s.heap.objs.size,_,I.laid (t':=s.toks) (o:=.lst (uE xs lo hi)) (λb ob q=>Ab _ q) (Aj _) ?_,rfl,q _ (I.hok.fresh (Aj _))⟩
 exact⟨AW (mP xs lo hi) hz,_,0,(r.drop (HT.sIx xs.length 0 lo)).take (HT.sIx xs.length xs.length hi-HT.sIx xs.length 0 lo),As _ rfl⟩
theorem rT:OpR X (Bt .NotIn) (λx y H Q=>∃i j,x=.str i/\y=.str j/\Q (.bl (!(!(BZ j i 0 j.length 1).isEmpty))) H):=by
 intro pins s σ H x y v u Q I rx ry h
 obtain⟨i,j,rfl,rfl,q⟩:=h
 obtain⟨t,rfl⟩:=rx
 obtain⟨t',rfl⟩:=ry
 exact notIn_str ⟨.bl _,H,I,rfl,q⟩
theorem rV:eZ X (.builtin "len") (λxs H Q=>∃p ys,xs=[.ref p]/\(SqL X.K H p ys\/SqT X.K H p ys)/\Q (.int ys.length) H):=by
 intro pins s σ H xs us Q I r h
 obtain⟨p,ys,rfl,hq,q⟩:=h
 obtain⟨u,rfl,rx⟩:=qF r
 cases rx
 have hn:=jG
 rcases hq with hq|hq
 . obtain⟨its,r',pl,hz⟩:=I.list hq
   have hlen:=r'.length
   exact Calls.call_len_list pl.isList (by simp only[Af] <;> omega) ⟨.int ys.length,H,I.tok _,⟨s.toks+1,by rw[Af,hlen]⟩,q⟩
 . obtain⟨its,r',pl,hz⟩:=I.tuple hq
   have hlen:=r'.length
   exact len_tuple pl (by simp only[Af] <;> omega) ⟨.int ys.length,H,I.tok _,⟨s.toks+1,by rw[Af,hlen]⟩,q⟩
theorem rW:eZ X (.builtin "len") (λxs H Q=>∃z,xs=[.str z]/\z.length<=sizeLine/\Q (.int z.length) H):=by
 intro pins s σ H xs us Q I r h
 obtain⟨z,rfl,hz,q⟩:=h
 obtain⟨u,rfl,t,rfl⟩:=qF r
 have hn:=jG
 exact len_str (by omega) ⟨.int z.length,H,I.tok _,⟨_,rfl⟩,q⟩
theorem eZ.or{f:Value}{r r':List V->Hp->VK->Prop}(h:eZ X f r)(h':eZ X f r'):eZ X f (λxs H Q=>r xs H Q\/r' xs H Q):=by
 intro pins s σ H xs us Q I rs q
 rcases q with q|q
 . exact h pins s σ H xs us Q I rs q
 . exact h' pins s σ H xs us Q I rs q
theorem rX:eZ X (.type "list") (λxs H Q=>∃p ys,xs=[.ref p]/\(SqL X.K H p ys\/SqT X.K H p ys)/\∀l,H l=none->Q (.ref l) (upd H l (.lst ys))):=by
 intro pins s σ H xs us Q I r h
 obtain⟨p,ys,rfl,hq,q⟩:=h
 obtain⟨u,rfl,rx⟩:=qF r
 cases rx
 have fin:∀(its:List Value),aV ys its->ys.length<=sizeLine->∀(h':Heap) (c':Nat),(∀b o',s.heap.get? b=some o'->h'.get? b=some o') ->
  h'.get? s.heap.objs.size=some { cls:=.type "list",dict:=none,data:=.seq its.toArray c',slots:=#[] }->EP X pins σ Q (.ref s.heap.objs.size) { s with heap:=h' }:=λits r' hz h' c' kp e=>
  ⟨.ref s.heap.objs.size,_,I.laid (t':=s.toks) kp (Aj _) (show dZ X.prog X.w _ h' _ (.lst ys) from⟨hz,its,c',r',e⟩),rfl,q _ (I.hok.fresh (Aj _))⟩
 rcases hq with hq|hq
 . obtain⟨its,r',pl,hz⟩:=I.list hq
   have hlen:=r'.length
   obtain⟨o,ho,hc,n,hd⟩:=pl.isList
   exact Gu p (.inl rfl) ho hc hd (λh' c' kp e=>fin its r' hz h' c' kp e) (by simp only[Af] <;> omega)
 . obtain⟨its,r',pl,hz⟩:=I.tuple hq
   have hlen:=r'.length
   obtain⟨o,ho,hc,n,hd⟩:=pl
   exact Gu p (.inr rfl) ho hc hd (λh' c' kp e=>fin its r' hz h' c' kp e) (by simp only[Af] <;> omega)
theorem pW:eZ X (.type "tuple") (λxs H Q=>∃p ys,xs=[.ref p]/\((SqL X.K H p ys/\∀l,H l=none->Q (.ref l) (upd H l (.tup ys)))\/(SqT X.K H p ys/\Q (.ref p) H))):=by
 intro pins s σ H xs us Q I r h
 obtain⟨p,ys,rfl,h⟩:=h
 obtain⟨u,rfl,rx⟩:=qF r
 cases rx
 rcases h with⟨hq,q⟩|⟨hq,q⟩
 . obtain⟨its,r',pl,hz⟩:=I.list hq
   have hlen:=r'.length
   refine call_tuple_list pl.isList (λh' kp=>?_) (by simp only[Af] <;> omega)
   have I1:Inv X pins σ H { s with heap:=h' }:=I.kept (t':=s.toks) kp
   have I2:Inv X pins σ (upd H h'.objs.size (.tup ys)) { s with heap:=h'.push { cls:=.type "tuple",data:=.seq its.toArray } }:=
    I1.laid (t':=s.toks) (λb o e=>Ab _ e) (Aj _) (show dZ X.prog X.w _ _ _ (.tup ys) from⟨hz,its,r',G6 _ _⟩)
   exact⟨.ref h'.objs.size,_,I2,rfl,q _ (I1.hok.fresh (Aj _))⟩
 . obtain⟨its,r',pl,hz⟩:=I.tuple hq
   exact call_tuple_same pl ⟨.ref p,H,I,rfl,q⟩
def tyV(K:Ak)(T:String)(x:V)(H:Hp):Prop:=match x with
 | .str _=>T = "str"
 | .int _=>T = "int"
 | .ref p=>(T = "list" /\ ∃xs,SqL K H p xs)\/(T = "tuple" /\ ∃o,K.lookup p=some o/\o.cls=.type "tuple" /\ o.dict=none) \/
  (T = "dict" /\ ((∃kvs,H p=some (.dK kvs))\/∃kvs,H p=some (.dT kvs)))\/(T = "set" /\ ∃S n,H p=some (.set S n))
 | _=>False
theorem aBX{pins:List (Addr×Obj)}{σ:St}{H:Hp}{s:Ae}{T:String}{x:V}{v:Value}(I:Inv X pins σ H s)(r:bI x v)(ty:tyV X.K T x H) :
 s.TypeIs v T/\∀a,v=.ref a->∃ob,s.heap.get? a=some ob/\ob.dict=none:=by
 cases x with
 | str z=>
  obtain⟨t,rfl⟩:=r
  cases(show T = "str" from ty)
  exact⟨typeIs_str s z t,λ_ e=>nomatch e⟩
 | int i=>
  obtain⟨t,rfl⟩:=r
  cases(show T = "int" from ty)
  exact⟨FU s i t,λ_ e=>nomatch e⟩
 | ref p=>
  cases r
  rcases ty with⟨rfl,xs,hq⟩|⟨rfl,o,hk,hc,hd⟩|⟨rfl,hk⟩|⟨rfl,S,n,hk⟩
  . obtain⟨its,_,pl,_⟩:=I.list hq
    refine⟨pl.isList.typeIs,λa e=>?_⟩
    cases e
    obtain⟨o,n,e,c,hd,_⟩:=pl
    exact⟨o,e,hd⟩
  . refine⟨⟨o,I.kIn p o hk,hc⟩,λa e=>?_⟩
    cases e
    exact⟨o,I.kIn _ o hk,hd⟩
  . have z:∃o,s.heap.get? p=some o/\o.ExactDict:=by
     rcases hk with⟨kvs,hk⟩|⟨kvs,hk⟩
     . obtain⟨_,_,_,_,o,_,_,e,ex,_⟩:=I.hok p _ hk
       exact⟨o,e,ex⟩
     . obtain⟨_,_,_,_,o,_,_,e,ex,_⟩:=I.hok p _ hk
       exact⟨o,e,ex⟩
    obtain⟨o,e,ex⟩:=z
    refine⟨⟨o,e,ex.1⟩,λa e2=>?_⟩
    cases e2
    exact⟨o,e,ex.2.1⟩
  . obtain⟨o,_,_,_,e,ex,_⟩:=I.hok p _ hk
    refine⟨⟨o,e,ex.1⟩,λa e2=>?_⟩
    cases e2
    exact⟨o,e,ex.2.1⟩
 | _=>exact BS ty
def aLl(K:Ak)(T:String)(r:V->List V->Hp->VK->Prop)(to:TE):TE:=λσ H Q=>to σ H λx H1=>tyV K T x H1/\r x [] H1 Q
def tBM(K:Ak)(T:String)(r:V->List V->Hp->VK->Prop)(to:TE)(t:TA):TE:=λσ H Q=>to σ H λx H1=>tyV K T x H1/\t σ H1 λxs H2=>r x xs H2 Q
variable {o e:Ah} {es:List Ah} {to:TE} {t:TA} {name:Str} {apos cpos:BX} {T id:String} {r:V->List V->Hp->VK->Prop}
theorem xK(pa:PlainAttrs T)(slot:Slot T name id)(hty:typeOf (.builtin id)=pure (.type "method_descriptor"))(hm:MtR X id r)(ho:PE X o to)
 (hbase:Gv o name X.env (C3 o X.env)=C3 o X.env:=by rfl) (hline:(apos.endLine==cpos.line)=true:=by rfl):PE X (.Call (.Attribute o name apos) [] [] cpos) (aLl X.K T r to):=by
 intro pins s σ H Q I h
 refine wpAny_Call_method0_late hbase hline (thn (ho pins s σ H _ I h) λv s1 ⟨x,H1,I1,r1,ty,q1⟩=>?_)
 obtain⟨h1,h2⟩:=aBX I1 r1 ty
 exact⟨T,id,pa,slot,hty,h1,h2,CK rfl (PySem.evalArgs_none (hm pins s1 σ H1 x [] v [] Q I1 r1 .nil q1))⟩
theorem uF(pa:PlainAttrs T)(slot:Slot T name id)(hty:typeOf (.builtin id)=pure (.type "method_descriptor"))(hm:MtR X id r)(ho:PE X o to)(ha:PA X (e::es) t)
 (hbase:Gv o name X.env (C3 o X.env)=C3 o X.env:=by rfl)
 (hfew:((Dp cpos (AN (e::es) X.env)).all (λx=>!x.1)&&(backToKw cpos (keywordEach [] X.env)).all (λx=>x.1.isSome)
  && decide ((e::es).length+([]:List Hm).length+(if ([]:List Hm).isEmpty then 0 else 1)<30))=true:=by rfl)
 (hline:(apos.endLine==cpos.line)=true:=by rfl) (hs:AN (e::es) X.env=(false,C3 e X.env)::AN es X.env:=by rfl) (hplain:(Dp cpos (AN es X.env)).any (·.1)=false:=by rfl) :
 PE X (.Call (.Attribute o name apos) (e::es) [] cpos) (tBM X.K T r to t):=by
 intro pins s σ H Q I h
 refine DU hbase hfew hline rfl (thn (ho pins s σ H _ I h) λv s1 ⟨x,H1,I1,r1,ty,q1⟩=>?_)
 obtain⟨h1,h2⟩:=aBX I1 r1 ty
 refine⟨T,id,pa,slot,hty,h1,h2,?_⟩
 have hA:=ha cpos pins s1 σ H1 _ I1 q1
 rw[hs] at hA ⊢
 refine CK (by show(false||(Dp cpos (AN es X.env)).any (·.1))=false;rw[hplain] <;> rfl) (Eo ?_)
 exact thn hA λus s2 ⟨vs,H2,I2,r2,q2⟩=>hm pins s2 σ H2 x vs v us Q I2 r1 r2 q2
end
end L2
namespace L2
open PySem PySem.Spec PyProof.Rows
def MtM(X:Cx)(id:String)(r:V->List V->Hp->VK->Prop):Prop:=
 ∀(pins:List (Addr×Obj)) (s:Ae) (σ:St) (H:Hp) (x:V) (xs:List V) (v:Value) (us:List Value) (Q:VK),Inv X pins σ H s->bI x v->aV xs us->r x xs H Q ->
  Au (A3 X.prog X.w) X.A (call (.builtin id) (v::us)) (EP X pins σ Q) X.xe s
theorem aV.one:∀{x:V} {us:List Value},aV [x] us->∃u,us=[u]/\bI x u:=by
 intro x us h
 cases h with|cons r t=>cases t;exact⟨_,rfl,r⟩
theorem aV.zero:∀{us:List Value},aV [] us->us=[]
 | _,.nil=>rfl
theorem aV.dropLast{xs:List V}{us:List Value}(h:aV xs us):aV xs.dropLast us.dropLast:=by
 induction h with
 | nil=>exact .nil
 | cons r t ih=>
  cases t with
  | nil=>exact .nil
  | cons q t'=>exact .cons r ih
theorem aV.rep{xs:List V}{us:List Value}(h:aV xs us):∀k:Nat,aV (Ad k xs).flatten (Ad k us).flatten
 | 0=>.nil
 | k+1=>by
  rw[A0,A0,AB,AB]
  exact aV.append h (aV.rep h k)
theorem gD{α:Type}(l:List α):l.eraseIdx (l.length-1)=l.dropLast:=by
 induction l with
 | nil=>rfl
 | cons a r ih=>
  cases r with
  | nil=>rfl
  | cons b r=>
   have e:(a::b::r).length-1=((b::r).length-1)+1:=by
    have h1:(a::b::r).length=r.length+2:=rfl
    have h2:(b::r).length=r.length+1:=rfl
    omega
   rw[e,List.eraseIdx_cons_succ,ih]
   all_goals rfl
theorem qN(its:List Value):∀(k:Nat) (acc:List Value),
 EF (λx1 x2=>x1++x2) acc.toArray (Ad k its.toArray)=(acc++(Ad k its).flatten).toArray
 | 0,acc=>by simp
 | k+1,acc=>by
  have e:acc.toArray++its.toArray=(acc++its).toArray:=by simp
  have e2:(acc++its)++(Ad k its).flatten=acc++(Ad (k+1) its).flatten:=by
   rw[A0,AB,Ba]
  rw[<-e2,<-qN its k (acc++its),<-e,A0,BL]
section
variable {X:Cx} {pins:List (Addr×Obj)} {σ:St} {H:Hp} {s:Ae} {l b:Addr} {xs ys zs:List V}
theorem Inv.lset{its its':List Value}{n:Nat}{f:Array Value->Array Value}{t':Nat}(I:Inv X pins σ H s)(hH:H l=some (.lst xs))
 (e:s.heap.get? l=some { cls:=.type "list",data:=.seq its.toArray n }) (hf:f its.toArray=its'.toArray) (hv:aV ys its') (hz:ys.length<=sizeLine) :
 Inv X pins σ (upd H l (.lst ys)) { s with heap:=s.heap.update l (Du f),toks:=t' }:=by
 have q:=Fp e f
 rw[hf] at q
 refine I.write (x:=l) (e:=l) (by rw[hH];exact trivial) (.inl rfl) (λb' u hb hu=>(Cj s.heap (Du f) (Cz hb)).trans hu) ⟨_,q⟩ ?_
 exact⟨hz,its',_,hv,q⟩
theorem Inv.lnew{its:List Value}{t':Nat}(I:Inv X pins σ H s)(hv:aV ys its)(hz:ys.length<=sizeLine) :
 Inv X pins σ (upd H s.heap.objs.size (.lst ys)) { s with heap:=s.heap.push { cls:=.type "list",data:=.seq its.toArray },toks:=t' }:=
 I.laid (λ_ _ q=>Ab _ q) (Aj _) ⟨hz,its,0,hv,As _ rfl⟩
theorem Inv.fresh(I:Inv X pins σ H s):H s.heap.objs.size=none:=I.hok.fresh (Aj _)
theorem Inv.lstM(I:Inv X pins σ H s)(hH:H l=some (.lst xs)):xs.length<=sizeLine/\∃(its:List Value) (n:Nat),aV xs its/\xs.length=its.length/\s.heap.get? l=some { cls:=.type "list",data:=.seq its.toArray n }:=by
 obtain⟨z,its,n,r,e⟩:=I.hok l _ hH
 exact⟨z,its,n,r,r.length,e⟩
theorem uG{n:Nat}(h:n<=sizeLine):Bx n=false:=by
 unfold Bx
 exact Ao (by omega)
end
section
variable {X:Cx}
def aDX:V->List V->Hp->VK->Prop:=λx vs H Q=>∃l xs y,x=.ref l/\vs=[y]/\H l=some (.lst xs)/\xs.length<sizeLine/\Q .non (upd H l (.lst (xs++[y])))
theorem lP:MtM X "list.append" aDX:=by
 intro pins s σ H x vs v us Q I rx rv h
 obtain⟨l,xs,y,rfl,rfl,hH,hz,q⟩:=h
 cases rx
 obtain⟨u,rfl,ru⟩:=rv.one
 obtain⟨z,its,n,r,hl,e⟩:=I.lstM hH
 refine CT EG ⟨_,e,rfl⟩ E1 (Ep _ _) (Fa l its.toArray n u (by rw[Af];omega)) ⟨e,?_⟩
 refine⟨.non,_,I.lset (its':=its++[u]) hH e (by simp) (r.append (.cons ru .nil)) ?_,rfl,q⟩
 rw[Ch,Bj]
 omega
def aDY:V->List V->Hp->VK->Prop:=λx vs H Q=>∃l b xs zs,x=.ref l/\vs=[.ref b]/\H l=some (.lst xs)/\H b=some (.lst zs)/\xs.length+zs.length<=sizeLine/\Q .non (upd H l (.lst (xs++zs)))
theorem qO:MtM X "list.extend" aDY:=by
 intro pins s σ H x vs v us Q I rx rv h
 obtain⟨l,b,xs,zs,rfl,rfl,hH,hB,hz,q⟩:=h
 cases rx
 obtain⟨u,rfl,ru⟩:=rv.one
 cases ru
 obtain⟨z,its,n,r,hl,e⟩:=I.lstM hH
 obtain⟨z2,its2,n2,r2,hl2,e2⟩:=I.lstM hB
 have hsz:its.toArray.size+its2.toArray.size<=sizeLine:=by rw[Af,Af];omega
 have hlong:¬ (!its.toArray.isEmpty&&Bx (its.toArray.size+its2.toArray.size))=true:=by
  rw[uG hsz,Bool.and_false]
  exact CC
 refine CT F.slot_list_extend ⟨_,e,rfl⟩ F.entry_list_extend (F.args_list_extend_2 _ _)
  (Fb l its.toArray n b its2.toArray n2 hlong (by rw[Af];omega) (by omega)) ⟨e,e2,?_⟩
 refine⟨.non,_,I.lset (its':=its++its2) hH e (by simp) (r.append r2) ?_,rfl,q⟩
 rw[Ch]
 omega
def aLm:V->List V->Hp->VK->Prop:=λx vs H Q=>∃l xs y,x=.ref l/\vs=[]/\H l=some (.lst xs)/\xs[xs.length-1]? = some y/\Q y (upd H l (.lst xs.dropLast))
theorem aGk:MtM X "list.pop" aLm:=by
 intro pins s σ H x vs v us Q I rx rv h
 obtain⟨l,xs,y,rfl,rfl,hH,hy,q⟩:=h
 cases rx
 have hus:=rv.zero
 subst hus
 obtain⟨z,its,n,r,hl,e⟩:=I.lstM hH
 obtain⟨u,hu,ru⟩:=r.get hy
 have hy':its.toArray[its.toArray.size-1]? = some u:=by
  show its.toArray[its.length-1]? = some u
  rw[<-Ej,<-hl]
  exact hu
 refine CT F.slot_list_pop ⟨_,e,rfl⟩ F.entry_list_pop (F.args_list_pop_1 _) (GC l its.toArray n u hy' (by rw[Af];omega)) ⟨e,?_⟩
 refine⟨y,_,I.lset (its':=its.dropLast) hH e ?_ r.dropLast ?_,ru,q⟩
 . show its.toArray.eraseIdxIfInBounds (its.toArray.size-1)=its.dropLast.toArray
   rw[Af,List.eraseIdxIfInBounds_toArray,gD]
 . rw[CY]
   omega
def aGl:V->List V->Hp->VK->Prop:=λx vs H Q=>∃l xs,x=.ref l/\vs=[]/\H l=some (.lst xs)/\Q .non (upd H l (.lst []))
theorem uH:MtM X "list.clear" aGl:=by
 intro pins s σ H x vs v us Q I rx rv h
 obtain⟨l,xs,rfl,rfl,hH,q⟩:=h
 cases rx
 have hus:=rv.zero
 subst hus
 obtain⟨z,its,n,r,hl,e⟩:=I.lstM hH
 refine CT F.slot_list_clear ⟨_,e,rfl⟩ F.entry_list_clear (F.args_list_clear_1 _) (FV l its.toArray n (by rw[Af];omega)) ⟨e,?_⟩
 exact⟨.non,_,I.lset (its':=[]) (ys:=[]) hH e rfl .nil (BD _),rfl,q⟩
theorem jU{α:Type}(xs:List α)(k:Nat):(Ad k xs).flatten.length=k*xs.length:=by
 induction k with
 | zero=>simp
 | succ k ih=>rw[A0,AB,Ch,ih,DV,DW]
end
section
variable {prog:Av} {w:AG} {A:AY} {E:Value->Ae->Prop} {s:Ae}
end
section
variable {X:Cx}
end
end L2
namespace Att
open PySem PySem.W PySem.Calls PyProof.Rows
theorem nE{P:FW}{h:Heap}:∀(ns:List Int) (vs:List Value),WellAll P h vs (ns.map Hv)->FE vs ns:=by
 intro ns
 induction ns with
 | nil=>
  intro vs w
  rw[List.map_nil] at w
  cases w
  exact .nil
 | cons n ns ih=>
  intro vs w
  rw[List.map_cons] at w
  cases w with
  | cons a b=>
   cases a
   exact .cons _ _ (ih _ b)
theorem aAM{l:Hn}{n:Nat}(hn:l.most=some n){P:FW}{h:Heap}{args:List WData}{vals:List Value}
 (hpre:l.row.toRowW.claim.pre args=true) (hwl:WellAll P h vals args) :
 ∃a vs ns,vals=[CO a]/\args=[WData.list (ns.map Hv)]/\h.get? a=some { cls:=.type "list",data:=.seq vs.toArray }/\FE vs ns/\ns.length<=n:=by
 have hsh:WShape.hasAll [] args [.list .int]=true:=(pre_splitW hpre).1
 have hc:l.pre.holds [] { args:=args }=true:=(pre_splitW hpre).2
 obtain⟨d,r,rfl,h1,h2⟩:=hasAllW_cons hsh
 obtain rfl:=hasAllW_nil h2
 obtain⟨xs,rfl,h3⟩:=hasW_list h1
 obtain⟨ns,rfl⟩:=items_int h3
 have hlen:ns.length<=n:=by
  unfold OpenLaw.pre at hc
  have h4:(WTm.not (.lt (.lit (.int (n:Int))) (.len (.arg 0)))).holds [] { args:=[.list (ns.map .int)] }=true:=by
   have h4:=(holds_andW hc).1
   rw[hn] at h4
   exact h4
  have h5:=condW_of h4 (w_not (w_lt w_lit (w_len_list (w_arg rfl))))
  rw[Ed] at h5
  refine Fq λq=>?_
  have q':(n:Int)<((ns.length:Nat):Int):=by omega
  first
   | (rw[Al q'] at h5;exact absurd h5 (by decide))
   | (simp at h5;omega)
 cases hwl with
 | cons w1 w2=>
  cases w2
  cases w1 with
  | list ho hall=>exact⟨_,_,ns,rfl,rfl,ho,nE ns _ hall,hlen⟩
theorem aAN(l:Hn)(args:List WData):l.row.toRowW.claim.post args (.bool true) args=true:=
 postW_of (r:=l.row.toRowW) (X:=(true==true))
  (show Hf [] (.bool true) .bool=true by first|rfl|decide|simp[Hf,WShape.arms,WShape.armsAll])
  (show(WTm.eq .res (.lit (.bool true))).value [] { args:=args,res:=some (.bool true),after:=args }=some (.bool (true==true)) from w_eq_bool (w_res rfl) w_lit) rfl
theorem attach_call{l:Hn}{n:Nat}{q:Av}{loose:List Str}{XP:(Str->Option Value)->Heap->Prop}{YP:AG->Heap->Prop}{d:DefRec}
 (hn:l.most=some n) (hdf:d.params.defaults=[])
 (call:∀(w:AG) (s₀ s₁:Ae) (mg mb:Str->Option Value) (fa:Addr) (o:Obj) (pm cd doc:Value) (a:Addr) (vs:List Value) (ns:List Int),
  Ground q loose [] XP w s₀ mg mb s₁.heap->YP w s₁.heap ->
  s₁.heap.get? fa=some o->o.data=.func (docDef d.name d.params d.body d.scope pm cd doc)->s₁.heap.CodeRec cd d.name->mg d.name=some (.ref fa) ->
  s₁.heap.get? a=some { cls:=.type "list",data:=.seq vs.toArray }->FE vs ns->ns.length<=n->s₁.gens=#[] ->
  DN (A3 l.prog w) DX (.call (.ref fa) ⟨[.ref a],[]⟩) (λr s'=>r=.ok (.ret (.bool true))/\OldK s₁.heap s'.heap/\s'.os=s₁.os/\D1 s'.gens) s₁) :
 WalkO q loose XP YP l.row.toRowW d [] (λf vs=>FX f vs):=by
 intro w s₀ s₁ mg mb G Y fa o pm cd doc dV kV ho hd hcd hD hmg hg args vals as hpre hlay hrd hwl hlo
 obtain rfl:dV=.none:=Dflts.none hD hdf
 obtain rfl:kV=.none:=Dflts.noKw hD
 obtain⟨a,vs,ns,rfl,rfl,hobj,hints,hlen⟩:=aAM hn hpre hwl
 refine enter_call (EV (call w s₀ s₁ mg mb fa o pm cd doc a vs ns G Y ho (fd_plain hd) hcd hmg hobj hints hlen hg) λr s' hq=>?_)
 obtain⟨rfl,h2,h3,h4⟩:=hq
 exact⟨.inl ⟨.bool true,.bool true,[],rfl,λ_=>rfl,.bool true,aAN l _,λ_=>⟨D2,λ_ hm=>(nomatch hm)⟩⟩,h2,h3,h4⟩
section
variable {prog:Av} {w:AG} {A:AY} {E:Value->Ae->Prop} {s:Ae} {K:Frag}
end
end Att
namespace L2
open PySem PySem.Spec PyProof.Rows
theorem qP:∀{vs:List Value} {ns:List Int},FE vs ns->aV (ns.map V.int) vs
 | _,_,.nil=>.nil
 | _,_,.cons n t h=>.cons ⟨t,rfl⟩ (qP h)
def aDZ(H:Hp):Prop:=∀b,H b=none\/∃o xs,H b=some (.frz o (.lst xs))
theorem aBY{P:Av}{w:AG}{K:Ak}{mg mb:Str->Option Value}{CX:CXT}{k:Nat}{fa a:Addr}{fd:Cy}{x:Str}{sp:Sp}{s₁:Ae}{vs:List Value}{ns:List Int}
 (KX:K.In s₁.heap) (hns:s₁.heap.Ns AZ mg) (hb:s₁.heap.Ns ED mb) (hbb:∀x:Str,x ≠ "__name__" -> mb x=BA x) (hlim:s₁.heap.NoLimit) (hg:s₁.gens=#[])
 (ha:s₁.heap.get? a=some { cls:=.type "list",data:=.seq vs.toArray }) (hi:FE vs ns) (hl:ns.length<=sizeLine) (hr:jH k DX)
 (F:∀base:Heap,K.In base->base.Ns AZ mg->nD P w K mg base CX k fa fd [x] sp) (hbind:∀(s:Ae) (u:Value),GB s fd ⟨[u],[]⟩ [(x,u)])
 (hsp:∀H:Hp,aDZ H->SqL K H a (ns.map V.int)->sp [.ref a] H (λv _=>v=.bl true) λ_ _ _=>False)
 (hCX:∀H e s',CX [] H s₁ (λ_ _ _=>False) e s'->False) :
 DN (A3 P w) DX (.call (.ref fa) ⟨[.ref a],[]⟩) (λr s'=>r=.ok (.ret (.bool true))/\OldK s₁.heap s'.heap/\s'.os=s₁.os/\D1 s'.gens) s₁:=by
 have rv:=qP hi
 have lenV:=hi.length
 have core:∀H:Hp,aDZ H->SqL K H a (ns.map V.int)->HOk P w H s₁.heap->(∀b,H b≠none->b=a)->(H a≠none->K.lookup a=none) ->
  DN (A3 P w) DX (.call (.ref fa) ⟨[.ref a],[]⟩) (λr s'=>r=.ok (.ret (.bool true))/\OldK s₁.heap s'.heap/\s'.os=s₁.os/\D1 s'.gens) s₁:=by
  intro H hO hS hok hA hK
  have base_of:∀{b:Addr} {o:Obj},s₁.heap.get? b=some o->H b=none->(rL s₁.heap H).get? b=some o:=λe n=>aBB e n
  have noA:∀{b:Addr} {o:Obj} {es:Array Dl} {ep:Nat},s₁.heap.get? b=some o->o.data=.dict es ep->H b=none:=λ{b o es ep} e d=>by
   cases q:H b with
   | none=>rfl
   | some u=>
    have e':b=a:=hA b (by rw[q];simp)
    subst e'
    rw[ha] at e;cases e
    have d':FY vs.toArray _=Data.dict es ep:=d
    cases d'
  have nsK:∀{b:Addr} {m:Str->Option Value},s₁.heap.Ns b m->(rL s₁.heap H).Ns b m:=λ{b m} ⟨o,es,ep,e,d,r⟩=>⟨o,es,ep,base_of e (noA e d),d,r⟩
  have hKb:K.In (rL s₁.heap H):=λb o e=>base_of (KX b o e) (by
   cases q:H b with
   | none=>rfl
   | some u=>
    have e':b=a:=hA b (by rw[q];simp)
    subst e'
    rw[hK (by rw[q];simp)] at e;cases e)
  have hM:Mod K mg (rL s₁.heap H):=⟨hKb,nsK hns,⟨mb,nsK hb,hbb⟩,let ⟨mc,h1,h2⟩:=hlim;⟨mc,nsK h1,h2⟩⟩
  have e0:aDR P w K mg (rL s₁.heap H) DX [] s₁ H:=⟨rfl,hM,λb o e=>aDE e,Nat.le_of_eq (aAG _ _),trivial,λb hb=>absurd (show b∈([]:List Addr) from hb) (by simp),hok,.of_eq hg⟩
  refine EV ((F _ hKb (nsK hns)).run DX [] s₁ H ⟨[.ref a],[]⟩ [.ref a] [.ref a] _ _ hr e0 (hbind s₁ (.ref a)) (.cons rfl .nil) (hsp H hO hS)) λr s' h=>?_
  cases r with
  | error e=>exact(hCX H e s' h).elim
  | ok fl=>
   cases fl with
   | next=>exact BS h
   | brk=>exact BS h
   | cont=>exact BS h
   | ret u=>
    obtain⟨v,H',os,bare,un,hok',r',q⟩:=h
    have q':v=.bl true:=q
    subst q'
    obtain rfl:u=CN true:=r'
    refine⟨rfl,OldK.of_keep λb o e=>?_,os,bare⟩
    cases q:H b with
    | none=>exact un.keep b o e q (by intro z;exact absurd (show b∈([]:List Addr) from z) (by simp)) (by simp)
    | some u=>
     rcases hO b with z|⟨ob,xs,z⟩
     . rw[q] at z;cases z
     . have z2:=un.frzs b ob _ z
       obtain⟨e1,_⟩:=hok b _ z
       obtain⟨e2,_⟩:=hok' b _ z2
       rw[e] at e1;cases e1
       exact e2
 cases hk:K.lookup a with
 | some o=>
  have e:=KX a o hk
  rw[ha] at e
  cases e
  refine core (λ_=>none) (λ_=>.inl rfl) (.inr ⟨_,vs.toArray,_,hk,rfl,rfl,rfl,by rw[Af,lenV];exact hl,by simpa using rv⟩) (λb u z=>by have z':(none:Option HO)=some u:=z;cases z') (λb z=>absurd rfl z) λz=>absurd rfl z
 | none=>
  refine core (λb=>if b=a then some (.frz { cls:=.type "list",data:=.seq vs.toArray } (.lst (ns.map V.int))) else none) (λb=>?_) (.inl (.inr ⟨{ cls:=.type "list",data:=.seq vs.toArray },if_pos rfl⟩)) (λb u z=>?_) (λb z=>?_) λ_=>hk
  . by_cases hb:b=a
    . exact .inr ⟨_,_,if_pos hb⟩
    . exact .inl (if_neg hb)
  . by_cases hb:b=a
    . have z':=(if_pos hb).symm.trans z
      cases z'
      subst hb
      exact⟨ha,by rw[Ed];exact hl,vs,_,rv,ha⟩
    . have z':=(if_neg hb).symm.trans z
      cases z'
  . by_cases hb:b=a
    . exact hb
    . exact absurd (if_neg hb) z
end L2
namespace L2
open PySem PySem.Spec PyProof.Rows
end L2
namespace L2
open PySem PySem.Spec PyProof.Rows
def iM(s:Br):Ex:=match s with
 | .FunctionDef _ a _ _ _ _ _ _ _ _=>a
 | _=>{ posonlyargs:=[],args:=[],vararg:=none,kwonlyargs:=[],kw_defaults:=[],kwarg:=none,defaults:=[] }
def iN(s:Br):List Br:=match s with
 | .FunctionDef _ _ b _ _ _ _ _ _ _=>b
 | _=>[]
def bM(s:Br):Cu:=match s with
 | .FunctionDef _ _ _ _ _ _ sc _ _ _=>sc
 | _=>{ kind:=.function,names:=[],isGenerator:=false,isCoroutine:=false }
abbrev CX0:CXT:=λ_ _ _ _ _ _=>False
abbrev E0:XK:=λ_ _ _=>False
theorem mQ{X:Cx}:rQ CX0 X E0:=λ_ _ _ _ _ _ _ h=>h.elim
structure Fun (K:Ak) (x qual:Str) (st:Br) (f:Addr) (fd:Cy):Prop where
 ex:∃(oc:Value) (od:Option Addr) (kV doc pm:Value) (an:Option Addr) (cdv ct:Value) (osl:Array (Option Value)),
  fd=DP x qual (iM st) (iN st) (bM st) .none kV doc pm an cdv ct/\K.lookup f=some ⟨oc,od,.func fd,osl⟩/\FR K cdv qual=true
 kp:BG K (.ref f)=true
section
variable {P:Av} {w:AG} {K:Ak} {mg:Str->Option Value} {base:Heap}
theorem Fun.ok{x qual:Str}{st:Br}{f:Addr}{fd:Cy}{N ps:List Str}{k:Nat}{sp:Sp}(F:Fun K x qual st f fd)(S:nM N ps (bM st))(len:∀vs H Q E,sp vs H Q E->vs.length=ps.length)
 (hbody:∀(cdv:Value) (A:AY) (outer:List Go) (s:Ae) (H:Hp) (vs:List V) (Q:VK) (E:XK),jH k (A.deeper (En qual (bM st) s.heap.objs.size f cdv))->sp vs H Q E ->
  ∃t,PSs (xE CX0 P w K mg base N qual (bM st) f cdv A outer s H E).nox (iN st) t/\t { nx:=λ_ H'=>Q .non H',rt:=Q } (start N vs) H):nD P w K mg base CX0 (k+1) f fd ps sp:=by
 obtain⟨oc,od,kV,doc,pm,an,cdv,ct,osl,rfl,lk,hcd⟩:=F.ex
 refine aIG lk hcd S len λA outer s H vs Q E hr hsp=>?_
 obtain⟨t,h,q⟩:=hbody cdv A outer s H vs Q E hr hsp
 exact⟨t,h.nox,q⟩
theorem Fun.binds{x qual:Str}{st:Br}{f:Addr}{fd:Cy}{ps:List Str}(F:Fun K x qual st f fd)
 (h:∀(kV doc pm:Value) (an:Option Addr) (cdv ct:Value) (us:List Value),us.length=ps.length->FO (DP x qual (iM st) (iN st) (bM st) .none kV doc pm an cdv ct) ⟨us,[]⟩=pure (ps.zip us)):jC K fd ps []:=by
 obtain⟨oc,od,kV,doc,pm,an,cdv,ct,osl,rfl,lk,hcd⟩:=F.ex
 exact .all (h kV doc pm an cdv ct)
end
section
variable {X:Cx}
end
theorem aGm{A B:Prop}(h:B):if false=true then A else B:=by
 rw[if_neg CC]
 exact h
theorem aIN{A B:Prop}(h:A):if true=true then A else B:=by
 rw[if_pos rfl]
 exact h
def aL(H H':Hp):Prop:=∀b o,H b=some o->H' b=some o
theorem aL.refl(H:Hp):aL H H:=λ_ _ h=>h
theorem aL.trans{H H1 H2:Hp}(a:aL H H1)(b:aL H1 H2):aL H H2:=λc o h=>b c o (a c o h)
theorem aL.free{H H':Hp}(e:aL H H'){l:Addr}(h:H' l=GR):H l=GR:=by
 cases q:H l with
 | none=>rfl
 | some o=>
  rw[e l o q] at h
  cases h
theorem aL.seq{K:Ak}{H H':Hp}{a:Addr}{xs:List V}(e:aL H H')(h:SqL K H a xs):SqL K H' a xs:=by
 rcases h with(h|⟨o,h⟩)|h
 . exact .inl (.inl (e _ _ h))
 . exact .inl (.inr ⟨o,e _ _ h⟩)
 . exact .inr h
end L2
end
noncomputable section
namespace Hp
open PySem (Str Operator CmpOp)
inductive D where
 | non|bl (b:Bool)|int (i:Int)|str (x:Str)
 | tup (ds:List D)|lst (ds:List D)
 | dic (kvs:List (D×D))
 | err (c:Nat) (fs:List D)
 deriving Inhabited
mutual
def noL:D->Bool
 | .tup ds=>noLs ds
 | .lst _=>false
 | .dic _=>false
 | .err _ _=>false
 | _=>true
def noLs:List D->Bool
 | []=>true
 | d::ds=>noL d&&noLs ds
end
def lim:Nat:=1000000
def b2i(b:Bool):Int:=if b then 1 else 0
def eqL(f:D->D->Option Bool):List D->List D->Option Bool
 | [],[]=>some true
 | a::as,b::bs=>match f a b,eqL f as bs with
  | some x,some y=>some (x&&y)
  | _,_=>none
 | _,_=>some false
def eqF:Nat->D->D->Option Bool
 | 0,_,_=>none
 | n+1,a,b=>match a,b with
  | .non,.non=>some true
  | .bl a,.bl b=>some (a==b)
  | .int a,.int b=>some (a==b)
  | .str a,.str b=>some (a==b)
  | .bl a,.int b=>some (b2i a==b)
  | .int a,.bl b=>some (a==b2i b)
  | .tup as,.tup bs=>eqL (eqF n) as bs
  | .lst as,.lst bs=>if as.length=bs.length then eqL (eqF n) as bs else some false
  | .dic _,_=>none
  | _,.dic _=>none
  | .err _ _,_=>none
  | _,.err _ _=>none
  | _,_=>some false
def fK(n:Nat):List D->List D->Option Bool
 | [],[]=>some true
 | a::as,b::bs=>match eqF n a b,fK n as bs with
  | some x,some y=>some (x&&y)
  | _,_=>none
 | _,_=>some false
@[simp] theorem xL (n:Nat):∀as bs:List D,eqL (eqF n) as bs=fK n as bs
 | [],[]=>rfl
 | [],_::_=>rfl
 | _::_,[]=>rfl
 | a::as,b::bs=>by rw[eqL,fK,xL n as bs]
def rY:Nat:=120
def eqD(a b:D):Option Bool:=eqF rY a b
inductive R (α:Type) where
 | ok (a:α)|exc (x:D)|bad
 deriving Inhabited
def R.bind{α β:Type}(x:R α)(f:α->R β):R β:=match x with
 | .ok a=>f a
 | .exc e=>.exc e
 | .bad=>.bad
instance:Monad R where
 pure:=.ok
 bind:=.bind
def R.of{α:Type}:Option α->R α
 | some a=>.ok a
 | none=>.bad
def R.iff{α:Type}(c:Bool)(x:R α):R α:=if c then x else .bad
structure Vl where
 d:D
 fr:Bool:=false
 pa:Bool:=false
 al:List Nat:=[]
 deriving Inhabited
def Vl.cl(d:D):Vl:=⟨d,false,false,[]⟩
def Vl.sub(v:Vl)(d:D):Vl:=if noL d then .cl d else ⟨d,false,v.pa,v.al⟩
set_option genInjectivity true in
inductive Sl where
 | dead|sh (pa:Bool) (d:D)|own (pa:Bool) (ds:List D)|lent (ds:List D)|dp (o:Option (List D))
 deriving Inhabited
abbrev Sg:=List Sl
def Sl.val(i:Nat):Sl->R Vl
 | .dead=>.bad
 | .sh pa d=>.ok ⟨d,false,pa&&!noL d,[]⟩
 | .own pa ds=>.ok ⟨.lst ds,false,pa,[i]⟩
 | .lent _=>.bad
 | .dp _=>.bad
def bV(σ:Sg)(i:Nat):R Vl:=match σ[i]? with
 | some s=>s.val i
 | none=>.bad
def Sl.freeze:Sl->Sl
 | .own pa ds=>.sh pa (.lst ds)
 | s=>s
def freeze(σ:Sg):List Nat->Sg
 | []=>σ
 | i::is=>freeze (match σ[i]? with|some s=>σ.set i s.freeze|none=>σ) is
def Vl.slot(v:Vl):Sl:=match v.fr,v.d with
 | true,.lst ds=>.own v.pa ds
 | _,d=>.sh v.pa d
inductive Bi where
 | len|list|tuple|min|max|abs|int|str|sum|all|any|sorted|bool|repr
 deriving DecidableEq,Inhabited
inductive Mt where
 | join|upper|lower|get|startswith|endswith|index|count|copy|isdigit|find|replace|split|strip
 deriving DecidableEq,Inhabited
inductive Cl where
 | tInt|tBool|tStr|tList|tTuple|tDict|own (c:Nat)|tValueError
 deriving DecidableEq,Inhabited
inductive T where
 | n (i:Nat)
 | t (ts:List Nat)
 deriving Inhabited
mutual
inductive E where
 | c (d:D)
 | v (i:Nat)
 | op (o:Operator) (a b:E)
 | neg (a:E)
 | nt (a:E)
 | an (a b:E)
 | orr (a b:E)
 | ife (t a b:E)
 | cmp (o:CmpOp) (a b:E)
 | cmp2 (o o':CmpOp) (a b c:E)
 | idx (a b:E)
 | sli (a:E) (lo hi:Es)
 | tup (es:Es)
 | lst (es:Es)
 | dic (ks vs:Es)
 | call (f:Nat) (es:Es)
 | bi (b:Bi) (es:Es)
 | mth (m:Mt) (o:E) (es:Es)
 | isi (a:E) (cs:List Cl)
 | attr (a:E) (f:Nat)
 | comp (k:Nat) (caps:List Nat) (t:T) (it:It) (cond:Es) (elt:E)
 | numset (a:E)   -- len(set(a))
 | tget (i:Nat) (a:E)   -- a dict of the module,.get(a)
 | lzip (a b:E)   -- list(zip(a,b))
 | lix (i:Nat) (k:E)   -- x[k],x lent
 | stp (a:E) (k:Nat)   -- a[::k]
 | callO (f:Nat) (z:Bool) (a:E) (i:Nat)   -- f(a,x) (z),or f(x,a);x a list with all within of its own;all that is told is new
 | neO (i:Nat) (a:E)   -- x != a,x such a list
inductive Es where
 | nil|cons (e:E) (es:Es)
inductive It where
 | seq (e:E)|rng (a b:E)|zip (a b:E)|enum (a:E)|rev (a:E)|rng3 (a b:Int) (c:Nat)
end
instance:Inhabited E:=⟨.c .non⟩
mutual
inductive EL where
 | e (a:E)
 | op (o:Operator) (a b:EL)
 | idx (a b:EL)
 | tup (es:ELs)
 | call (f:Nat) (es:ELs)   -- f(x,..),x lent
 | pcall (f:Nat) (es:ELs)   -- f(..),nothing lent
 | comp (k:Nat) (caps:List Nat) (t:T) (n:EL) (l':Nat) (elt:EL)   -- [elt for t in range(n)]
inductive ELs where
 | nil|cons (e:EL) (es:ELs)
end
inductive Arg where
 | e (a:E)|pop (i:Nat)
 deriving Inhabited
mutual
inductive S where
 | set (t:T) (e:E)
 | mov (i j:Nat)
 | setIx (i:Nat) (k e:E)
 | app (i:Nat) (e:E)
 | ext (i:Nat) (e:E)
 | pop (t:Option T) (i:Nat) (at':Option E)
 | clr (i:Nat)
 | ins (i:Nat) (k e:E)
 | rev (i:Nat)
 | appCall (i:Nat) (f:Nat) (as:List Arg)
 | ret (e:E)
 | retv (i:Nat)
 | retN
 | iff (c:E) (a b:Ss)
 | for (t:T) (it:It) (b:Ss)
 | whl (c:E) (b:Ss)
 | brk|cnt|pass
 | ex (e:E)
 | rse (c:Nat) (keep:Bool) (es:Es)
 | try (b:Ss) (hs:Hs)
 | tryN (b:Ss)   -- try: b,which ends without an exception
 | extV (i j:Nat)   -- i.extend(j),j an own list
 | tldD (i f:Nat) (es:Es)   -- i=f(..),a list;all that is told is new
 | tldO (i f:Nat) (a:E) (j:Nat)   -- i=f(a,x),the same
 | wrkA (i r:Nat)   -- for r in i: r.append(r[0])
 | wrkC (i r:Nat) (w:Str)   -- for r in i: if r[0]==w: r[2].clear()
 | clrD (i:Nat)   -- i.clear()
 | lend   -- slot 0 is lent (no text)
 | lset (i:Nat) (k e:E)
 | setL (i l:Nat) (fz:List Nat) (e:EL)
 | appL (i l:Nat) (e:EL)
 | retL (e:EL)
 | retvL (i:Nat)
 | iffL (o:CmpOp) (a:EL) (b:E) (x y:Ss)
 | forL (t:T) (e:EL) (b:Ss)
inductive Ss where
 | nil|cons (s:S) (ss:Ss)
inductive Hs where
 | nil|cons (cs:List Cl) (n:Option Nat) (b:Ss) (hs:Hs)
end
structure Fn where
 np:Nat
 ns:Nat
 body:Ss
structure Pg where
 fns:List Fn
 above:List (List Cl)
 tabs:List (List (Str×D)):=[]
abbrev Rt:=D×Bool×Bool
abbrev Caller:=Nat->List D->R Rt
def qQ(i j:Int):Bool:=(decide (-(2 ^ 64)<i)&&decide (i<2 ^ 64))||(decide (-(2 ^ 64)<j)&&decide (j<2 ^ 64))
def aFn(i j:Int):Bool:=decide (0<=j)&&decide (j<=1000)&&decide (i.natAbs<2 ^ 64)
def uI(j:Int):Bool:=decide (0<j)&&decide (j<1073741824)
def aH(k:Int):Bool:=decide (-(2 ^ 62)<=k)&&decide (k<2 ^ 62)
def Str.rep(x:Str)(k:Nat):Str:=⟨(Ad k x.cps).foldl (·++·) #[]⟩
@[simp] def uJ (x y:Vl):R Vl:=match x.d,y.d with
 | .int i,.int j=>.ok (.cl (.int (i+j)))
 | .str a,.str b=>.iff (decide (a.length+b.length<=lim)) (.ok (.cl (.str (a++b))))
 | .tup a,.tup b=>.iff (decide (a.length+b.length<=lim)) (.ok ⟨.tup (a++b),false,x.pa||y.pa,x.al++y.al⟩)
 | .lst a,.lst b=>.iff (decide (a.length+b.length<=lim)) (.ok ⟨.lst (a++b),true,(x.pa&&!noLs a)||(y.pa&&!noLs b),(if noLs a then [] else x.al)++(if noLs b then [] else y.al)⟩)
 | _,_=>.bad
@[simp] def rZ (x y:Vl):R Vl:=match x.d,y.d with
 | .int i,.int j=>.iff (qQ i j) (.ok (.cl (.int (i*j))))
 | .str a,.int k=>.iff (aH k&&decide (a.length*k.toNat<=lim)) (.ok (.cl (.str (Str.rep a k.toNat))))
 | .lst a,.int k=>.iff (aH k&&decide (a.length*k.toNat<=lim)) (.ok ⟨.lst (Ad k.toNat a).flatten,true,x.pa&&!noLs a,if noLs a then [] else x.al⟩)
 | _,_=>.bad
@[simp] def uK (f:Int->Int->R Vl) (x y:Vl):R Vl:=match x.d,y.d with
 | .int i,.int j=>f i j
 | _,_=>.bad
def opD(o:Operator)(x y:Vl):R Vl:=match o with
 | .Add=>uJ x y
 | .Mult=>rZ x y
 | .Sub=>uK (λi j=>.ok (.cl (.int (i-j)))) x y
 | .FloorDiv=>uK (λi j=>.iff (uI j) (.ok (.cl (.int (i / j))))) x y
 | .Mod=>uK (λi j=>.iff (decide (0<j)) (.ok (.cl (.int (i % j))))) x y
 | .Pow=>uK (λi j=>.iff (aFn i j) (.ok (.cl (.int (i ^ j.toNat))))) x y
 | _=>.bad
def aBZ:D->Option Bool
 | .non=>some false
 | .bl b=>some b
 | .int i=>some (i != 0)
 | .str x=>if x.length<=lim then some (x.length != 0) else none
 | .tup ds=>some (!ds.isEmpty)
 | .lst ds=>some (!ds.isEmpty)
 | _=>none
def eA(x:Vl):R Bool:=.of (aBZ x.d)
def fL:List D->Option (List Int)
 | []=>some []
 | .int a::ds=>match fL ds with
  | some ns=>some (a::ns)
  | none=>none
 | _=>none
def ltD:D->D->Option Bool
 | .int a,.int b=>some (decide (a<b))
 | _,_=>none
def leD:D->D->Option Bool
 | .int a,.int b=>some (decide (a<=b))
 | _,_=>none
def isNone:D->Bool
 | .non=>true
 | _=>false
def inD(x y:D):Option Bool:=match x,y with
 | .str a,.str b=>some (!(F6 b a 0 b.length 1).isEmpty)
 | _,_=>none
def bL(o:CmpOp)(x y:D):Option Bool:=match o with
 | .Eq=>eqD x y
 | .NotEq=>(eqD x y).map (!·)
 | .Lt=>ltD x y
 | .Gt=>match x,y with
  | .int a,.int b=>some (decide (b<a))
  | _,_=>none
 | .LtE=>leD x y
 | .GtE=>match x,y with
  | .int a,.int b=>some (decide (b<=a))
  | _,_=>none
 | .Is=>match y with
  | .non=>some (isNone x)
  | _=>none
 | .IsNot=>match y with
  | .non=>some (!isNone x)
  | _=>none
 | .In=>inD x y
 | .NotIn=>(inD x y).map (!·)
def ixN(n:Nat)(k:Int):Option Nat:=
 if 0<=k then (if k<n then some k.toNat else none) else (if -(n:Int)<=k then some (k+n).toNat else none)
def cG(x y:Vl):R Vl:=match x.d,y.d with
 | .lst ds,.int k=>match ixN ds.length k with
  | some j=>match ds[j]? with
   | some d=>.ok (x.sub d)
   | none=>.bad
  | none=>.bad
 | .tup ds,.int k=>match ixN ds.length k with
  | some j=>match ds[j]? with
   | some d=>.ok (x.sub d)
   | none=>.bad
  | none=>.bad
 | .str a,.int k=>.iff (decide (a.length<=lim)) (match ixN a.length k with
  | some j=>match a.cps.toList[j]? with
   | some c=>.ok (.cl (.str ⟨#[c]⟩))
   | none=>.bad
  | none=>.bad)
 | _,_=>.bad
def sIx(n d:Nat):Option Int->Nat
 | none=>d
 | some v=>if v<0 then (v+(n:Int)).toNat else min v.toNat n
def cut{α:Type}(xs:List α)(lo hi:Option Int):List α:=(xs.drop (sIx xs.length 0 lo)).take (sIx xs.length xs.length hi-sIx xs.length 0 lo)
def xM(x:Str)(lo hi:Option Int):Str:=⟨(cut x.cps.toList lo hi).toArray⟩
def eE(x:Vl)(lo hi:Option Int):R Vl:=match x.d with
 | .lst ds=>.ok ⟨.lst (cut ds lo hi),true,x.pa&&!noLs ds,if noLs ds then [] else x.al⟩
 | .tup ds=>.ok ⟨.tup (cut ds lo hi),false,x.pa&&!noLs ds,if noLs ds then [] else x.al⟩
 | .str a=>.iff (decide (a.length<=lim)) (.ok (.cl (.str (xM a lo hi))))
 | _=>.bad
def isI(cs:List Cl)(P:Pg):D->Option Bool
 | .non=>some false
 | .bl _=>some (cs.contains .tBool||cs.contains .tInt)
 | .int _=>some (cs.contains .tInt)
 | .str _=>some (cs.contains .tStr)
 | .tup _=>some (cs.contains .tTuple)
 | .lst _=>some (cs.contains .tList)
 | .dic _=>some (cs.contains .tDict)
 | .err c _=>match P.above[c]? with
  | some ab=>some (ab.any λa=>cs.contains a)
  | none=>none
def cM:List D->Option (List Bool)
 | []=>some []
 | .bl a::ds=>match cM ds with
  | some bs=>some (a::bs)
  | none=>none
 | _=>none
def sA:List D->Option (List (Sum Int Str))
 | []=>some []
 | .int a::ds=>match sA ds with
  | some ks=>some (.inl a::ks)
  | none=>none
 | .str a::ds=>match sA ds with
  | some ks=>some (.inr a::ks)
  | none=>none
 | _=>none
def aCa(ks:List (Sum Int Str)):List (Sum Int Str):=ks.foldl (λσ v=>if σ.any (·==v) then σ else σ++[v]) []
def aIO(x:D):List D->Option (List D)
 | []=>some [x]
 | y::ys=>match ltD x y with
  | some true=>some (x::y::ys)
  | some false=>match aIO x ys with
   | some r=>some (y::r)
   | none=>none
  | none=>none
def aIP:List D->Option (List D)
 | []=>some []
 | d::ds=>match aIP ds with
  | some r=>aIO d r
  | none=>none
@[simp] def aAO (b:Bi) (x:Vl):R Vl:=match b with
 | .len=>match x.d with
  | .lst ds=>.ok (.cl (.int ds.length))
  | .tup ds=>.ok (.cl (.int ds.length))
  | .str a=>.iff (decide (a.length<=lim)) (.ok (.cl (.int a.length)))
  | _=>.bad
 | .list=>match x.d with
  | .lst ds=>.ok ⟨.lst ds,true,x.pa&&!noLs ds,if noLs ds then [] else x.al⟩
  | .tup ds=>.ok ⟨.lst ds,true,x.pa&&!noLs ds,if noLs ds then [] else x.al⟩
  | _=>.bad
 | .tuple=>match x.d with
  | .lst ds=>.ok ⟨.tup ds,false,x.pa&&!noLs ds,if noLs ds then [] else x.al⟩
  | .tup ds=>.ok ⟨.tup ds,false,x.pa,x.al⟩
  | _=>.bad
 | .int=>match x.d with
  | .int i=>.ok (.cl (.int i))
  | .bl b=>.ok (.cl (.int (b2i b)))
  | _=>.bad
 | .sum=>match x.d with
  | .lst ds=>match fL ds with
   | some ns=>.ok (.cl (.int ns.sum))
   | none=>.bad
  | _=>.bad
 | .all=>match x.d with
  | .lst ds=>match cM ds with
   | some bs=>.ok (.cl (.bl (bs.all id)))
   | none=>.bad
  | _=>.bad
 | .any=>match x.d with
  | .lst ds=>match cM ds with
   | some bs=>.ok (.cl (.bl (bs.any id)))
   | none=>.bad
  | _=>.bad
 | _=>.bad
@[simp] def aIQ (b:Bi) (x y:Vl):R Vl:=match b with
 | .min=>match x.d,y.d with
  | .int i,.int j=>.ok (.cl (.int (if j<i then j else i)))
  | _,_=>.bad
 | .max=>match x.d,y.d with
  | .int i,.int j=>.ok (.cl (.int (if j>i then j else i)))
  | _,_=>.bad
 | _=>.bad
def biD(b:Bi)(xs:List Vl):R Vl:=match xs with
 | [x]=>aAO b x
 | [x,y]=>aIQ b x y
 | _=>.bad
def aCb:List D->Option (List Str)
 | []=>some []
 | .str x::ds=>match aCb ds with
  | some r=>some (x::r)
  | none=>none
 | _=>none
def aIR:D->D->Bool
 | .int a,.int b=>a==b
 | .str a,.str b=>a==b
 | _,_=>false
def aIS:D->Bool
 | .int _=>true
 | .str _=>true
 | _=>false
def aFo(k:D):List (D×D)->Option D
 | []=>none
 | (a,d)::r=>if aIR a k then some d else aFo k r
def upC(n:Nat):Nat:=if 97<=n/\n<=122 then n-32 else n
def mtD(m:Mt)(x:Vl)(ys:List Vl):R Vl:=match m,x.d,ys with
 | .join,.str a,[y]=>match y.d with
  | .lst ds=>match aCb ds with
   | some xs=>.iff (decide ((xs.map (·.length)).sum+xs.length*a.length<=lim)) (.ok (.cl (.str (H9 a xs))))
   | none=>.bad
  | _=>.bad
 | .get,.dic kvs,[y]=>.iff (aIS y.d) (match aFo y.d kvs with
  | some d=>.ok (x.sub d)
  | none=>.ok (.cl .non))
 | .upper,.str a,[]=>.iff (a.cps.all (·<128)) (.ok (.cl (.str ⟨a.cps.map upC⟩)))
 | _,_,_=>.bad
def bS(vs:List Vl):List Nat:=vs.flatMap (·.al)
def aT(vs:List Vl):Bool:=vs.any (·.pa)
def zK(vs:List Vl):Vl:=⟨.tup (vs.map (·.d)),false,aT vs,bS vs⟩
def gW(vs:List Vl):Vl:=⟨.lst (vs.map (·.d)),true,aT vs,bS vs⟩
def eT(args:List Vl)(r:Rt):Vl:=if r.2.2 then ⟨r.1,r.2.1,aT args,bS args⟩ else ⟨r.1,r.2.1,false,[]⟩
def bY(a b:Int):List D:=(AO (b-a).toNat).map λ(k:Nat)=>.int (a+(k:Int))
def dD:Int->List D->List D
 | _,[]=>[]
 | k,d::ds=>.tup [.int k,d]::dD (k+1) ds
def gX:List D->List D->List D
 | a::as,b::bs=>.tup [a,b]::gX as bs
 | _,_=>[]
def bJ(σ:Sg)(v:Vl):T->R Sg
 | .n i=>.ok (σ.set i v.slot)
 | .t is=>match v.d with
  | .tup ds=>if ds.length=is.length then .ok ((is.zip ds).foldl (λσ p=>σ.set p.1 (v.sub p.2).slot) σ) else .bad
  | _=>.bad
def cY(f:Vl->R (Option Vl)):List Vl->R (List Vl)
 | []=>.ok []
 | x::xs=>do
  let y<-f x
  let ys<-cY f xs
  match y with
  | some y=>.ok (y::ys)
  | none=>.ok ys
def aGn{α:Type}(k:Nat)(xs:List α):List α:=(AO ((xs.length+k-1) / k)).filterMap λm=>xs[m*k]?
def aEa(a b:Int)(c:Nat):List D:=(AO (((b-a)+c-1) / c).toNat).map λ(k:Nat)=>.int (a+(k:Int)*c)
def gY:D->Option (List D)
 | .lst ds=>some ds
 | .tup ds=>some ds
 | _=>none
def items(x:Vl)(ds:List D):List Vl:=ds.map x.sub
def hG(k:Nat)(caps al:List Nat)(vs:List Vl):Vl:=
 if noLs (vs.map (·.d)) then ⟨.lst (vs.map (·.d)),true,false,[]⟩
 else ⟨.lst (vs.map (·.d)),true,aT vs,al++(bS vs).filterMap λj=>caps[j-k]?⟩
def aFp(x y:Vl)(ds:List D):Vl:=if noLs ds then ⟨.lst ds,true,false,[]⟩ else ⟨.lst ds,true,x.pa||y.pa,x.al++y.al⟩
def dG(σ:Sg)(i:Nat):Option (List D):=match σ[i]? with
 | some (.dp o)=>o
 | _=>none
def qR:D->Bool
 | .lst (_::ds)=>decide (ds.length<1000)
 | _=>false
def jD(w:Str):D->Bool
 | .tup (.str x::ds)=>if x=w then (match ds with
  | _::.lst _::_=>true
  | _=>false) else true
 | _=>false
section
variable (P:Pg) (cl:Caller)
mutual
def ev(σ:Sg):E->R Vl
 | .c d=>.ok (.cl d)
 | .v i=>bV σ i
 | .op o a b=>do let x<-ev σ a;let y<-ev σ b;opD o x y
 | .neg a=>do
  let x<-ev σ a
  match x.d with
  | .int i=>.ok (.cl (.int (-i)))
  | _=>.bad
 | .nt a=>do let x<-ev σ a;let k<-eA x;.ok (.cl (.bl (!k)))
 | .an a b=>do
  let x<-ev σ a
  match x.d with
  | .bl true=>ev σ b
  | .bl false=>.ok (.cl (.bl false))
  | _=>.bad
 | .orr a b=>do
  let x<-ev σ a
  match x.d with
  | .bl true=>.ok (.cl (.bl true))
  | .bl false=>ev σ b
  | _=>.bad
 | .ife t a b=>do
  let x<-tst σ t
  if x then ev σ a else ev σ b
 | .cmp o a b=>do
  let x<-ev σ a
  let y<-ev σ b
  match bL o x.d y.d with
  | some k=>.ok (.cl (.bl k))
  | none=>.bad
 | .cmp2 o o' a b c=>do
  let x<-ev σ a
  let y<-ev σ b
  match bL o x.d y.d with
  | some true=>do
   let z<-ev σ c
   match bL o' y.d z.d with
   | some k=>.ok (.cl (.bl k))
   | none=>.bad
  | some false=>.ok (.cl (.bl false))
  | none=>.bad
 | .idx a b=>do let x<-ev σ a;let y<-ev σ b;cG x y
 | .sli a lo hi=>do
  let x<-ev σ a
  let l<-evs σ lo
  let h<-evs σ hi
  match l,h with
  | [],[]=>eE x none none
  | [l],[]=>match l.d with
   | .int l=>.iff (aH l) (eE x (some l) none)
   | _=>.bad
  | [],[h]=>match h.d with
   | .int h=>.iff (aH h) (eE x none (some h))
   | _=>.bad
  | [l],[h]=>match l.d,h.d with
   | .int l,.int h=>.iff (aH l&&aH h) (eE x (some l) (some h))
   | _,_=>.bad
  | _,_=>.bad
 | .tup es=>do let vs<-evs σ es;.ok (zK vs)
 | .lst es=>do let vs<-evs σ es;.ok (gW vs)
 | .dic ks vs=>do
  let ks<-evs σ ks
  let vs<-evs σ vs
  match (ks.map (λ(v:Vl)=>v.d):List D),(vs.map (λ(v:Vl)=>v.d):List D) with
  | [.int k],[.int v]=>.ok (.cl (.dic [(.int k,.int v)]))
  | _,_=>.bad
 | .call f es=>do
  let vs<-evs σ es
  let r<-cl f (vs.map (·.d))
  .ok (eT vs r)
 | .bi b es=>do let vs<-evs σ es;biD b vs
 | .mth m o es=>do let x<-ev σ o;let ys<-evs σ es;mtD m x ys
 | .isi a cs=>do
  let x<-ev σ a
  match isI cs P x.d with
  | some k=>.ok (.cl (.bl k))
  | none=>.bad
 | .attr a f=>do
  let x<-ev σ a
  match x.d with
  | .err _ fs=>match fs[f]? with
   | some d=>.ok (x.sub d)
   | none=>.bad
  | _=>.bad
 | .comp k caps t it cond elt=>do
  let xs<-walk σ it
  let vs<-cY (λx=>do
   let σ1<-bJ (Ad k .dead++caps.map λi=>((freeze σ xs.2)[i]?).getD .dead) x t
   let k<-tsts σ1 cond
   if k then do let y<-ev σ1 elt;.ok (some y) else .ok none) xs.1
  .iff (decide (vs.length<=lim)) (.ok (hG k caps xs.2 vs))
 | .numset a=>do
  let x<-ev σ a
  match x.d with
  | .lst ds=>match sA ds with
   | some ks=>.iff (decide (ds.length<=1000)) (.ok (.cl (.int (aCa ks).length)))
   | none=>.bad
  | _=>.bad
 | .tget i a=>do
  let x<-ev σ a
  match x.d,P.tabs[i]? with
  | .str k,some t=>.ok (.cl ((t.lookup k).getD .non))
  | _,_=>.bad
 | .lzip a b=>do
  let x<-ev σ a
  let y<-ev σ b
  match gY x.d,gY y.d with
  | some as,some bs=>.iff (decide (as.length<=lim)) (.ok (aFp x y (gX as bs)))
  | _,_=>.bad
 | .lix i k=>do
  let y<-ev σ k
  match σ[i]? with
  | some (.lent ds)=>cG ⟨.lst ds,false,true,[]⟩ y
  | _=>.bad
 | .stp a k=>do
  let x<-ev σ a
  match x.d with
  | .lst ds=>.iff (decide (0<k)) (.ok ⟨.lst (aGn k ds),true,x.pa&&!noLs ds,if noLs ds then [] else x.al⟩)
  | _=>.bad
 | .callO f z a i=>do
  let x<-ev σ a
  match dG σ i with
  | some ds=>do
   let r<-cl f (if z then [x.d,.lst ds] else [.lst ds,x.d])
   .iff (!r.2.2) (.ok ⟨r.1,r.2.1,false,[]⟩)
  | none=>.bad
 | .neO _ _=>.bad
def tst(σ:Sg):E->R Bool
 | .nt a=>do let x<-tst σ a;.ok (!x)
 | .an a b=>do
  let x<-tst σ a
  if x then tst σ b else .ok false
 | .orr a b=>do
  let x<-tst σ a
  if x then .ok true else tst σ b
 | .c d=>eA (.cl d)
 | .v i=>do let x<-bV σ i;eA x
 | .cmp o a b=>do
  let x<-ev σ a
  let y<-ev σ b
  match bL o x.d y.d with
  | some k=>.ok k
  | none=>.bad
 | .cmp2 o o' a b c=>do
  let x<-ev σ a
  let y<-ev σ b
  match bL o x.d y.d with
  | some true=>do
   let z<-ev σ c
   match bL o' y.d z.d with
   | some k=>.ok k
   | none=>.bad
  | some false=>.ok false
  | none=>.bad
 | .call f es=>do
  let vs<-evs σ es
  let r<-cl f (vs.map (·.d))
  eA (eT vs r)
 | .bi b es=>do let vs<-evs σ es;let x<-biD b vs;eA x
 | .mth m o es=>do let x<-ev σ o;let ys<-evs σ es;let z<-mtD m x ys;eA z
 | .idx a b=>do let x<-ev σ a;let y<-ev σ b;let z<-cG x y;eA z
 | .isi a cs=>do
  let x<-ev σ a
  match isI cs P x.d with
  | some k=>.ok k
  | none=>.bad
 | .callO f z a i=>do
  let x<-ev σ a
  match dG σ i with
  | some ds=>do
   let r<-cl f (if z then [x.d,.lst ds] else [.lst ds,x.d])
   .iff (!r.2.2) (eA ⟨r.1,r.2.1,false,[]⟩)
  | none=>.bad
 | .neO i a=>do
  let x<-ev σ a
  match dG σ i with
  | some ds=>(match bL .NotEq (.lst ds) x.d with
   | some k=>.ok k
   | none=>.bad)
  | none=>.bad
 | _=>.bad
def evs(σ:Sg):Es->R (List Vl)
 | .nil=>.ok []
 | .cons e es=>do let x<-ev σ e;let xs<-evs σ es;.ok (x::xs)
def walk(σ:Sg):It->R (List Vl×List Nat)
 | .seq e=>do
  let x<-ev σ e
  match x.d with
  | .lst ds=>.ok (items x ds,x.al)
  | .tup ds=>.ok (items x ds,x.al)
  | .str a=>.iff (decide (a.length<=lim)) (.ok (a.cps.toList.map λn=>.cl (.str ⟨#[n]⟩),[]))
  | _=>.bad
 | .rng a b=>do
  let x<-ev σ a
  let y<-ev σ b
  match x.d,y.d with
  | .int i,.int j=>.iff (aH i&&aH j) (.ok ((bY i j).map .cl,[]))
  | _,_=>.bad
 | .zip a b=>do
  let x<-ev σ a
  let y<-ev σ b
  match gY x.d,gY y.d with
  | some as,some bs=>.ok (items ⟨.non,false,x.pa||y.pa,x.al++y.al⟩ (gX as bs),x.al++y.al)
  | _,_=>.bad
 | .enum a=>do
  let x<-ev σ a
  match gY x.d with
  | some as=>.ok (items x (dD 0 as),x.al)
  | none=>.bad
 | .rev a=>do
  let x<-ev σ a
  match gY x.d with
  | some as=>.ok (items x as.reverse,x.al)
  | none=>.bad
 | .rng3 a b c=>.iff (aH a&&aH b&&decide (0<c)&&decide (c<1000)) (.ok ((aEa a b c).map .cl,[]))
def tsts(σ:Sg):Es->R Bool
 | .nil=>.ok true
 | .cons e es=>do
  let x<-tst σ e
  if x then tsts σ es else .ok false
end
set_option genInjectivity true in
inductive O where
 | next (σ:Sg)|brk (σ:Sg)|cnt (σ:Sg)|ret (v:Vl)|exc (x:D) (σ:Sg)|bad
 deriving Inhabited
def O.from{α:Type}(σ:Sg)(x:R α)(f:α->O):O:=match x with
 | .ok a=>f a
 | .exc e=>.exc e σ
 | .bad=>.bad
def O.on(o:O)(f:Sg->O):O:=match o with
 | .next σ=>f σ
 | o=>o
def cN(f:Sg->Vl->O):List Vl->Sg->O
 | [],σ=>.next σ
 | x::xs,σ=>match f σ x with
  | .next σ'=>cN f xs σ'
  | .cnt σ'=>cN f xs σ'
  | .brk σ'=>.next σ'
  | o=>o
def hJ(t:Sg->R Bool)(f:Sg->O):Nat->Sg->O
 | 0,_=>.bad
 | n+1,σ=>O.from σ (t σ) λk=>if k then (match f σ with
     | .next σ'=>hJ t f n σ'
     | .cnt σ'=>hJ t f n σ'
     | .brk σ'=>.next σ'
     | o=>o) else .next σ
def zL:Nat:=100000
def hZ(σ:Sg)(i:Nat):Option (Bool×List D):=match σ[i]? with
 | some (.own pa ds)=>some (pa,ds)
 | _=>none
def put(σ:Sg)(i:Nat)(v:Vl)(f:List D->Option (List D)):O:=match hZ (freeze σ v.al) i with
 | some (pa,ds)=>match f ds with
  | some ds'=>if ds'.length<=lim then .next ((freeze σ v.al).set i (.own (pa||v.pa) ds')) else .bad
  | none=>.bad
 | none=>.bad
def aFq(σ:Sg)(i:Nat)(v:Vl):O:=put σ i v λds=>some (ds++[v.d])
def qS(v:Vl):Option (Vl×List D):=match v.fr,v.d with
 | true,.lst ds=>some (⟨.non,false,v.pa&&!noLs ds,if noLs ds then [] else v.al⟩,ds)
 | _,_=>none
def iA(σ:Sg)(i:Nat)(k:Option Int):R (Vl×Sg):=match hZ σ i with
 | some (pa,ds)=>match (match k with|none=>ixN ds.length (-1)|some k=>ixN ds.length k) with
  | some j=>match ds[j]? with
   | some d=>.ok (Vl.sub ⟨.non,false,pa,[]⟩ d,σ.set i (.own pa (ds.eraseIdx j)))
   | none=>.bad
  | none=>.bad
 | none=>.bad
def xN(e:Sg->E->R Vl):Sg->List Vl->List Arg->R (List Vl×Sg)
 | σ,acc,[]=>.ok (acc,σ)
 | σ,acc,.e a::as=>do let x<-e σ a;xN e σ (acc++[x]) as
 | σ,acc,.pop j::as=>do
  let (x,σ')<-iA σ j none
  if (bS acc).contains j then .bad else xN e σ' (acc++[x]) as
def zM(e:Option (R Vl)):R (Option Int):=match e with
 | none=>.ok none
 | some x=>do
  let v<-x
  match v.d with
  | .int k=>.iff (aH k) (.ok (some k))
  | _=>.bad
def Vl.nr(v:Vl):Vl:=⟨v.d,false,v.pa,[]⟩
def bK(σ:Sg)(l:Nat):Option (Bool×List D):=match σ[l]? with
 | some (.own pa ds)=>some (pa,ds)
 | some (.lent ds)=>some (true,ds)
 | _=>none
def cB(σ:Sg)(l:Nat)(pa:Bool)(ds:List D):Sg:=match σ[l]? with
 | some (.own _ _)=>σ.set l (.own pa ds)
 | some (.lent _)=>σ.set l (.lent ds)
 | _=>σ
def qT:Ss->Bool
 | .cons .lend _=>true
 | _=>false
def mR(P:Pg)(f:Nat):Bool:=match P.fns[f]? with
 | some F=>qT F.body
 | none=>false
def aCc:D->Option (D×List D)
 | .tup [d,.err 0 cs]=>some (d,cs)
 | _=>none
def noAl(v:Vl)(σ:Sg):R (Vl×Sg):=if v.al.isEmpty then .ok (v,σ) else .bad
def gE(σ:Sg)(l:Nat)(pa:Bool)(vs:List Vl)(q:Rt):R (Vl×Sg):=match aCc q.1 with
 | some (d,cs)=>.ok (⟨d,q.2.1,q.2.2&&(pa||aT vs),[]⟩,cB σ l (pa||aT vs) cs)
 | none=>.bad
def dH(f:Sg->Vl->R (Vl×Sg)):List Vl->Sg->R (List Vl×Sg)
 | [],σ=>.ok ([],σ)
 | x::xs,σ=>do
  let y<-f σ x
  let r<-dH f xs y.2
  .ok (y.1::r.1,r.2)
def chB(k:Nat)(caps:List Nat)(σ:Sg):Sg:=Ad k .dead++caps.map λi=>(σ[i]?).getD .dead
mutual
def evl(l:Nat)(σ:Sg):EL->R (Vl×Sg)
 | .e a=>do let x<-ev P cl σ a;noAl x σ
 | .op o a b=>do
  let x<-evl l σ a
  let y<-evl l x.2 b
  let z<-opD o x.1.nr y.1.nr
  noAl z y.2
 | .idx a b=>do
  let x<-evl l σ a
  let y<-evl l x.2 b
  let z<-cG x.1.nr y.1.nr
  noAl z y.2
 | .tup es=>do let r<-evls' l σ es;.ok (⟨.tup (r.1.map (·.d)),false,aT r.1,[]⟩,r.2)
 | .call f es=>R.iff ((bK σ l).isSome&&mR P f) do
  let r<-evls' l σ es
  match bK r.2 l with
  | some (pa,cs)=>do
   let q<-cl f (.err 0 cs::r.1.map (·.d))
   gE r.2 l pa r.1 q
  | none=>.bad
 | .pcall f es=>do
  let r<-evls' l σ es
  let q<-cl f (r.1.map (·.d))
  noAl (eT r.1 q) r.2  | .comp k caps t n l' elt=>do
  let r<-evl l σ n
  match r.1.d with
  | .int j=>.iff (aH j) do
   let q<-dH (λσ x=>do
    let σ1<-bJ (chB k caps σ) x t
    let y<-evl l' σ1 elt
    match bK σ l,bK y.2 l' with
    | some _,some (pa,cs)=>.ok (y.1,cB σ l pa cs)
    | _,_=>.bad) ((bY 0 j).map .cl) r.2
   .iff (decide (q.1.length<=lim)) (.ok (⟨.lst (q.1.map (·.d)),true,aT q.1,[]⟩,q.2))
  | _=>.bad
def evls'(l:Nat)(σ:Sg):ELs->R (List Vl×Sg)
 | .nil=>.ok ([],σ)
 | .cons e es=>do
  let x<-evl l σ e
  let r<-evls' l x.2 es
  .ok (x.1::r.1,r.2)
end
def mS(v:Vl)(σ:Sg):O:=match σ[(0:Nat)]? with
 | some (.lent cs)=>.ret ⟨.tup [v.d,.err 0 cs],v.fr,v.pa,[]⟩
 | _=>.bad
mutual
def ex(σ:Sg):S->O
 | .set t e=>O.from σ (ev P cl σ e) λv=>O.from σ (bJ (freeze σ v.al) v t) .next
 | .mov i j=>match σ[j]? with
  | some (.own pa ds)=>if i=j then .bad else .next ((σ.set j .dead).set i (.own pa ds))
  | some (.sh pa d)=>.next (σ.set i (.sh (pa&&!noL d) d))
  | _=>.bad
 | .setIx i k e=>O.from σ (ev P cl σ e) λv=>O.from σ (ev P cl σ k) λkv=>match kv.d with
  | .int k=>put σ i v λds=>match ixN ds.length k with
   | some j=>some (ds.set j v.d)
   | none=>none
  | _=>.bad
 | .app i e=>O.from σ (ev P cl σ e) λv=>aFq σ i v
 | .ext i e=>O.from σ (ev P cl σ e) λv=>match qS v with
  | some (v',ds')=>put σ i v' λds=>some (ds++ds')
  | none=>.bad
 | .pop t i k=>O.from σ (zM (k.map λe=>ev P cl σ e)) λk=>O.from σ (iA σ i k) λ(v,σ')=>match t with
  | none=>.next σ'
  | some t=>O.from σ' (bJ σ' v t) .next
 | .clr i=>put σ i (.cl .non) λ_=>some []
 | .ins i k e=>O.from σ (ev P cl σ k) λkv=>O.from σ (ev P cl σ e) λv=>match kv.d with
  | .int k=>if 0<=k/\k<1000000 then put σ i v λds=>some (ds.take k.toNat++v.d::ds.drop k.toNat) else .bad
  | _=>.bad
 | .rev i=>put σ i (.cl .non) λds=>some ds.reverse
 | .appCall i f as=>O.from σ (xN (λσ a=>ev P cl σ a) σ [] as) λ(vs,σ')=>O.from σ' (cl f (vs.map (·.d))) λr=>aFq σ' i (eT vs r)
 | .ret e=>O.from σ (ev P cl σ e) .ret
 | .retv i=>match σ[i]? with
  | some (.own pa ds)=>.ret ⟨.lst ds,true,pa,[]⟩
  | _=>O.from σ (bV σ i) .ret
 | .retN=>.ret (.cl .non)
 | .iff c a b=>O.from σ (tst P cl σ c) λk=>if k then exs σ a else exs σ b
 | .for t it b=>O.from σ (walk P cl σ it) λxs=>cN (λσ x=>O.from σ (bJ σ x t) λσ'=>exs σ' b) xs.1 (freeze σ xs.2)
 | .whl c b=>hJ (λσ=>tst P cl σ c) (λσ=>exs σ b) zL σ
 | .brk=>.brk σ
 | .cnt=>.cnt σ
 | .pass=>.next σ
 | .ex e=>O.from σ (ev P cl σ e) λ_=>.next σ
 | .rse c keep es=>O.from σ (evs P cl σ es) λvs=>.exc (.err c (if keep then vs.map (·.d) else [])) σ
 | .try b hs=>match exs σ b with
  | .exc x σ'=>hdl σ' x hs
  | o=>o
 | .lend=>match σ[(0:Nat)]? with
  | some (.sh true (.err 0 cs))=>.next (σ.set 0 (.lent cs))
  | _=>.bad
 | .tryN b=>exs σ b
 | .extV i j=>match σ[j]? with
  | some (.own pa ds)=>if i≠j then put σ i ⟨.non,false,pa&&!noLs ds,if noLs ds then [] else [j]⟩ λes=>some (es++ds) else .bad
  | _=>.bad
 | .tldD i f es=>O.from σ (evs P cl σ es) λvs=>O.from σ (cl f (vs.map (·.d))) λr=>match r with
  | (.lst ds,true,false)=>.next (σ.set i (.dp (some ds)))
  | _=>.bad
 | .tldO i f a j=>O.from σ (ev P cl σ a) λx=>match dG σ j with
  | some es=>O.from σ (cl f [x.d,.lst es]) λr=>(match r with
   | (.lst ds,true,false)=>.next (σ.set i (.dp (some ds)))
   | _=>.bad)
  | none=>.bad
 | .wrkA i r=>match dG σ i with
  | some ds=>if i≠r/\r<σ.length/\ds.length<1000/\ds.all qR=true then .next ((σ.set r .dead).set i (.dp none)) else .bad
  | none=>.bad
 | .wrkC i r w=>match dG σ i with
  | some ds=>if i≠r/\r<σ.length/\ds.all (jD w)=true then .next ((σ.set r .dead).set i (.dp none)) else .bad
  | none=>.bad
 | .clrD i=>match σ[i]? with
  | some (.dp _)=>.next (σ.set i (.dp none))
  | _=>.bad
 | .lset i k e=>O.from σ (ev P cl σ e) λv=>O.from σ (ev P cl σ k) λkv=>match σ[i]?,kv.d with
  | some (.lent ds),.int k=>match ixN ds.length k with
   | some j=>if noL v.d then .next (σ.set i (.lent (ds.set j v.d))) else .bad
   | none=>.bad
  | _,_=>.bad
 | .setL i l fz e=>O.from σ (evl P cl l (freeze σ fz) e) λr=>.next (r.2.set i r.1.slot)
 | .appL i l e=>if (hZ σ i).isSome then O.from σ (evl P cl l σ e) λr=>put r.2 i r.1.nr λds=>some (ds++[r.1.d]) else .bad
 | .retL e=>O.from σ (evl P cl 0 σ e) λr=>mS r.1 r.2
 | .retvL i=>match σ[i]? with
  | some (.own pa ds)=>mS ⟨.lst ds,true,pa,[]⟩ σ
  | _=>.bad
 | .iffL o a b x y=>O.from σ (evl P cl 0 σ a) λr=>O.from r.2 (ev P cl r.2 b) λz=>match bL o r.1.d z.d with
  | some k=>if k then exs r.2 x else exs r.2 y
  | none=>.bad
 | .forL t e b=>O.from σ (evl P cl 0 σ e) λr=>match r.1.d with
  | .int j=>if aH j then cN (λσ x=>O.from σ (bJ σ x t) λσ'=>exs σ' b) ((bY 0 j).map .cl) r.2 else .bad
  | _=>.bad
def exs(σ:Sg):Ss->O
 | .nil=>.next σ
 | .cons s ss=>(ex σ s).on λσ'=>exs σ' ss
def hdl(σ:Sg)(x:D):Hs->O
 | .nil=>.exc x σ
 | .cons cs n b hs=>match isI cs P x with
  | some true=>match n with
   | none=>exs σ b
   | some i=>match exs (σ.set i (.sh true x)) b with
    | .next σ'=>.next (σ'.set i .dead)
    | .brk σ'=>.brk (σ'.set i .dead)
    | .cnt σ'=>.cnt (σ'.set i .dead)
    | .exc x σ'=>.exc x (σ'.set i .dead)
    | o=>o
  | some false=>hdl σ x hs
  | none=>.bad
end
def iZ(f:Nat)(ds:List D):R Rt:=match P.fns[f]? with
 | none=>.bad
 | some F=>if ds.length=F.np then
  match exs P cl ((ds.map λd=>Sl.sh true d)++Ad (F.ns-F.np) Sl.dead) F.body with
  | .ret v=>.ok (v.d,v.fr,v.pa)
  | .next _=>.ok (.non,false,false)
  | .exc x _=>.exc x
  | _=>.bad
  else .bad
end
def call(P:Pg):Nat->Caller
 | 0=>λ_ _=>.bad
 | n+1=>iZ P (call P n)
end Hp
end
noncomputable section
namespace Hp
open PySem L2
abbrev Fg:=Ak
def kD:Key->D
 | .inl i=>.int i
 | .inr x=>.str x
def Hd(K:Fg)(ex:Addr->Prop):Prop:=∃c,K.lookup c≠none/\ex c
mutual
def Rep(K:Fg)(H:Hp)(ex:Addr->Prop):D->V->Prop
 | .non,v=>v=.non
 | .bl b,v=>v=.bl b
 | .int i,v=>v=.int i
 | .str x,v=>v=.str x
 | .tup ds,v=>∃a xs,v=.ref a/\SqT K H a xs/\Reps K H ex ds xs
 | .lst ds,v=>∃a xs,v=.ref a/\SqL K H a xs/\(¬ ex a/\(Hd K ex->H a=some (.lst xs)))/\Reps K H ex ds xs
 | .dic kvs,v=>∃a ks,v=.ref a/\H a=some (.dK ks)/\RepKV K H ex kvs ks
 | .err _ _,_=>False
def Reps(K:Fg)(H:Hp)(ex:Addr->Prop):List D->List V->Prop
 | [],xs=>xs=[]
 | d::ds,xs=>∃x r,xs=x::r/\Rep K H ex d x/\Reps K H ex ds r
def RepKV(K:Fg)(H:Hp)(ex:Addr->Prop):List (D×D)->List (Key×V)->Prop
 | [],ks=>ks=[]
 | (k,d)::r,ks=>∃k' x r',ks=(k',x)::r'/\kD k'=k/\Rep K H ex d x/\RepKV K H ex r r'
end
section
variable {K:Fg} {H H':Hp} {ex ex':Addr->Prop}
theorem aL.seqT{a:Addr}{xs:List V}(e:aL H H')(h:SqT K H a xs):SqT K H' a xs:=by
 rcases h with(h|⟨o,h⟩)|h
 . exact .inl (.inl (e _ _ h))
 . exact .inl (.inr ⟨o,e _ _ h⟩)
 . exact .inr h
mutual
theorem Rep.imp(hT:∀a xs,SqT K H a xs->SqT K H' a xs)(hL:∀a xs,¬ ex a->SqL K H a xs->¬ ex' a/\SqL K H' a xs)(hX:Hd K ex'->Hd K ex)(hY:∀a xs,¬ ex a->H a=some (.lst xs)->H' a=some (.lst xs))(hD:∀a ks,H a=some (.dK ks)->H' a=some (.dK ks)) :
 ∀(d:D) (v:V),Rep K H ex d v->Rep K H' ex' d v
 | .non,_,h=>h
 | .bl _,_,h=>h
 | .int _,_,h=>h
 | .str _,_,h=>h
 | .tup ds,_,h=>by
  obtain⟨a,xs,e,q,r⟩:=h
  exact⟨a,xs,e,hT a xs q,Reps.imp hT hL hX hY hD ds xs r⟩
 | .lst ds,_,h=>by
  obtain⟨a,xs,e,q,n,r⟩:=h
  obtain⟨n',q'⟩:=hL a xs n.1 q
  exact⟨a,xs,e,q',⟨n',λz=>hY a xs n.1 (n.2 (hX z))⟩,Reps.imp hT hL hX hY hD ds xs r⟩
 | .dic kvs,_,h=>by
  obtain⟨a,ks,e,q,r⟩:=h
  exact⟨a,ks,e,hD a ks q,RepKV.imp hT hL hX hY hD kvs ks r⟩
 | .err _ _,_,h=>h.elim
theorem Reps.imp(hT:∀a xs,SqT K H a xs->SqT K H' a xs)(hL:∀a xs,¬ ex a->SqL K H a xs->¬ ex' a/\SqL K H' a xs)(hX:Hd K ex'->Hd K ex)(hY:∀a xs,¬ ex a->H a=some (.lst xs)->H' a=some (.lst xs))(hD:∀a ks,H a=some (.dK ks)->H' a=some (.dK ks)) :
 ∀(ds:List D) (xs:List V),Reps K H ex ds xs->Reps K H' ex' ds xs
 | [],_,h=>h
 | d::ds,_,h=>by
  obtain⟨x,r,e,h1,h2⟩:=h
  exact⟨x,r,e,Rep.imp hT hL hX hY hD d x h1,Reps.imp hT hL hX hY hD ds r h2⟩
theorem RepKV.imp(hT:∀a xs,SqT K H a xs->SqT K H' a xs)(hL:∀a xs,¬ ex a->SqL K H a xs->¬ ex' a/\SqL K H' a xs)(hX:Hd K ex'->Hd K ex)(hY:∀a xs,¬ ex a->H a=some (.lst xs)->H' a=some (.lst xs))(hD:∀a ks,H a=some (.dK ks)->H' a=some (.dK ks)) :
 ∀(ds:List (D×D)) (xs:List (Key×V)),RepKV K H ex ds xs->RepKV K H' ex' ds xs
 | [],_,h=>h
 | (k,d)::ds,_,h=>by
  obtain⟨k',x,r,e,ek,h1,h2⟩:=h
  exact⟨k',x,r,e,ek,Rep.imp hT hL hX hY hD d x h1,RepKV.imp hT hL hX hY hD ds r h2⟩
end
theorem Rep.weak{d:D}{v:V}(h:Rep K H ex d v)(e:∀a,ex' a->ex a):Rep K H ex' d v:=Rep.imp (λ_ _ q=>q) (λa _ n q=>⟨λz=>n (e a z),q⟩) (λ⟨c,h1,h2⟩=>⟨c,h1,e c h2⟩) (λ_ _ _ q=>q) (λ_ _ q=>q) d v h
theorem Reps.weak{d:List D}{v:List V}(h:Reps K H ex d v)(e:∀a,ex' a->ex a):Reps K H ex' d v:=Reps.imp (λ_ _ q=>q) (λa _ n q=>⟨λz=>n (e a z),q⟩) (λ⟨c,h1,h2⟩=>⟨c,h1,e c h2⟩) (λ_ _ _ q=>q) (λ_ _ q=>q) d v h
theorem Rep.grow{d:D}{v:V}(h:Rep K H ex d v)(s:aL H H'):Rep K H' ex d v:=Rep.imp (λ_ _ q=>aL.seqT s q) (λ_ _ n q=>⟨n,s.seq q⟩) id (λ_ _ _ q=>s _ _ q) (λ_ _ q=>s _ _ q) d v h
theorem Reps.grow{d:List D}{v:List V}(h:Reps K H ex d v)(s:aL H H'):Reps K H' ex d v:=Reps.imp (λ_ _ q=>aL.seqT s q) (λ_ _ n q=>⟨n,s.seq q⟩) id (λ_ _ _ q=>s _ _ q) (λ_ _ q=>s _ _ q) d v h
theorem Rep.keep{d:D}{v:V}(h:Rep K H ex d v)(s:∀a o,H a=some o->(∀xs,o=.lst xs->¬ ex a)->H' a=some o):Rep K H' ex d v:=by
 refine Rep.imp (λa xs q=>?_) (λa xs n q=>⟨n,?_⟩) id (λa xs n q=>s _ _ q (λ_ _=>n)) (λa ks q=>s a _ q (λxs e=>by cases e)) d v h
 . rcases q with(q|⟨o,q⟩)|q
   . exact .inl (.inl (s _ _ q λxs e=>by cases e))
   . exact .inl (.inr ⟨o,s _ _ q λxs e=>by cases e⟩)
   . exact .inr q
 . rcases q with(q|⟨o,q⟩)|q
   . exact .inl (.inl (s _ _ q λ_ _=>n))
   . exact .inl (.inr ⟨o,s _ _ q λxs e=>by cases e⟩)
   . exact .inr q
theorem Reps.keep{d:List D}{v:List V}(h:Reps K H ex d v)(s:∀a o,H a=some o->(∀xs,o=.lst xs->¬ ex a)->H' a=some o):Reps K H' ex d v:=by
 refine Reps.imp (λa xs q=>?_) (λa xs n q=>⟨n,?_⟩) id (λa xs n q=>s _ _ q (λ_ _=>n)) (λa ks q=>s a _ q (λxs e=>by cases e)) d v h
 . rcases q with(q|⟨o,q⟩)|q
   . exact .inl (.inl (s _ _ q λxs e=>by cases e))
   . exact .inl (.inr ⟨o,s _ _ q λxs e=>by cases e⟩)
   . exact .inr q
 . rcases q with(q|⟨o,q⟩)|q
   . exact .inl (.inl (s _ _ q λ_ _=>n))
   . exact .inl (.inr ⟨o,s _ _ q λxs e=>by cases e⟩)
   . exact .inr q
mutual
theorem Rep.free:∀(d:D) (v:V),noL d=true->Rep K H ex d v->Rep K H ex' d v
 | .non,_,_,h=>h
 | .bl _,_,_,h=>h
 | .int _,_,_,h=>h
 | .str _,_,_,h=>h
 | .tup ds,_,n,h=>by
  obtain⟨a,xs,e,q,r⟩:=h
  exact⟨a,xs,e,q,Reps.free ds xs (by simpa[noL] using n) r⟩
 | .lst ds,_,n,_=>by simp[noL] at n
 | .dic kvs,_,n,_=>by simp[noL] at n
 | .err _ _,_,n,_=>by simp[noL] at n
theorem Reps.free:∀(ds:List D) (xs:List V),noLs ds=true->Reps K H ex ds xs->Reps K H ex' ds xs
 | [],_,_,h=>h
 | d::ds,_,n,h=>by
  obtain⟨x,r,e,h1,h2⟩:=h
  simp only[noLs,bA] at n
  exact⟨x,r,e,Rep.free d x n.1 h1,Reps.free ds r n.2 h2⟩
end
theorem Reps.length:∀{ds:List D} {xs:List V},Reps K H ex ds xs->ds.length=xs.length
 | [],_,h=>by rw[show _=[] from h];rfl
 | d::ds,_,h=>by
  obtain⟨x,r,e,_,h2⟩:=h
  subst e
  rw[lC,lC,Reps.length h2]
theorem Reps.get:∀{ds:List D} {xs:List V} {j:Nat} {d:D},Reps K H ex ds xs->ds[j]? = some d->∃x,xs[j]? = some x/\Rep K H ex d x
 | [],_,_,_,_,e=>by simp at e
 | d::ds,_,0,_,h,e=>by
  obtain⟨x,r,e',h1,_⟩:=h
  subst e'
  simp at e
  subst e
  exact⟨x,rfl,h1⟩
 | d::ds,_,j+1,d',h,e=>by
  obtain⟨x,r,e',_,h2⟩:=h
  subst e'
  obtain⟨y,hy,q⟩:=Reps.get (j:=j) (d:=d') h2 (by simpa using e)
  exact⟨y,by simpa using hy,q⟩
theorem Reps.get'{ds:List D}{xs:List V}{j:Nat}{x:V}(h:Reps K H ex ds xs)(e:xs[j]? = some x):∃d,ds[j]? = some d/\Rep K H ex d x:=by
 have hl:=h.length
 have hj:j<xs.length:=(Aw.mp e).1
 obtain⟨d,hd⟩:∃d,ds[j]? = some d:=⟨ds[j],Am (by omega)⟩
 obtain⟨y,hy,q⟩:=h.get hd
 rw[e] at hy
 cases hy
 exact⟨d,hd,q⟩
theorem Reps.nil:Reps K H ex [] []:=rfl
theorem Reps.cons{d:D}{ds:List D}{x:V}{xs:List V}(h:Rep K H ex d x)(t:Reps K H ex ds xs):Reps K H ex (d::ds) (x::xs):=⟨x,xs,rfl,h,t⟩
theorem Reps.append:∀{ds es:List D} {xs ys:List V},Reps K H ex ds xs->Reps K H ex es ys->Reps K H ex (ds++es) (xs++ys)
 | [],_,_,_,h,t=>by rw[show _=[] from h];exact t
 | d::ds,_,_,_,h,t=>by
  obtain⟨x,r,e,h1,h2⟩:=h
  subst e
  exact⟨x,_,rfl,h1,Reps.append h2 t⟩
theorem Reps.take:∀{ds:List D} {xs:List V} (n:Nat),Reps K H ex ds xs->Reps K H ex (ds.take n) (xs.take n)
 | _,_,0,_=>by simp[Reps]
 | [],_,n+1,h=>by rw[show _=[] from h];simp[Reps]
 | d::ds,_,n+1,h=>by
  obtain⟨x,r,e,h1,h2⟩:=h
  subst e
  exact⟨x,_,rfl,h1,Reps.take n h2⟩
theorem Reps.drop:∀{ds:List D} {xs:List V} (n:Nat),Reps K H ex ds xs->Reps K H ex (ds.drop n) (xs.drop n)
 | _,_,0,h=>h
 | [],_,n+1,h=>by rw[show _=[] from h];simp[Reps]
 | d::ds,_,n+1,h=>by
  obtain⟨x,r,e,h1,h2⟩:=h
  subst e
  exact Reps.drop n h2
theorem Reps.set:∀{ds:List D} {xs:List V} {d:D} {x:V} (j:Nat),Reps K H ex ds xs->Rep K H ex d x->Reps K H ex (ds.set j d) (xs.set j x)
 | [],_,_,_,_,h,_=>by rw[show _=[] from h];simp[Reps]
 | d::ds,_,_,_,0,h,q=>by
  obtain⟨x,r,e,h1,h2⟩:=h
  subst e
  exact⟨_,_,rfl,q,h2⟩
 | d::ds,_,_,_,j+1,h,q=>by
  obtain⟨x,r,e,h1,h2⟩:=h
  subst e
  exact⟨x,_,rfl,h1,Reps.set j h2 q⟩
theorem Reps.eraseIdx:∀{ds:List D} {xs:List V} (j:Nat),Reps K H ex ds xs->Reps K H ex (ds.eraseIdx j) (xs.eraseIdx j)
 | [],_,_,h=>by rw[show _=[] from h];simp[Reps]
 | d::ds,_,0,h=>by
  obtain⟨x,r,e,h1,h2⟩:=h
  subst e
  exact h2
 | d::ds,_,j+1,h=>by
  obtain⟨x,r,e,h1,h2⟩:=h
  subst e
  exact⟨x,_,rfl,h1,Reps.eraseIdx j h2⟩
theorem Reps.flat:∀{ds:List D} {xs:List V},Reps K H ex ds xs->∀k:Nat,Reps K H ex (Ad k ds).flatten (Ad k xs).flatten
 | _,_,_,0=>by simp[Reps]
 | ds,xs,h,k+1=>by
  rw[A0,A0,AB,AB]
  exact h.append (Reps.flat h k)
end
end Hp
end
noncomputable section
namespace Hp
open PySem
structure Ct where
 N:List Str
 sc:List (Str×B2)
 fns:List Str
 cns:List (Str×D)
 cls:List Str
 fn:Bool
 tbs:List Str
def aCd(Γ:Ct)(x:Str):Bool:=match Γ.sc.lookup x with
 | some .local=>true
 | some .cell=>true
 | some .free=>true
 | _=>false
def uL(Γ:Ct)(x:Str):Bool:=match Γ.sc.lookup x with
 | some .local=>true
 | some .cell=>Γ.fn
 | _=>false
def jV(sc names:List (Str×B2)):List (Str×B2):=names.map λ(n,k)=>if (k==.free&&sc.lookup n==some .cell) then (n,.cell) else (n,k)
def oC:Ah->Bool
 | .Tuple _ _ _=>true
 | _=>false
def tIx:T->List Nat
 | .n i=>[i]
 | .t is=>is
def bZ(Γ:Ct)(x:Str):Bool:=match Γ.sc.lookup x with
 | some .globalImplicit=>true
 | _=>false
def bD(x:Str):Bool:=!(x==("__debug__" : Str))&&!(x==("__classdict__" : Str))
def aO(Γ:Ct)(i:Nat)(x:Str):Bool:=(Γ.N[i]?==some x)&&aCd Γ x&&bD x
def aU(Γ:Ct)(i:Nat)(x:Str):Bool:=(Γ.N[i]?==some x)&&uL Γ x&&bD x
def eqC:D->Const->Bool
 | .non,.none=>true
 | .bl a,.bool b=>a==b
 | .int a,.int b=>a==b
 | .str a,.str b=>a==b
 | _,_=>false
def eqK:D->D->Bool
 | .non,.non=>true
 | .bl a,.bl b=>a==b
 | .int a,.int b=>a==b
 | .str a,.str b=>a==b
 | _,_=>false
def jI:Bi->Str
 | .len => "len" | .list => "list" | .tuple => "tuple" | .min => "min" | .max => "max" | .abs => "abs" | .int => "int" | .str => "str" | .sum => "sum" | .all => "all" | .any => "any" | .sorted => "sorted" | .bool => "bool" | .repr => "repr"
def aCe:Bi->Bool
 | .len=>true|.list=>true|.tuple=>true|.min=>true|.all=>true|.sum=>true
 | _=>false
def aLn:Cl->Bool
 | .own _=>false
 | .tValueError=>false
 | _=>true
def xO(Γ:Ct):Cl->Option Str
 | .tInt=>some "int" | .tBool=>some "bool" | .tStr=>some "str" | .tList=>some "list" | .tTuple=>some "tuple" | .tDict=>some "dict" | .tValueError=>some "ValueError"
 | .own c=>Γ.cls[c]?
def aFr(Γ:Ct)(c:Cl):Ah->Bool
 | .Name x _=>(xO Γ c==some x)&&bZ Γ x&&bD x
 | _=>false
def iB(Γ:Ct):T->Ah->Bool
 | .n i,.Name x _=>aU Γ i x
 | .t is,.Tuple es _ _=>is.length==es.length&&(is.zip es).all λp=>match p.2 with
  | .Name x _=>aU Γ p.1 x
  | _=>false
 | _,_=>false
def cZ:Ah->List Str
 | .Name x _=>[x]
 | .Tuple es _ _=>es.filterMap fun|.Name x _=>some x|_=>none
 | _=>[]
def xP:E->Bool
 | .c (.int i)=>i==0
 | _=>false
def asC(e:Ah):Option { c:Const // ∃k p,e=.Constant c k p }:=match e with
 | .Constant c k p=>some ⟨c,k,p,rfl⟩
 | _=>none
def asN(e:Ah):Option { x:Str // ∃p,e=.Name x p }:=match e with
 | .Name x p=>some ⟨x,p,rfl⟩
 | _=>none
def aFs(e:Ah):Option { r:Ah×Operator×Ah // ∃p,e=.BinOp r.1 r.2.1 r.2.2 p }:=match e with
 | .BinOp l o r p=>some ⟨(l,o,r),p,rfl⟩
 | _=>none
def aIT(e:Ah):Option { r:UnaryOp×Ah // ∃p,e=.UnaryOp r.1 r.2 p }:=match e with
 | .UnaryOp o x p=>some ⟨(o,x),p,rfl⟩
 | _=>none
def aIU(e:Ah):Option { r:Hg×List Ah×BX // e=.BoolOp r.1 r.2.1 r.2.2 }:=match e with
 | .BoolOp o xs p=>some ⟨(o,xs,p),rfl⟩
 | _=>none
def aLo(e:Ah):Option { r:Ah×Ah×Ah // ∃p,e=.IfExp r.1 r.2.1 r.2.2 p }:=match e with
 | .IfExp t a b p=>some ⟨(t,a,b),p,rfl⟩
 | _=>none
def uM(e:Ah):Option { r:Ah×List CmpOp×List Ah // ∃p,e=.Compare r.1 r.2.1 r.2.2 p }:=match e with
 | .Compare l os rs p=>some ⟨(l,os,rs),p,rfl⟩
 | _=>none
def jW(e:Ah):Option { r:Ah×Ah // ∃p,e=.Subscript r.1 r.2 p }:=match e with
 | .Subscript x i p=>some ⟨(x,i),p,rfl⟩
 | _=>none
def aLp(e:Ah):Option { r:Option Ah×Option Ah // ∃p,e=.Slice r.1 r.2 none p }:=match e with
 | .Slice l h none p=>some ⟨(l,h),p,rfl⟩
 | _=>none
def aFt(e:Ah):Option { r:List Ah // ∃k p,e=.Tuple r k p }:=match e with
 | .Tuple xs k p=>some ⟨xs,k,p,rfl⟩
 | _=>none
def aIV(e:Ah):Option { r:List Ah // ∃p,e=.List r p }:=match e with
 | .List xs p=>some ⟨xs,p,rfl⟩
 | _=>none
def iC(e:Ah):Option { r:Str×List Ah // ∃p1 p2,e=.Call (.Name r.1 p1) r.2 [] p2 }:=match e with
 | .Call (.Name x p1) xs [] p2=>some ⟨(x,xs),p1,p2,rfl⟩
 | _=>none
def aIW(e:Ah):Option { r:Ah×Str×List Ah×Bool // ∃ap cp,e=.Call (.Attribute r.1 r.2.1 ap) r.2.2.1 [] cp/\(ap.endLine==cp.line)=r.2.2.2 }:=match e with
 | .Call (.Attribute x a ap) xs [] cp=>some ⟨(x,a,xs,ap.endLine==cp.line),ap,cp,rfl,rfl⟩
 | _=>none
def aIX(e:Ah):Option { r:Ah×List Comprehension×Cu // ∃p,e=.ListComp r.1 r.2.1 r.2.2 p }:=match e with
 | .ListComp e gs s p=>some ⟨(e,gs,s),p,rfl⟩
 | _=>none
def oB{α:Type}(o:Option α)(f:α->Bool):Bool:=match o with
 | some a=>f a
 | none=>false
def oS{α:Type}{q:α->Prop}(o:Option { a:α // q a })(f:α->Bool):Bool:=match o with
 | some a=>f a.1
 | none=>false
mutual
def aQ(Γ:Ct):E->Ah->Bool
 | .c d,e=>oS (asC e) (eqC d)||oS (asN e) λx=>bZ Γ x&&bD x&&oB (Γ.cns.lookup x) (eqK d)
 | .v i,e=>oS (asN e) (aO Γ i)
 | .op o a b,e=>oS (aFs e) λp=>o==p.2.1&&aQ Γ a p.1&&aQ Γ b p.2.2
 | .neg a,e=>oS (aIT e) λp=>p.1==.USub&&aQ Γ a p.2
 | .nt a,e=>oS (aIT e) λp=>p.1==.Not&&aQ Γ a p.2
 | .an a b,e=>oS (aIU e) λp=>p.1==.And&&(match p.2.1 with
  | [x,y]=>aQ Γ a x&&aQ Γ b y
  | x::y::z::r=>aQ Γ a x&&aQ Γ b (.BoolOp .And (y::z::r) p.2.2)
  | _=>false)
 | .orr a b,e=>oS (aIU e) λp=>p.1==.Or&&(match p.2.1 with
  | [x,y]=>aQ Γ a x&&aQ Γ b y
  | x::y::z::r=>aQ Γ a x&&aQ Γ b (.BoolOp .Or (y::z::r) p.2.2)
  | _=>false)
 | .ife t a b,e=>oS (aLo e) λp=>aQ Γ t p.1&&aQ Γ a p.2.1&&aQ Γ b p.2.2
 | .cmp o a b,e=>oS (uM e) λp=>(match p.2.1,p.2.2 with
  | [o'],[r]=>o==o'&&aQ Γ a p.1&&aQ Γ b r
  | _,_=>false)
 | .cmp2 o1 o2 a b c,e=>oS (uM e) λp=>(match p.2.1,p.2.2 with
  | [o1',o2'],[m,r]=>o1==o1'&&o2==o2'&&aQ Γ a p.1&&aQ Γ b m&&aQ Γ c r
  | _,_=>false)
 | .idx a b,e=>oS (jW e) λp=>aQ Γ a p.1&&aQ Γ b p.2
 | .sli a lo hi,e=>oS (jW e) λp=>oS (aLp p.2) λq=>aQ Γ a p.1&&chkO Γ lo q.1&&chkO Γ hi q.2
 | .tup es,e=>oS (aFt e) λxs=>decide (xs.length<=1000)&&chkEs Γ es xs
 | .lst es,e=>oS (aIV e) λxs=>decide (xs.length<=1000)&&chkEs Γ es xs
 | .call f es,e=>oS (iC e) λp=>(Γ.fns[f]?==some p.1)&&bZ Γ p.1&&bD p.1&&chkEs Γ es p.2
 | .callO f z a i,e=>oS (iC e) λp=>(Γ.fns[f]?==some p.1)&&bZ Γ p.1&&bD p.1&&(match p.2 with
  | [x,y]=>if z then aQ Γ a x&&oS (asN y) (λz=>aO Γ i z) else aQ Γ a y&&oS (asN x) (λz=>aO Γ i z)
  | _=>false)
 | .neO i a,e=>oS (uM e) λp=>(match p.2.1,p.2.2 with
  | [o'],[r]=>GS==o'&&oS (asN p.1) (λz=>aO Γ i z)&&aQ Γ a r
  | _,_=>false)
 | .bi b es,e=>oS (iC e) λp=>aCe b&&(jI b==p.1)&&bZ Γ p.1&&bD p.1&&!p.2.isEmpty&&chkEs Γ es p.2
 | .mth _ _ _,_=>false
 | .numset _,_=>false
 | .tget i a,e=>oS (aIW e) λp=>oS (asN p.1) λx=>(p.2.1==("get" : Str))&&(Γ.tbs[i]?==some x)&&bZ Γ x&&bD x&&p.2.2.2&&(match p.2.2.1 with|[y]=>aQ Γ a y|_=>false)
 | .lzip _ _,_=>false
 | .lix i k,e=>oS (jW e) λp=>oS (asN p.1) λx=>aO Γ i x&&aQ Γ k p.2
 | .stp _ _,_=>false
 | .isi a cs,e=>oS (iC e) λp=>(match cs,p.2 with
  | [c],[x,y]=>(p.1==("isinstance" : Str))&&bZ Γ p.1&&aLn c&&aQ Γ a x&&aFr Γ c y
  | _,_=>false)
 | .comp k caps t it cond elt,e=>oS (aIX e) λp=>(match p.2.1 with
  | [⟨tg,iter,ifs,as⟩]=>
   as==0&&(cZ tg).length==k&&(caps.all λi=>decide (i<Γ.N.length))&&decide caps.Nodup&&p.2.2.kind==.function&&decide (cZ tg++caps.filterMap λi=>Γ.N[i]?).Nodup &&
   ((caps.filterMap λi=>Γ.N[i]?).all λx=>p.2.2.names.lookup x==some .free&&Γ.sc.lookup x==some .cell) &&
   (p.2.2.names.all λq=>q.2 != .cell&&(q.2 != .local||p.2.2.names.lookup q.1==some .local)&&(q.2 != .free||Γ.sc.lookup q.1==some .cell)) &&
   ((tIx t).all λi=>decide (i<k))&&decide (ifs.length<=1) &&
   iB { Γ with N:=cZ tg++caps.filterMap λi=>Γ.N[i]?,sc:=jV Γ.sc p.2.2.names,fn:=false } t tg&&chkI Γ (oC tg) it iter &&
   chkEs { Γ with N:=cZ tg++caps.filterMap λi=>Γ.N[i]?,sc:=jV Γ.sc p.2.2.names,fn:=false } cond ifs &&
   aQ { Γ with N:=cZ tg++caps.filterMap λi=>Γ.N[i]?,sc:=jV Γ.sc p.2.2.names,fn:=false } elt p.1
  | _=>false)
 | .dic _ _,_=>false
 | .attr _ _,_=>false
def chkEs(Γ:Ct):Es->List Ah->Bool
 | .nil,[]=>true
 | .cons e es,x::xs=>aQ Γ e x&&chkEs Γ es xs
 | _,_=>false
def chkO(Γ:Ct):Es->Option Ah->Bool
 | .nil,none=>true
 | .cons e .nil,some x=>aQ Γ e x
 | _,_=>false
def chkI(Γ:Ct)(tt:Bool):It->Ah->Bool
 | .rng a b,e=>oS (iC e) λp=>(p.1==("range" : Str))&&bZ Γ p.1&&(match p.2 with
  | [x]=>xP a&&aQ Γ b x
  | [x,y]=>aQ Γ a x&&aQ Γ b y
  | _=>false)
 | .zip a b,e=>oS (iC e) λp=>(match p.2 with
  | [x,y]=>tt&&(p.1==("zip" : Str))&&bZ Γ p.1&&aQ Γ a x&&aQ Γ b y
  | _=>false)
 | .seq c,x=>aQ Γ c x
 | .enum a,e=>oS (iC e) λp=>(match p.2 with
  | [x]=>tt&&(p.1==("enumerate" : Str))&&bZ Γ p.1&&aQ Γ a x
  | _=>false)
 | .rev _,_=>false
 | .rng3 _ _ _,_=>false
end
mutual
def bR(Γ:Ct)(l:Nat):EL->Ah->Bool
 | .e a,x=>aQ Γ a x
 | .op o a b,e=>oS (aFs e) λp=>o==p.2.1&&bR Γ l a p.1&&bR Γ l b p.2.2
 | .idx a b,e=>oS (jW e) λp=>bR Γ l a p.1&&bR Γ l b p.2
 | .tup es,e=>oS (aFt e) λxs=>decide (xs.length<=1000)&&chkELs Γ l es xs
 | .call f es,e=>oS (iC e) λp=>(Γ.fns[f]?==some p.1)&&bZ Γ p.1&&bD p.1&&(match p.2 with
  | x::xs=>oS (asN x) (aO Γ l)&&chkELs Γ l es xs
  | []=>false)
 | .pcall f es,e=>oS (iC e) λp=>(Γ.fns[f]?==some p.1)&&bZ Γ p.1&&bD p.1&&!p.2.isEmpty&&chkELs Γ l es p.2  | .comp k caps t n l' elt,e=>oS (aIX e) λp=>(match p.2.1 with
  | [⟨tg,iter,[],as⟩]=>
   as==0&&(cZ tg).length==k&&(caps.all λi=>decide (i<Γ.N.length))&&decide caps.Nodup&&p.2.2.kind==.function&&decide (cZ tg++caps.filterMap λi=>Γ.N[i]?).Nodup &&
   ((caps.filterMap λi=>Γ.N[i]?).all λx=>p.2.2.names.lookup x==some .free&&Γ.sc.lookup x==some .cell) &&
   (p.2.2.names.all λq=>q.2 != .cell&&(q.2 != .local||p.2.2.names.lookup q.1==some .local)&&(q.2 != .free||Γ.sc.lookup q.1==some .cell)) &&
   ((tIx t).all λi=>decide (i<k)) &&
   iB { Γ with N:=cZ tg++caps.filterMap λi=>Γ.N[i]?,sc:=jV Γ.sc p.2.2.names,fn:=false } t tg &&
   (oS (iC iter) λq=>(q.1==("range" : Str))&&bZ Γ q.1&&(match q.2 with|[x]=>bR Γ l n x|_=>false)) &&
   (decide (k<=l')&&(caps[l'-k]?==some l)) &&
   bR { Γ with N:=cZ tg++caps.filterMap λi=>Γ.N[i]?,sc:=jV Γ.sc p.2.2.names,fn:=false } l' elt p.1
  | _=>false)
def chkELs(Γ:Ct)(l:Nat):ELs->List Ah->Bool
 | .nil,[]=>true
 | .cons e es,x::xs=>bR Γ l e x&&chkELs Γ l es xs
 | _,_=>false
end
def fM:Ah->Bool
 | .ListComp _ _ _ _=>true
 | .SetComp _ _ _ _=>true
 | .DictComp _ _ _ _ _=>true
 | _=>false
def oD:Ah->Bool
 | .Tuple _ _ _=>true
 | .List _ _=>true
 | _=>false
def aGo:Ah->Bool
 | .Name _ _=>true
 | _=>false
def eW(Γ:Ct)(i:Nat)(m:Str):Ah->Option (List Ah)
 | .Call (.Attribute (.Name x _) a ap) xs [] cp=>if (a==m)&&aO Γ i x&&(ap.endLine==cp.line) then some xs else none
 | _=>none
def xQ(s:Br):Option { r:Ah×Ah // ∃p,s=.Assign [r.1] r.2 p }:=match s with
 | .Assign [t] v p=>some ⟨(t,v),p,rfl⟩
 | _=>none
def sEx(s:Br):Option { r:Ah // ∃p,s=.Expr r p }:=match s with
 | .Expr v p=>some ⟨v,p,rfl⟩
 | _=>none
def aCf(s:Br):Option { r:Option Ah // ∃p,s=.Return r p }:=match s with
 | .Return v p=>some ⟨v,p,rfl⟩
 | _=>none
def sIf(s:Br):Option { r:Ah×List Br×List Br // ∃p,s=.If r.1 r.2.1 r.2.2 p }:=match s with
 | .If t x y p=>some ⟨(t,x,y),p,rfl⟩
 | _=>none
def aEb(s:Br):Option { r:Ah×Ah×List Br // ∃p,s=.For r.1 r.2.1 r.2.2 [] p }:=match s with
 | .For t i b [] p=>some ⟨(t,i,b),p,rfl⟩
 | _=>none
def aLq(s:Br):Option { r:Ah×List Br // ∃p,s=.While r.1 r.2 [] p }:=match s with
 | .While t b [] p=>some ⟨(t,b),p,rfl⟩
 | _=>none
def aLr(s:Br):Option { r:Unit // ∃p,s=.Break p }:=match s with
 | .Break p=>some ⟨(),p,rfl⟩
 | _=>none
def aLs(s:Br):Option { r:Unit // ∃p,s=.Continue p }:=match s with
 | .Continue p=>some ⟨(),p,rfl⟩
 | _=>none
def aIY(s:Br):Option { r:Unit // ∃p,s=.Pass p }:=match s with
 | .Pass p=>some ⟨(),p,rfl⟩
 | _=>none
def aIZ(s:Br):Option { r:List Br // ∃h hs p,s=.Try r (h::hs) [] [] p }:=match s with
 | .Try b (h::hs) [] [] p=>some ⟨b,h,hs,p,rfl⟩
 | _=>none
mutual
def cR(Γ:Ct):S->Br->Bool
 | .set t e,s=>oS (xQ s) λr=>iB Γ t r.1&&aQ Γ e r.2&&(aGo r.1||!oD r.2)
 | .mov i j,s=>oS (xQ s) λr=>oS (asN r.1) λx=>oS (asN r.2) λy=>aU Γ i x&&aO Γ j y
 | .setIx _ _ _,_=>false
 | .app i e,s=>oS (sEx s) λc=>(match eW Γ i "append" c with|some [a]=>aQ Γ e a|_=>false)
 | .appCall _ _ _,_=>false
 | .ext i e,s=>oS (sEx s) λc=>(match eW Γ i "extend" c with|some [a]=>aQ Γ e a|_=>false)
 | .pop t i k,s=>(match t,k with
  | none,none=>oS (sEx s) λc=>(match eW Γ i "pop" c with|some []=>true|_=>false)
  | none,some _=>false
  | some t,none=>oS (xQ s) λr=>iB Γ t r.1&&(match eW Γ i "pop" r.2 with|some []=>true|_=>false)
  | some _,some _=>false)
 | .clr _,_=>false
 | .rev _,_=>false
 | .ret e,s=>oS (aCf s) λr=>oB r (aQ Γ e)
 | .retv i,s=>oS (aCf s) λr=>oB r λv=>oS (asN v) (aO Γ i)
 | .retN,s=>oS (aCf s) λr=>r.isNone
 | .iff c a b,s=>oS (sIf s) λr=>aQ Γ c r.1&&chkSs Γ a r.2.1&&chkSs Γ b r.2.2
 | .for t it b,s=>oS (aEb s) λr=>iB Γ t r.1&&chkI Γ (oC r.1) it r.2.1&&chkSs Γ b r.2.2
 | .whl c b,s=>oS (aLq s) λr=>aQ Γ c r.1&&chkSs Γ b r.2
 | .brk,s=>oS (aLr s) λ_=>true
 | .cnt,s=>oS (aLs s) λ_=>true
 | .pass,s=>oS (aIY s) λ_=>true
 | .ex e,s=>oS (sEx s) λv=>aQ Γ e v&&!fM v
 | .rse _ _ _,_=>true
 | .ins _ _ _,_=>false
 | .try _ _,_=>false
 | .lend,_=>false
 | .tryN b,s=>oS (aIZ s) λr=>chkSs Γ b r
 | .extV i j,s=>oS (sEx s) λc=>(match eW Γ i "extend" c with|some [a]=>oS (asN a) (λx=>aO Γ j x)|_=>false)
 | .tldD i f es,s=>oS (xQ s) λr=>oS (asN r.1) λx=>aU Γ i x&&(oS (iC r.2) λp=>(Γ.fns[f]?==some p.1)&&bZ Γ p.1&&bD p.1&&!p.2.isEmpty&&chkEs Γ es p.2)
 | .tldO i f a j,s=>oS (xQ s) λr=>oS (asN r.1) λx=>aU Γ i x&&(oS (iC r.2) λp=>(Γ.fns[f]?==some p.1)&&bZ Γ p.1&&bD p.1&&(match p.2 with
  | [y,z]=>aQ Γ a y&&oS (asN z) (λw=>aO Γ j w)
  | _=>false))
 | .wrkA i r,s=>oS (aEb s) λq=>oS (asN q.1) λz=>aU Γ r z&&(oS (asN q.2.1) λx=>aO Γ i x)&&(match q.2.2 with
  | [t]=>oS (sEx t) λc=>(match eW Γ r "append" c with|some [a]=>oS (jW a) (λq=>oS (asN q.1) (λz=>aO Γ r z)&&aQ Γ (.c (.int 0)) q.2)|_=>false)
  | _=>false)
 | .wrkC i r w,s=>oS (aEb s) λq=>oS (asN q.1) λz=>aU Γ r z&&(oS (asN q.2.1) λx=>aO Γ i x)&&(match q.2.2 with
  | [b]=>oS (sIf b) λf=>(match f.2 with
   | ([t],[])=>(oS (uM f.1) λp=>(match p.2.1,p.2.2 with
    | [o],[c]=>HA==o&&aQ Γ (.c (.str w)) c&&oS (jW p.1) (λu=>oS (asN u.1) (λy=>aO Γ r y)&&aQ Γ (.c (.int 0)) u.2)
    | _,_=>false))&&(oS (sEx t) λc=>oS (aIW c) λm=>(m.2.1==("clear" : Str))&&m.2.2.1.isEmpty&&m.2.2.2&&oS (jW m.1) (λu=>oS (asN u.1) (λy=>aO Γ r y)&&aQ Γ (.c (.int 2)) u.2))
   | _=>false)
  | _=>false)
 | .clrD i,s=>oS (sEx s) λc=>(match eW Γ i "clear" c with|some []=>true|_=>false)
 | .lset i k e,s=>oS (xQ s) λr=>oS (jW r.1) λu=>oS (asN u.1) λx=>aO Γ i x&&aQ Γ k u.2&&aQ Γ e r.2
 | .setL i l _ e,s=>oS (xQ s) λr=>oS (asN r.1) λx=>aU Γ i x&&bR Γ l e r.2&&!fM r.2
 | .appL i l e,s=>oS (sEx s) λc=>(match eW Γ i "append" c with|some [a]=>bR Γ l e a|_=>false)
 | .retL e,s=>oS (aCf s) λr=>oB r (bR Γ 0 e)
 | .retvL i,s=>oS (aCf s) λr=>oB r λv=>oS (asN v) (aO Γ i)
 | .iffL o a b x y,s=>oS (sIf s) λr=>(oS (uM r.1) λp=>(match p.2.1,p.2.2 with
  | [o'],[z]=>o==o'&&bR Γ 0 a p.1&&aQ Γ b z
  | _,_=>false))&&chkSs Γ x r.2.1&&chkSs Γ y r.2.2
 | .forL t e b,s=>oS (aEb s) λr=>iB Γ t r.1&&(oS (iC r.2.1) λp=>(p.1==("range" : Str))&&bZ Γ p.1&&(match p.2 with
  | [x]=>bR Γ 0 e x
  | _=>false))&&chkSs Γ b r.2.2
def chkSs(Γ:Ct):Ss->List Br->Bool
 | .nil,[]=>true
 | .cons .lend ss,xs=>chkSs Γ ss xs
 | .cons s ss,x::xs=>cR Γ s x&&chkSs Γ ss xs
 | _,_=>false
end
end Hp
end
noncomputable section
namespace Hp
open PySem PySem.Spec PyProof.Rows L2
def Kp(R:Addr->Prop)(H H':Hp):Prop:=∀a o,H a=some o->¬ R a->H' a=some o
def RE{α:Type}:R α->(α->Prop)->Prop
 | .ok a,p=>p a
 | _,_=>False
theorem RE.mono{α:Type}{x:R α}{p q:α->Prop}(h:RE x p)(f:∀a,p a->q a):RE x q:=by
 cases x with
 | ok a=>exact f a h
 | exc e=>exact h
 | bad=>exact h
theorem RE.bind{α β:Type}{x:R α}{f:α->R β}{p:β->Prop}:RE (x >>= f) p=RE x λa=>RE (f a) p:=by
 cases x <;> rfl
theorem RE.iff{α:Type}{c:Bool}{x:R α}{p:α->Prop}(h:RE (R.iff c x) p):c=true/\RE x p:=by
 cases c with
 | true=>exact⟨rfl,h⟩
 | false=>exact h.elim
section
variable (K:Fg) (RT Y old:Addr->Prop)
def exB(pa:Bool)(a:Addr):Prop:=Y a\/(pa=false/\old a)
def Tk(H:Hp):Prop:=∀b,H b≠none->K.lookup b=none
def Pt(σ:Sg)(σV:L2.St)(p:Addr):Prop:=RT p/\¬ old p/\∀(k:Nat) (pa:Bool) (ds:List D),σ[k]? = some (.own pa ds)->σV[k]?≠some (some (.ref p))
def Dpq(σ:Sg)(σV:L2.St)(H:Hp)(M:Addr->Prop)(i:Nat)(o:Option (List D)):Prop:=∃a xs,σV[i]? = some (some (.ref a))/\H a=some (.lst xs)/\M a/\(∀b,M b->Pt RT old σ σV b/\∃ys,H b=some (.lst ys))/\∀ds,o=some ds->Reps K H (λb=>b=a\/¬ M b) ds xs
structure Lx (σ:Sg) (σV:L2.St) (H:Hp):Prop where
 at':∀(i:Nat) (ds:List D),σ[i]? = some (.lent ds)->∃a xs,σV[i]? = some (some (.ref a))/\H a=some (.lst xs)/\RT a/\old a/\Reps K H (λa=>RT a\/exB Y old true a) ds xs
 inj:∀(i j:Nat) (ds ds':List D) (a:Addr),σ[i]? = some (.lent ds)->σ[j]? = some (.lent ds')->σV[i]? = some (some (.ref a))->σV[j]? = some (some (.ref a))->i=j
 dp:∃N:Nat->Addr->Prop,(∀(i:Nat) (o:Option (List D)),σ[i]? = some (.dp o)->Dpq K RT old σ σV H (N i) i o)/\∀(i j:Nat) (o o':Option (List D)) (b:Addr),σ[i]? = some (.dp o)->σ[j]? = some (.dp o')->N i b->N j b->i=j
structure Sx (σ:Sg) (σV:L2.St) (H:Hp):Prop where
 sh:∀(i:Nat) (pa:Bool) (d:D),σ[i]? = some (.sh pa d)->∃v,σV[i]? = some (some v)/\Rep K H (λa=>RT a\/exB Y old pa a) d v
 own:∀(i:Nat) (pa:Bool) (ds:List D),σ[i]? = some (.own pa ds)->∃a xs,σV[i]? = some (some (.ref a))/\H a=some (.lst xs)/\RT a/\¬ old a/\Reps K H (λa=>RT a\/exB Y old pa a) ds xs
 trk:∀a,RT a\/Y a\/old a->H a=none->K.lookup a≠none
 yo:∀a,Y a->old a
 tk:Tk K H
 rt:∀a,RT a->∃xs,H a=some (.lst xs)
 inj:∀(i j:Nat) (pa pa':Bool) (ds ds':List D) (a:Addr),σ[i]? = some (.own pa ds)->σ[j]? = some (.own pa' ds')->σV[i]? = some (some (.ref a))->σV[j]? = some (some (.ref a))->i=j
 len:σ.length=σV.length
 lx:Lx K RT Y old σ σV H
def alR(σ:Sg)(σV:L2.St)(al:List Nat)(a:Addr):Prop:=∃j∈al,(∃pa ds,σ[j]? = some (.own pa ds))/\σV[j]? = some (some (.ref a))
def exV(σ:Sg)(σV:L2.St)(pa:Bool)(al:List Nat)(a:Addr):Prop:=(RT a/\¬ alR σ σV al a)\/exB Y old pa a
def Rv(σ:Sg)(σV:L2.St)(H:Hp)(v:Vl)(u:V):Prop:=Rep K H (exV RT Y old σ σV v.pa v.al) v.d u
def Ro(σ:Sg)(σV:L2.St)(H H':Hp)(v:Vl)(u:V):Prop:=
 aL H H'/\(if v.fr=true then ∃a xs ds,u=.ref a/\v.d=.lst ds/\(H a=none/\K.lookup a=none)/\H' a=some (.lst xs)/\Reps K H' (λb=>b=a\/exV RT Y old σ σV v.pa v.al b) ds xs
  else Rv K RT Y old σ σV H' v u)
def Rvs(σ:Sg)(σV:L2.St)(H:Hp):List Vl->List V->Prop
 | [],us=>us=[]
 | v::vs,us=>∃u r,us=u::r/\Rv K RT Y old σ σV H v u/\Rvs σ σV H vs r
end
section
variable {K:Fg} {RT Y old:Addr->Prop} {σ:Sg} {σV:L2.St} {H H' H1 H2:Hp} {v:Vl} {u:V}
theorem SqL.eq{b:Addr}{ys zs:List V}(tk:Tk K H)(h:H b=some (.lst ys))(q:SqL K H b zs):ys=zs:=by
 rcases q with(q|⟨o,q⟩)|⟨o,its,m,q,_⟩
 . rw[h] at q;cases q;rfl
 . rw[h] at q;cases q
 . rw[tk b (by rw[h];simp)] at q;cases q
theorem Lx.dpi{RT':Addr->Prop}{σ':Sg}{σV':L2.St}(L:Lx K RT Y old σ σV H)(tk:Tk K H)(hD:∀b ks,H b=some (.dK ks)->H' b=some (.dK ks))(m:Nat->Nat)
 (hs2:∀j o,σ'[j]? = some (.dp o)->σ[m j]? = some (.dp o)/\σV'[j]? = σV[m j]?) (hm2:∀i j o o',σ'[i]? = some (.dp o)->σ'[j]? = some (.dp o')->m i=m j->i=j)
 (hh2:∀p xs,H p=some (.lst xs)->Pt RT old σ σV p->H' p=some (.lst xs)/\Pt RT' old σ' σV' p) (hT:∀b ks,SqT K H b ks->SqT K H' b ks) :
 ∃N:Nat->Addr->Prop,(∀(i:Nat) (o:Option (List D)),σ'[i]? = some (.dp o)->Dpq K RT' old σ' σV' H' (N i) i o)/\∀(i j:Nat) (o o':Option (List D)) (b:Addr),σ'[i]? = some (.dp o)->σ'[j]? = some (.dp o')->N i b->N j b->i=j:=by
 obtain⟨N,h1,h2⟩:=L.dp
 refine⟨λj=>N (m j),λj o e=>?_,λi j o o' b e1 e2 n1 n2=>hm2 i j o o' e1 e2 (h2 (m i) (m j) o o' b (hs2 i o e1).1 (hs2 j o' e2).1 n1 n2)⟩
 obtain⟨e1,e2⟩:=hs2 j o e
 obtain⟨a,xs,g1,g2,g3,g4,g5⟩:=h1 (m j) o e1
 refine⟨a,xs,by rw[e2];exact g1,(hh2 a xs g2 (g4 a g3).1).1,g3,λb hb=>?_,λds q=>Reps.imp hT (λb zs n s=>?_) id (λb zs n s=>(hh2 b zs s (g4 b (AF λz=>n (.inr z))).1).1) hD ds xs (g5 ds q)⟩
 . obtain⟨z,ys,y⟩:=g4 b hb
   exact⟨(hh2 b ys y z).2,ys,(hh2 b ys y z).1⟩
 . have hb:N (m j) b:=AF λz=>n (.inr z)
   obtain⟨z,ys,y⟩:=g4 b hb
   cases SqL.eq tk y s
   exact⟨n,SqL.of (hh2 b _ y z).1⟩
theorem Lx.imp{RT':Addr->Prop}{σ':Sg}{σV':L2.St}(L:Lx K RT Y old σ σV H)(tk:Tk K H)(hD:∀b ks,H b=some (.dK ks)->H' b=some (.dK ks))(m:Nat->Nat)(hs:∀j ds,σ'[j]? = some (.lent ds)->σ[m j]? = some (.lent ds)/\σV'[j]? = σV[m j]?)(hm:∀i j ds ds',σ'[i]? = some (.lent ds)->σ'[j]? = some (.lent ds')->m i=m j->i=j)
 (hh:∀a xs,H a=some (.lst xs)->RT a->old a->H' a=some (.lst xs)/\RT' a) (hr:∀ds xs,Reps K H (λa=>RT a\/exB Y old true a) ds xs->Reps K H' (λa=>RT' a\/exB Y old true a) ds xs)
 (hs2:∀j o,σ'[j]? = some (.dp o)->σ[m j]? = some (.dp o)/\σV'[j]? = σV[m j]?) (hm2:∀i j o o',σ'[i]? = some (.dp o)->σ'[j]? = some (.dp o')->m i=m j->i=j)
 (hh2:∀p xs,H p=some (.lst xs)->Pt RT old σ σV p->H' p=some (.lst xs)/\Pt RT' old σ' σV' p) (hT:∀b ks,SqT K H b ks->SqT K H' b ks):Lx K RT' Y old σ' σV' H' where
 at':=λi ds e=>by
  obtain⟨e1,e2⟩:=hs i ds e
  obtain⟨a,xs,h1,h2,h3,h4,h5⟩:=L.at' (m i) ds e1
  obtain⟨g1,g2⟩:=hh a xs h2 h3 h4
  exact⟨a,xs,by rw[e2];exact h1,g1,g2,h4,hr ds xs h5⟩
 inj:=λi j ds ds' a q1 q2 v1 v2=>by
  obtain⟨e1,e2⟩:=hs i ds q1
  obtain⟨e3,e4⟩:=hs j ds' q2
  exact hm i j ds ds' q1 q2 (L.inj (m i) (m j) ds ds' a e1 e3 (by rw[<-e2];exact v1) (by rw[<-e4];exact v2))
 dp:=L.dpi tk hD m hs2 hm2 hh2 hT
theorem Sx.grow(S:Sx K RT Y old σ σV H)(s:aL H H')(t:Tk K H'):Sx K RT Y old σ σV H' where
 sh:=λi pa d e=>let ⟨v,h1,h2⟩:=S.sh i pa d e;⟨v,h1,h2.grow s⟩
 own:=λi pa ds e=>let ⟨a,xs,h1,h2,h3,h4,h5⟩:=S.own i pa ds e;⟨a,xs,h1,s _ _ h2,h3,h4,h5.grow s⟩
 trk:=λa h z=>S.trk a h (s.free z)
 yo:=S.yo
 tk:=t
 rt:=λa h=>let ⟨xs,e⟩:=S.rt a h;⟨xs,s _ _ e⟩
 inj:=S.inj
 len:=S.len
 lx:=S.lx.imp S.tk (λ_ _ r=>s _ _ r) id (λ_ _ e=>⟨e,rfl⟩) (λ_ _ _ _ _ _ e=>e) (λa xs e z _=>⟨s _ _ e,z⟩) (λ_ _ r=>r.grow s) (λ_ _ e=>⟨e,rfl⟩) (λ_ _ _ _ _ _ e=>e) (λp xs e z=>⟨s _ _ e,z⟩) λ_ _ r=>aL.seqT s r
theorem exV.trk(S:Sx K RT Y old σ σV H){pa:Bool}{al:List Nat}{a:Addr}(h:exV RT Y old σ σV pa al a):H a=none->K.lookup a≠none:=by
 rcases h with⟨h,_⟩|h|⟨_,h⟩
 . exact S.trk a (.inl h)
 . exact S.trk a (.inr (.inl h))
 . exact S.trk a (.inr (.inr h))
theorem Ro.rv(S:Sx K RT Y old σ σV H)(h:Ro K RT Y old σ σV H H' v u):Rv K RT Y old σ σV H' v u:=by
 obtain⟨s,h⟩:=h
 by_cases hf:v.fr=true
 . rw[if_pos hf] at h
   obtain⟨a,xs,ds,e1,e2,e3,e4,r⟩:=h
   unfold Rv
   rw[e2]
   exact⟨a,xs,e1,SqL.of e4,⟨λz=>exV.trk S z e3.1 e3.2,λ_=>e4⟩,r.weak λb z=>.inr z⟩
 . rw[if_neg hf] at h
   exact h
theorem Rv.grow(h:Rv K RT Y old σ σV H v u)(s:aL H H'):Rv K RT Y old σ σV H' v u:=Rep.grow h s
theorem Rvs.grow:∀{vs:List Vl} {us:List V},Rvs K RT Y old σ σV H vs us->aL H H'->Rvs K RT Y old σ σV H' vs us
 | [],_,h,_=>h
 | v::vs,_,h,s=>by
  obtain⟨u,r,e,h1,h2⟩:=h
  exact⟨u,r,e,h1.grow s,Rvs.grow h2 s⟩
theorem Ro.plain(s:aL H H')(hf:v.fr=false)(h:Rv K RT Y old σ σV H' v u):Ro K RT Y old σ σV H H' v u:=⟨s,by rw[if_neg (by rw[hf];decide)];exact h⟩
theorem Ro.from(h:Ro K RT Y old σ σV H1 H' v u)(s:aL H H1):Ro K RT Y old σ σV H H' v u:=by
 obtain⟨s',h⟩:=h
 refine⟨s.trans s',?_⟩
 by_cases hf:v.fr=true
 . rw[if_pos hf] at h ⊢
   obtain⟨a,xs,ds,e1,e2,e3,e4,r⟩:=h
   exact⟨a,xs,ds,e1,e2,⟨s.free e3.1,e3.2⟩,e4,r⟩
 . rw[if_neg hf] at h ⊢
   exact h
theorem Ro.cl{d:D}(s:aL H H')(h:Rep K H' (exV RT Y old σ σV false []) d u):Ro K RT Y old σ σV H H' (.cl d) u:=Ro.plain s rfl h
theorem Rv.sub{d:D}{x:V}{ds:List D}{xs:List V}{j:Nat}(h:Rep K H (exV RT Y old σ σV v.pa v.al) d x):Rv K RT Y old σ σV H (v.sub d) x:=by
 unfold Rv Vl.sub
 by_cases hn:noL d=true
 . rw[if_pos hn]
   exact Rep.free d x hn h
 . rw[if_neg hn]
   exact h
theorem alR.mono{al al':List Nat}{a:Addr}(h:alR σ σV al a)(s:∀j∈al,j∈al'):alR σ σV al' a:=by
 obtain⟨j,hj,q⟩:=h
 exact⟨j,s j hj,q⟩
theorem exV.mono{pa pa':Bool}{al al':List Nat}{a:Addr}(h:exV RT Y old σ σV pa' al' a)(hp:pa=true->pa'=true)(s:∀j∈al,j∈al'):exV RT Y old σ σV pa al a:=by
 rcases h with⟨h1,h2⟩|h|⟨h1,h2⟩
 . exact .inl ⟨h1,λz=>h2 (z.mono s)⟩
 . exact .inr (.inl h)
 . refine .inr (.inr ⟨?_,h2⟩)
   cases pa with
   | false=>rfl
   | true=>rw[hp rfl] at h1;cases h1
theorem Rvs.length:∀{vs:List Vl} {us:List V},Rvs K RT Y old σ σV H vs us->vs.length=us.length
 | [],_,h=>by rw[show _=[] from h];rfl
 | v::vs,_,h=>by
  obtain⟨u,r,e,_,h2⟩:=h
  subst e
  rw[lC,lC,Rvs.length h2]
theorem mT{vs:List Vl}{v:Vl}(h:v∈vs):∀j∈v.al,j∈bS vs:=λj hj=>List.mem_flatMap.mpr ⟨v,h,hj⟩
theorem fQ{vs:List Vl}{v:Vl}(h:v∈vs)(hp:v.pa=true):aT vs=true:=List.any_eq_true.mpr ⟨v,h,hp⟩
theorem Rvs.reps:∀{vs:List Vl} {us:List V} {pa:Bool} {al:List Nat},Rvs K RT Y old σ σV H vs us->(∀v∈vs,(v.pa=true->pa=true)/\∀j∈v.al,j∈al) ->
 Reps K H (exV RT Y old σ σV pa al) (vs.map (·.d)) us
 | [],_,_,_,h,_=>h
 | v::vs,_,_,_,h,q=>by
  obtain⟨u,r,e,h1,h2⟩:=h
  have q1:=q v Aq
  exact⟨u,r,e,Rep.weak h1 λa z=>z.mono q1.1 q1.2,Rvs.reps h2 λw hw=>q w (Ag _ hw)⟩
theorem Rvs.all{vs:List Vl}{us:List V}(h:Rvs K RT Y old σ σV H vs us):Reps K H (exV RT Y old σ σV (aT vs) (bS vs)) (vs.map (·.d)) us:=
 h.reps λv hv=>⟨λz=>fQ hv z,mT hv⟩
theorem Ro.fresh{p:Addr}{xs:List V}{ds:List D}(hp:H p=none)(ht:Tk K (upd H p (.lst xs)))(hd:v.d=.lst ds)(hf:v.fr=true)(S:Sx K RT Y old σ σV H)(r:Reps K H (exV RT Y old σ σV v.pa v.al) ds xs) :
 Ro K RT Y old σ σV H (upd H p (.lst xs)) v (.ref p):=by
 have s:aL H (upd H p (.lst xs)):=λb o q=>by rw[aN (bB q hp)];exact q
 refine⟨s,?_⟩
 rw[if_pos hf]
 have kp:K.lookup p=none:=ht p (by rw[aW];simp)
 refine⟨p,xs,ds,rfl,hd,⟨hp,kp⟩,aW,?_⟩
 refine Reps.imp (λ_ _ q=>aL.seqT s q) (λa ys n q=>⟨λz=>?_,s.seq q⟩) (λ⟨c,h1,h2⟩=>⟨c,h1,h2.resolve_left λz=>h1 (by rw[z];exact kp)⟩) (λ_ _ _ q=>s _ _ q) (λ_ _ q=>s _ _ q) ds xs r
 rcases z with z|z
 . subst z
   rcases q with(q|⟨o,q⟩)|⟨o,its,n',q,_⟩
   . rw[hp] at q;cases q
   . rw[hp] at q;cases q
   . have z:=ht a (by rw[aW];simp)
     rw[q] at z;cases z
 . exact n z
theorem aL.new{p:Addr}{o:HO}(hp:H p=none):aL H (upd H p o):=λb u q=>by rw[aN (bB q hp)];exact q
theorem Ro.tup{p:Addr}{xs:List V}{ds:List D}(hp:H p=none)(hd:v.d=.tup ds)(hf:v.fr=false)(r:Reps K H (exV RT Y old σ σV v.pa v.al) ds xs) :
 Ro K RT Y old σ σV H (upd H p (.tup xs)) v (.ref p):=by
 refine Ro.plain (aL.new hp) hf ?_
 unfold Rv
 rw[hd]
 exact⟨p,xs,rfl,SqT.of aW,r.grow (aL.new hp)⟩
end
section
variable (X:Cx) (P:Pg) (cl:Caller) (RT Y old:Addr->Prop)
def wE(σ:Sg)(c:E):TE:=λσV H Q=>Sx X.K RT Y old σ σV H/\RE (ev P cl σ c) λv=>∀u H',Tk X.K H'->Ro X.K RT Y old σ σV H H' v u->Q u H'
def wT(σ:Sg)(c:E):TT:=λσV H Q=>Sx X.K RT Y old σ σV H/\RE (tst P cl σ c) λk=>∀H',Tk X.K H'->aL H H'->Q k H'
def wA(σ:Sg)(cs:Es):TA:=λσV H Q=>Sx X.K RT Y old σ σV H/\RE (evs P cl σ cs) λvs=>∀us H',Tk X.K H'->aL H H'->Rvs X.K RT Y old σ σV H' vs us->Q us H'
end
section
variable {X:Cx} {P:Pg} {cl:Caller} {RT Y old:Addr->Prop} {σ:Sg} {pos:BX}
theorem _root_.L2.Inv.tk{pins:List (Addr×Obj)}{σV:L2.St}{H:Hp}{s:Ae}(I:Inv X pins σV H s):Tk X.K H:=λb hb=>by
 cases q:X.K.lookup b with
 | none=>rfl
 | some o=>exact absurd (I.bs b o (I.ok.mod.kin b o q)).2 hb
theorem _root_.L2.PE.imp{e:Ah}{t t':TE}(h:PE X e t)(f:∀σV H Q,Tk X.K H->t' σV H Q->t σV H λv H'=>Tk X.K H'->Q v H'):PE X e t':=λpins s σV H Q I hw=>
 thn (h pins s σV H _ I (f σV H Q I.tk hw)) λu s' ⟨v,H',I',r,q⟩=>⟨v,H',I',r,q I'.tk⟩
theorem _root_.L2.PT.imp{e:Ah}{t t':TT}(h:PT X e t)(f:∀σV H Q,Tk X.K H->t' σV H Q->t σV H λv H'=>Tk X.K H'->Q v H'):PT X e t':=λpins s σV H Q I hw=>
 thn (h pins s σV H _ I (f σV H Q I.tk hw)) λk s' ⟨H',I',q⟩=>⟨H',I',q I'.tk⟩
theorem _root_.L2.PA.imp{es:List Ah}{t t':TA}(h:PA X es t)(f:∀σV H Q,Tk X.K H->t' σV H Q->t σV H λv H'=>Tk X.K H'->Q v H'):PA X es t':=λpos pins s σV H Q I hw=>
 thn (h pos pins s σV H _ I (f σV H Q I.tk hw)) λu s' ⟨v,H',I',r,q⟩=>⟨v,H',I',r,q I'.tk⟩
theorem wE.two{a b:E}{σV:L2.St}{H:Hp}{p:Vl->Vl->Prop}{Q:V->V->Hp->Prop}(S:Sx X.K RT Y old σ σV H)(h:RE (ev P cl σ a) λx=>RE (ev P cl σ b) λy=>p x y)
 (f:∀x y ux uy H2,p x y->Tk X.K H2->aL H H2->Sx X.K RT Y old σ σV H2->Rv X.K RT Y old σ σV H2 x ux->Rv X.K RT Y old σ σV H2 y uy->Q ux uy H2) :
 wE X P cl RT Y old σ a σV H λux H1=>wE X P cl RT Y old σ b σV H1 λuy H2=>Q ux uy H2:=by
 refine⟨S,h.mono λx hx ux H1 t1 r1=>⟨S.grow r1.1 t1,hx.mono λy hy uy H2 t2 r2=>?_⟩⟩
 have S1:=S.grow r1.1 t1
 exact f x y ux uy H2 hy t2 (r1.1.trans r2.1) (S1.grow r2.1 t2) ((r1.rv S).grow r2.1) (r2.rv S1)
theorem Ro.val{d:D}{u:V}{σV:L2.St}{H H':Hp}(s:aL H H')(h:∀ex,Rep X.K H' ex d u):Ro X.K RT Y old σ σV H H' (.cl d) u:=Ro.cl s (h _)
theorem s_c {d : D} {c : Const} {k : Nat} (h : eqC d c = true) : PE X (.Constant c k pos) (wE X P cl RT Y old σ (.c d)) := by
 have key : ∀ {v : V}, (∀ (H : Hp) ex, Rep X.K H ex d v) -> PE X (.Constant c k pos) (tC v) -> PE X (.Constant c k pos) (wE X P cl RT Y old σ (.c d)) := λ hv hp =>
  hp.imp λ σV H Q t ⟨S, q⟩ t' => q _ H t' (Ro.val (aL.refl H) (hv H))
 cases d with
 | non => cases c with
  | none => exact key (λ _ _ => rfl) aFM
  | _ => cases h
 | bl b => cases c with
  | bool b' => have e : b = b' := by simpa [eqC] using h
               subst e; exact key (λ _ _ => rfl) aIj
  | _ => cases h
 | int b => cases c with
  | int b' => have e : b = b' := by simpa [eqC] using h
              subst e; exact key (λ _ _ => rfl) aFL
  | _ => cases h
 | str b => cases c with
  | str b' => have e : b = b' := by simpa [eqC] using h
              subst e; exact key (λ _ _ => rfl) aFN
  | _ => cases h
 | _ => cases c <;> cases h
theorem s_v{i:Nat}{x:Str}(hN:X.N[i]? = some x)(hv:Vis X.env.scope x)(hd:(x==("__debug__" : Str))=false)(hcd:(x==("__classdict__" : Str))=false) :
 PE X (.Name x pos) (wE X P cl RT Y old σ (.v i)):=by
 refine(lK hN hv hd hcd).imp λσV H Q t ⟨S,q⟩=>?_
 have q:RE (bV σ i) _:=q
 unfold bV at q
 cases e:σ[i]? with
 | none=>rw[e] at q;exact q.elim
 | some sl=>
  rw[e] at q
  cases sl with
  | dead=>exact q.elim
  | lent _=>exact q.elim
  | dp _=>exact q.elim
  | sh pa d=>
   obtain⟨v,h1,h2⟩:=S.sh i pa d e
   refine⟨v,h1,λt'=>q v H t' (Ro.plain (aL.refl H) rfl ?_)⟩
   unfold Rv
   by_cases hn:noL d=true
   . exact Rep.free d v hn h2
   . refine Rep.weak h2 λa z=>?_
     rcases z with⟨z,_⟩|z|⟨z,z'⟩
     . exact .inl z
     . exact .inr (.inl z)
     . have:pa=false:=by simpa[hn] using z
       exact .inr (.inr ⟨this,z'⟩)
  | own pa ds=>
   obtain⟨a,xs,h1,h2,h3,h4,h5⟩:=S.own i pa ds e
   refine⟨.ref a,h1,λt'=>q _ H t' (Ro.plain (aL.refl H) rfl ?_)⟩
   unfold Rv
   refine⟨a,xs,rfl,SqL.of h2,⟨λz=>?_,λ_=>h2⟩,h5.weak λb z=>?_⟩
   . rcases z with⟨_,z⟩|z|⟨_,z⟩
     . exact z ⟨i,by simp,⟨pa,ds,e⟩,h1⟩
     . exact h4 (S.yo a z)
     . exact h4 z
   . rcases z with⟨z,_⟩|z
     . exact .inl z
     . exact .inr z
end
section
variable {X:Cx} {RT Y old:Addr->Prop} {σ:Sg} {σV:L2.St} {H:Hp} {s:Ae} {pins:List (Addr×Obj)} {Q:VK} {ux uy:V} {vx vy:Value} {x y:Vl}
theorem _root_.L2.EP.tk{u:Value}{s':Ae}(h:EP X pins σV (λv H'=>Tk X.K H'->Q v H') u s'):EP X pins σV Q u s':=by
 obtain⟨v,H',I',r,q⟩:=h
 exact⟨v,H',I',r,q (Inv.tk I')⟩
abbrev Wn(X:Cx)(RT Y old:Addr->Prop)(σ:Sg)(σV:L2.St)(H:Hp)(Q:VK)(v:Vl):Prop:=∀u H',Tk X.K H'->Ro X.K RT Y old σ σV H H' v u->Q u H'
theorem Wn.val{d:D}{u:V}(w:Wn X RT Y old σ σV H Q (.cl d))(t:Tk X.K H)(h:∀ex,Rep X.K H ex d u):Q u H:=w u H t (Ro.cl (aL.refl H) (h _))
theorem Rv.int{i:Int}{u:V}(h:Rv X.K RT Y old σ σV H x u)(e:x.d=.int i):u=.int i:=by unfold Rv at h;rw[e] at h;exact h
theorem Rv.str{i:Str}{u:V}(h:Rv X.K RT Y old σ σV H x u)(e:x.d=.str i):u=.str i:=by unfold Rv at h;rw[e] at h;exact h
theorem Rv.bl{i:Bool}{u:V}(h:Rv X.K RT Y old σ σV H x u)(e:x.d=.bl i):u=.bl i:=by unfold Rv at h;rw[e] at h;exact h
theorem Rv.non{u:V}(h:Rv X.K RT Y old σ σV H x u)(e:x.d=.non):u=.non:=by unfold Rv at h;rw[e] at h;exact h
theorem Rv.tup{ds:List D}{u:V}(h:Rv X.K RT Y old σ σV H x u)(e:x.d=.tup ds):∃a xs,u=.ref a/\SqT X.K H a xs/\Reps X.K H (exV RT Y old σ σV x.pa x.al) ds xs:=by unfold Rv at h;rw[e] at h;exact h
theorem Rv.lst{ds:List D}{u:V}(h:Rv X.K RT Y old σ σV H x u)(e:x.d=.lst ds):∃a xs,u=.ref a/\SqL X.K H a xs/\¬ exV RT Y old σ σV x.pa x.al a/\Reps X.K H (exV RT Y old σ σV x.pa x.al) ds xs:=by unfold Rv at h;rw[e] at h;obtain⟨a,xs,h1,h2,h3,h4⟩:=h;exact⟨a,xs,h1,h2,h3.1,h4⟩
theorem aGp:lim<=sizeLine:=by unfold lim;rw[B1];decide
theorem eF{n:Nat}(h:n<=lim):n<=sizeLine:=AW h aGp
theorem dX{ds:List D}{xs:List V}{pa:Bool}{al:List Nat}{K:Fg}(r:Reps K H (exV RT Y old σ σV pa al) ds xs) :
 Reps K H (exV RT Y old σ σV (pa&&!noLs ds) (if noLs ds=true then [] else al)) ds xs:=by
 by_cases hn:noLs ds=true
 . exact Reps.free ds xs hn r
 . rw[if_neg hn]
   refine r.weak λa z=>z.mono (λhp=>?_) λj hj=>hj
   rw[hp];simp[hn]
def aJa(K:Fg):R2:=λx y H Q=>∃l b xs zs,x=.ref l/\y=.ref b/\SqL K H l xs/\SqL K H b zs/\xs.length+zs.length<=sizeLine/\∀p,H p=none->Q (.ref p) (upd H p (.lst (xs++zs)))
theorem aEc:OpR X (BY .Add) (aJa X.K):=by
 intro pins s σV H x y v u Q I rx ry h
 obtain⟨l,b,xs,zs,rfl,rfl,hH,hB,hz,q⟩:=h
 cases rx
 cases ry
 obtain⟨its,r,pl,z⟩:=I.list hH
 obtain⟨its2,r2,pl2,z2⟩:=I.list hB
 obtain⟨⟨cls,dd,data,sl⟩,ho,hc,n,hd⟩:=pl.isList
 obtain⟨⟨cls2,dd2,data2,sl2⟩,ho2,hc2,n2,hd2⟩:=pl2.isList
 simp only at hc hd hc2 hd2
 subst hc hd hc2 hd2
 have e:its.toArray++its2.toArray=(its++its2).toArray:=by simp
 have hl:=r.length
 have hl2:=r2.length
 refine DQ ⟨_,ho,rfl⟩ ⟨_,ho2,rfl⟩ noFill_list_add seq_list_add PySem.F.slot_list_add PySem.F.entry_list_add (PySem.F.args_list_add_2 _ _) (list_addW l b its.toArray its2.toArray n n2 dd dd2 sl sl2 (by rw[Af,Af];omega)) ⟨ho,ho2,?_⟩
 rw[e]
 exact⟨.ref _,_,I.lnew (t':=s.toks) (r.append r2) (by rw[lA];omega),rfl,q _ I.fresh⟩
def aJb(K:Fg):R2:=λx y H Q=>∃l k xs,x=.ref l/\y=.int k/\SqL K H l xs/\-(2 ^ 63)<=k/\k<2 ^ 63/\xs.length*k.toNat<=sizeLine/\∀p,H p=none->Q (.ref p) (upd H p (.lst (Ad k.toNat xs).flatten))
theorem aAP(l:Addr)(items:Array Value)(n:Nat)(x:Int)(u:Tok)(dd:Option Addr)(sl:Array (Option Value))(hc0:¬(!Dv x)=true)(hc1:¬items.size*x.toNat>(2 ^ 63-1) / 8)(hc2:¬Bx (items.size*x.toNat)=true) :
 HB (DM.«list.__mul__» ⟨[.ref l,.int x u],[]⟩) (λ_ R s=>s.heap.get? l=some { cls:=.type "list",dict:=dd,data:=.seq items n,slots:=sl }/\R (.ok (.ret (CO s.heap.objs.size))) { s with heap:=s.heap.push { cls:=FH "list",data:=FY (EF (λx1 x2=>x1++x2) #[] (Ad (if items.isEmpty=true then 0 else x.toNat) items)) },toks:=s.toks }):=
 .of_wp λprog w A R s h=>by
  obtain⟨hp,g,d,tk,os⟩:=s;obtain⟨hl,h⟩:=h
  have hsz:=GM hc2
  have f1:=Hw;have f3:=GD
  wp_walk using wpAny_loadPart' hl;refine wpAny_ite_false (Ao (EH.mpr hsz)) ?_;wp_walk using wpAny_loadPart' hl;exact⟨_,rfl,h⟩
theorem aAQ(a:Int)(t:Tok)(l:Addr)(items:Array Value)(n:Nat)(dd:Option Addr)(sl:Array (Option Value)) :
 HB (DM.«int.__rmul__» ⟨[.int a t,.ref l],[]⟩) (λ_ R s=>s.heap.get? l=some { cls:=.type "list",dict:=dd,data:=.seq items n,slots:=sl }/\R (.ok (.ret Value.notImplemented)) s):=
 .of_wp λprog w A R s h=>by obtain⟨hp,g,d,tk,os⟩:=s;obtain⟨hl,h⟩:=h;wp_walk using wpAny_loadPart' hl;exact⟨_,rfl,h⟩
theorem aEd:OpR X (BY .Mult) (aJb X.K):=by
 intro pins s σ H x y v u Q I rx ry h
 obtain⟨l,k,xs,rfl,rfl,hH,h1,h2,hz,q⟩:=h
 cases rx
 obtain⟨t,rfl⟩:=ry
 obtain⟨its,r,pl,z⟩:=I.list hH
 obtain⟨⟨cls,dd,data,sl⟩,e,hc,n,hd⟩:=pl.isList
 simp only at hc hd
 subst hc hd
 have hl:=r.length
 have hlen:its.toArray.size*k.toNat<=sizeLine:=by rw[Af,<-hl];exact hz
 have hcap:¬ its.toArray.size*k.toNat>(2 ^ 63-1) / 8:=by
  have:(sizeLine:Nat)<=(2 ^ 63-1) / 8:=by decide
  omega
 have hfit:¬ (!Dv k)=true:=by
  rw[fitsIndex_both h1 h2]
  exact bN
 have hlong:¬ Bx (its.toArray.size*k.toNat)=true:=by
  rw[uG hlen]
  exact bN
 have hnew:EF (λx1 x2=>x1++x2) #[] (Ad (if its.toArray.isEmpty=true then 0 else k.toNat) its.toArray)=(Ad k.toNat its).flatten.toArray:=by
  have f0:∀m:Nat,EF (λx1 x2=>x1++x2) #[] (Ad m its.toArray)=(Ad m its).flatten.toArray:=λm=>by
   have:=qN its m []
   rw[Dc] at this
   exact this
  rw[f0]
  cases its with
  | nil=>simp
  | cons a r'=>rw[if_neg (by simp)]
 refine wpAny_binaryOp_repeat_ref (T:= "list") (U:= "int") (by decide) ⟨_,e,rfl⟩ (λs'=>FU s' k t) noFill_list_mul PySem.F.fills_int_mul Ek repeat_list PySem.F.slot_int_index.lookup
  (CT Ek (FU s k t) PySem.F.entry_int_rmul (PySem.F.args_int_rmul_2 _ _) (aAQ k t l its.toArray n dd sl)
   ⟨e,rfl,⟨_,e,rfl⟩,CT PySem.F.slot_list_mul ⟨_,e,rfl⟩ PySem.F.entry_list_mul (PySem.F.args_list_mul_2 _ _) (aAP l its.toArray n k t dd sl hfit hcap hlong) ⟨e,?_⟩⟩)
 rw[hnew]
 exact⟨.ref _,_,I.lnew (t':=s.toks) (r.rep k.toNat) (by rw[jU,Ck];exact hz),rfl,q _ I.fresh⟩
theorem aEe(x:Str):Str.rep x 1=x:=by
 unfold Str.rep
 cases x
 simp
theorem aAR(x:Str)(h:x.length=0)(k:Nat):Str.rep x k=x:=by
 have hx:x.cps=#[]:=by
  unfold FT at h
  exact Array.eq_empty_of_size_eq_zero h
 have go:∀k,(Ad k x.cps).foldl (·++·) #[]=#[]:=by
  intro k
  rw[hx]
  induction k with
  | zero=>rfl
  | succ k ih=>rw[A0,BL];simpa using ih
 unfold Str.rep
 rw[go k]
 cases x
 simp at hx
 rw[hx]
theorem xR(x:Str)(k:Nat):(⟨(Ad k x.cps).foldl (·++·) #[]⟩:Str).length=x.length*k:=by
 have go:∀(k:Nat) (acc:Array Nat),((Ad k x.cps).foldl (·++·) acc).size=acc.size+x.cps.size*k:=by
  intro k
  induction k with
  | zero=>intro acc;simp
  | succ k ih=>
   intro acc
   rw[A0,BL,ih,Fc,Di]
   omega
 show((Ad k x.cps).foldl (·++·) #[]).size=x.cps.size*k
 rw[go]
 simp
theorem aEf:OpR X (BY .Mult) (λx y H Q=>∃a k,x=.str a/\y=.int k/\aH k=true/\a.length*k.toNat<=lim/\Q (.str (Str.rep a k.toNat)) H):=by
 intro pins s σV H x y v u Q I rx ry h
 obtain⟨a,k,rfl,rfl,hk,hl,q⟩:=h
 obtain⟨t,rfl⟩:=rx
 obtain⟨t',rfl⟩:=ry
 unfold aH at hk
 simp only[bA,A7] at hk
 have h1:-(2 ^ 62:Int)<=k:=hk.1
 have h2:k<(2 ^ 62:Int):=hk.2
 have e1:decide (k < -(2 ^ 63:Int))=false:=Ao (by omega)
 have e2:decide (k ≥ (2 ^ 63:Int))=false:=Ao (by omega)
 have fin:∀z:Str,z=Str.rep a k.toNat->∀tk,EP X pins σV Q (.str z tk) { s with toks:=s.toks+1 }:=λz e tk=>by
  subst e
  exact⟨.str _,H,I.tok _,⟨_,rfl⟩,q⟩
 refine P.mul_str (by rw[e1,e2];rfl) (λn1 n2 z=>?_) (λn1 n2=>?_) ?_
 . have k1:1<=k:=by omega
   have z1:(a.length:Int)*k<=(lim:Int):=by
    have hk':((k.toNat:Nat):Int)=k:=by omega
    have:=Int.ofNat_le.mpr hl
    rw[De] at this
    rw[<-hk']
    exact_mod_cast this
   have z2:(2 ^ 63-1:Int) / k<a.length:=z
   have z3:(2 ^ 63-1:Int)<a.length*k:=Int.lt_mul_of_ediv_lt (by omega) z2
   have z4:(lim:Int)=1000000:=rfl
   omega
 . unfold GZ
   have:=eF hl
   exact Ao (by omega)
 . split
   . rename_i hn
     have:k.toNat=0:=by omega
     refine⟨by decide,?_⟩
     exact fin _ (by rw[this];rfl) _
   . split
     . rename_i hn h1'
       have hz:Str.rep a k.toNat=a:=by
        rcases Bool.or_eq_true_iff.mp h1' with z|z
        . have:k=1:=eq_of_beq z
          subst this
          exact aEe a
        . exact aAR a (eq_of_beq z) _
       exact⟨.str a,H,I,⟨_,rfl⟩,by rw[hz] at q;exact q⟩
     . refine⟨?_,fin _ rfl _⟩
       have:=eF hl
       rw[xR]
       exact this
def aGq(K:Fg):R2:=λx y H Q=>∃a b xs ys,x=.ref a/\y=.ref b/\SqT K H a xs/\SqT K H b ys/\xs.length+ys.length<=sizeLine /\
 (xs=[]->Q (.ref b) H)/\(xs≠[]->ys=[]->Q (.ref a) H)/\(xs≠[]->ys≠[]->∀p,H p=none->Q (.ref p) (upd H p (.tup (xs++ys))))
theorem aCg:OpR X (BY .Add) (aGq X.K):=by
 intro pins s σ H x y v u Q I rx ry h
 obtain⟨a,b,xs,ys,rfl,rfl,ha,hb,hz,q0,q1,q2⟩:=h
 by_cases hx:xs=[]
 . cases rx
   cases ry
   obtain⟨its,r1,p1,_⟩:=I.tuple ha
   obtain⟨its2,r2,p2,_⟩:=I.tuple hb
   obtain⟨⟨cls,dd,data,sl⟩,ho,hc,n,hd⟩:=id p1
   obtain⟨⟨cls2,dd2,data2,sl2⟩,ho2,hc2,n2,hd2⟩:=id p2
   simp only at hc hd hc2 hd2
   subst hc hd hc2 hd2
   have hi:its=[]:=r1.nil_iff.mpr hx
   exact DQ ⟨_,ho,rfl⟩ ⟨_,ho2,rfl⟩ DC E8 CJ CD (C5 _ _)
    (tuple_addW0 a b its.toArray its2.toArray n n2 dd dd2 sl sl2 (by simp[hi])) ⟨ho,ho2,⟨.ref b,H,I,rfl,q0 hx⟩⟩
 . exact aDV pins s σ H _ _ v u Q I rx ry ⟨a,b,xs,ys,rfl,rfl,ha,hb,hx,hz,q1 hx,q2 hx⟩
theorem uN{o:Operator}(I:Inv X pins σV H s)(S:Sx X.K RT Y old σ σV H)(rx:bI ux vx)(ry:bI uy vy)(hx:Rv X.K RT Y old σ σV H x ux)(hy:Rv X.K RT Y old σ σV H y uy)
 (hfr:x.fr=true->∃a xs,ux=.ref a/\H a=some (.lst xs)) (h:RE (opD o x y) (Wn X RT Y old σ σV H Q)):Au (A3 X.prog X.w) X.A (BY o vx vy) (EP X pins σV Q) X.xe s:=by
 have t:=Inv.tk I
 have go:∀{f:Value->Value->Hx Value} {r:R2},OpR X f r->(r ux uy H λv H'=>Tk X.K H'->Q v H')->Au (A3 X.prog X.w) X.A (f vx vy) (EP X pins σV Q) X.xe s:=λhr q=>
  thn (hr pins s σV H ux uy vx vy _ I rx ry q) λu s' z=>EP.tk z
 cases o with
 | Add=>
  have h:RE (uJ x y) (Wn X RT Y old σ σV H Q):=h
  unfold uJ at h
  split at h
  . rename_i i j d1 d2
    exact go aFZ ⟨i,j,hx.int d1,hy.int d2,λ_=>h.val t λ_=>rfl⟩
  . rename_i i j d1 d2
    obtain⟨c,h⟩:=h.iff
    exact go xD ⟨i,j,hx.str d1,hy.str d2,eF (of_decide_eq_true c),λ_=>Wn.val h t λ_=>rfl⟩
  . rename_i as bs d1 d2
    obtain⟨c,h⟩:=h.iff
    obtain⟨a,xs,e1,q1,r1⟩:=hx.tup d1
    obtain⟨b,ys,e2,q2,r2⟩:=hy.tup d2
    have l1:=r1.length
    have l2:=r2.length
    have c':=of_decide_eq_true c
    have r1':Reps X.K H (exV RT Y old σ σV (x.pa||y.pa) (x.al++y.al)) as xs:=r1.weak λa z=>z.mono (λhp=>by rw[hp];rfl) λj hj=>Bd _ hj
    have r2':Reps X.K H (exV RT Y old σ σV (x.pa||y.pa) (x.al++y.al)) bs ys:=r2.weak λa z=>z.mono (λhp=>by rw[hp,Cm]) λj hj=>A2 _ hj
    refine go aCg ⟨a,b,xs,ys,e1,e2,q1,q2,eF (by omega),λz t'=>?_,λz z' t'=>?_,λz z' p hp t'=>?_⟩
    . subst z
      have:as=[]:=CG.mp (by simpa using l1)
      subst this
      exact h _ _ t' (Ro.plain (aL.refl H) rfl ⟨b,ys,rfl,q2,r2'⟩)
    . subst z'
      have:bs=[]:=CG.mp (by simpa using l2)
      subst this
      exact h _ _ t' (Ro.plain (aL.refl H) rfl ⟨a,xs,rfl,q1,by rw[Ax];exact r1'⟩)
    . exact h _ _ t' (Ro.tup hp rfl rfl (r1'.append r2'))
  . rename_i as bs d1 d2
    obtain⟨c,h⟩:=h.iff
    obtain⟨a,xs,e1,q1,_,r1⟩:=hx.lst d1
    obtain⟨b,ys,e2,q2,_,r2⟩:=hy.lst d2
    have l1:=r1.length
    have l2:=r2.length
    have c':=of_decide_eq_true c
    refine go aEc ⟨a,b,xs,ys,e1,e2,q1,q2,eF (by omega),λp hp t'=>h _ _ t' (Ro.fresh hp t' rfl rfl S ?_)⟩
    refine Reps.append ((dX r1).weak λa z=>z.mono (λhp=>?_) λj hj=>Bd _ hj) ((dX r2).weak λa z=>z.mono (λhp=>?_) λj hj=>A2 _ hj)
    . show(_||_)=true
      rw[hp];rfl
    . show(_||_)=true
      rw[hp,Cm]
  . exact h.elim
 | Mult=>
  have h:RE (rZ x y) (Wn X RT Y old σ σV H Q):=h
  unfold rZ at h
  split at h
  . rename_i i j d1 d2
    obtain⟨c,h⟩:=h.iff
    refine go aGb ⟨i,j,hx.int d1,hy.int d2,?_,λ_=>Wn.val h t λ_=>rfl⟩
    simp only[qQ,BM,bA,A7] at c
    exact c
  . rename_i i j d1 d2
    obtain⟨c,h⟩:=h.iff
    simp only[bA,A7] at c
    exact go aEf ⟨i,j,hx.str d1,hy.int d2,c.1,c.2,λ_=>Wn.val h t λ_=>rfl⟩
  . rename_i as k d1 d2
    obtain⟨c,h⟩:=h.iff
    simp only[bA,A7] at c
    obtain⟨a,xs,e1,q1,_,r1⟩:=hx.lst d1
    have l1:=r1.length
    have hk:=c.1
    unfold aH at hk
    simp only[bA,A7] at hk
    have hk1:=hk.1
    have hk2:=hk.2
    refine go aEd ⟨a,k,xs,e1,hy.int d2,q1,by omega,by omega,eF (by rw[<-l1];exact c.2),λp hp t'=>h _ _ t' (Ro.fresh hp t' rfl rfl S ?_)⟩
    exact Reps.flat (dX r1) _
  . exact h.elim
 | Sub=>
  dsimp only[opD,uK] at h
  split at h
  . rename_i i j d1 d2
    exact go aGa ⟨i,j,hx.int d1,hy.int d2,λ_=>h.val t λ_=>rfl⟩
  . exact h.elim
 | FloorDiv=>
  dsimp only[opD,uK] at h
  split at h
  . rename_i i j d1 d2
    obtain⟨c,h⟩:=h.iff
    refine go aDN ⟨i,j,hx.int d1,hy.int d2,?_,λ_=>Wn.val h t λ_=>rfl⟩
    simp only[uI,bA,A7] at c
    exact c
  . exact h.elim
 | Mod=>
  dsimp only[opD,uK] at h
  split at h
  . rename_i i j d1 d2
    obtain⟨c,h⟩:=h.iff
    exact go aGc ⟨i,j,hx.int d1,hy.int d2,of_decide_eq_true c,λ_=>Wn.val h t λ_=>rfl⟩
  . exact h.elim
 | Pow=>
  dsimp only[opD,uK] at h
  split at h
  . rename_i i j d1 d2
    obtain⟨c,h⟩:=h.iff
    refine go aGd ⟨i,j,hx.int d1,hy.int d2,?_,λ_=>Wn.val h t λ_=>rfl⟩
    simp only[aFn,bA,A7] at c
    exact⟨c.1.1,by omega,c.2⟩
  . exact h.elim
 | _=>exact h.elim
end
end Hp
end
noncomputable section
namespace Hp
open PySem PySem.Spec PyProof.Rows L2 PySem.SeqAt
def iD(n:Nat)(ds es:List D)(j:Nat):Bool:=match ds[j]?,es[j]? with
 | some x,some y=>(eqF n x y).getD false
 | _,_=>false
theorem zN:∀{n:Nat} {ds es:List D} {k:Bool},fK n ds es=some k->∀{j:Nat} {x y:D},ds[j]? = some x->es[j]? = some y->∃b,eqF n x y=some b
 | n,[],es,k,h,j,x,y,e1,e2=>by simp at e1
 | n,d::ds,[],k,h,j,x,y,e1,e2=>by simp at e2
 | n,d::ds,e::es,k,h,j,x,y,e1,e2=>by
  rw[fK] at h
  cases h1:eqF n d e with
  | none=>rw[h1] at h;simp at h
  | some b=>
   cases h2:fK n ds es with
   | none=>rw[h1,h2] at h;simp at h
   | some b'=>
    cases j with
    | zero=>simp at e1 e2;subst e1 e2;exact⟨b,h1⟩
    | succ j=>exact zN h2 (by simpa using e1) (by simpa using e2)
theorem oE:∀{n:Nat} {ds es:List D} {k:Bool},fK n ds es=some k->k=((AO (min ds.length es.length)).all (iD n ds es)&&ds.length==es.length)
 | n,[],[],k,h=>by simp[fK] at h;simp[<-h]
 | n,[],e::es,k,h=>by simp[fK] at h;simp[<-h]
 | n,d::ds,[],k,h=>by simp[fK] at h;simp[<-h]
 | n,d::ds,e::es,k,h=>by
  rw[fK] at h
  cases h1:eqF n d e with
  | none=>rw[h1] at h;simp at h
  | some b=>
   cases h2:fK n ds es with
   | none=>rw[h1,h2] at h;simp at h
   | some b'=>
    rw[h1,h2] at h
    have hk:(b&&b')=k:=Ai h
    have ih:=oE h2
    have e0:iD n (d::ds) (e::es) 0=b:=by simp[iD,h1]
    have es':∀j,iD n (d::ds) (e::es) (j+1)=iD n ds es j:=λj=>by simp[iD]
    have hm:min (d::ds).length (e::es).length=min ds.length es.length+1:=by simp only[lC];omega
    rw[hm,List.range_succ_eq_map,C6,e0,Bz]
    have:(iD n (d::ds) (e::es))∘Nat.succ=iD n ds es:=funext λj=>es' j
    rw[this,<-hk,ih]
    simp[FZ]
section
variable {X:Cx} {σV:L2.St} {H:Hp} {s:Ae} {pins:List (Addr×Obj)}
theorem _root_.L2.Inv.lt_ne(I:L2.Inv X pins σV H s){a:Addr}{xs ys:List V}(h1:SqL X.K H a xs)(h2:SqT X.K H a ys):False:=by
 obtain⟨its,_,pl,_⟩:=I.list h1
 obtain⟨its2,_,pt,_⟩:=I.tuple h2
 exact ne_of_list_tuple pl.isList (show s.heap.IsTuple a its2.toArray from pt) rfl
theorem aCh{n:Nat}{ds:List (D×D)}{e:D}{k:Bool}(h:eqF (n+1) (.dic ds) e=some k):False:=by
 unfold eqF at h
 split at h <;> first|(cases h;done)|(rename_i e1 e2;cases e1;done)|(rename_i e1;cases e1;done)
mutual
theorem sB(I:L2.Inv X pins σV H s):∀(n:Nat) (d e:D) (u:V) (k:Bool) (ex ex':Addr->Prop),Rep X.K H ex d u->Rep X.K H ex' e u->eqF n d e=some k->k=true
 | 0,d,e,u,k,_,_,_,_,h=>by simp[eqF] at h
 | n+1,.non,e,u,k,_,_,h1,h2,h=>by
  rw[show u=.non from h1] at h2
  cases e with
  | non=>simpa[eqF] using h.symm
  | tup ds=>obtain⟨a,xs,z,_⟩:=h2;cases z
  | lst ds=>obtain⟨a,xs,z,_⟩:=h2;cases z
  | dic ds=>obtain⟨a,xs,z,_⟩:=h2;cases z
  | err _ _=>exact h2.elim
  | bl b=>cases(show V.non=.bl b from h2)
  | int b=>cases(show V.non=.int b from h2)
  | str b=>cases(show V.non=.str b from h2)
 | n+1,.bl b,e,u,k,_,_,h1,h2,h=>by
  rw[show u=.bl b from h1] at h2
  cases e with
  | bl b'=>cases(show V.bl b=.bl b' from h2);simpa[eqF] using h.symm
  | tup ds=>obtain⟨a,xs,z,_⟩:=h2;cases z
  | lst ds=>obtain⟨a,xs,z,_⟩:=h2;cases z
  | dic ds=>obtain⟨a,xs,z,_⟩:=h2;cases z
  | err _ _=>exact h2.elim
  | non=>cases(show V.bl b=.non from h2)
  | int b'=>cases(show V.bl b=.int b' from h2)
  | str b'=>cases(show V.bl b=.str b' from h2)
 | n+1,.int b,e,u,k,_,_,h1,h2,h=>by
  rw[show u=.int b from h1] at h2
  cases e with
  | int b'=>cases(show V.int b=.int b' from h2);simpa[eqF] using h.symm
  | tup ds=>obtain⟨a,xs,z,_⟩:=h2;cases z
  | lst ds=>obtain⟨a,xs,z,_⟩:=h2;cases z
  | dic ds=>obtain⟨a,xs,z,_⟩:=h2;cases z
  | err _ _=>exact h2.elim
  | non=>cases(show V.int b=.non from h2)
  | bl b'=>cases(show V.int b=.bl b' from h2)
  | str b'=>cases(show V.int b=.str b' from h2)
 | n+1,.str b,e,u,k,_,_,h1,h2,h=>by
  rw[show u=.str b from h1] at h2
  cases e with
  | str b'=>cases(show V.str b=.str b' from h2);simpa[eqF] using h.symm
  | tup ds=>obtain⟨a,xs,z,_⟩:=h2;cases z
  | lst ds=>obtain⟨a,xs,z,_⟩:=h2;cases z
  | dic ds=>obtain⟨a,xs,z,_⟩:=h2;cases z
  | err _ _=>exact h2.elim
  | non=>cases(show V.str b=.non from h2)
  | bl b'=>cases(show V.str b=.bl b' from h2)
  | int b'=>cases(show V.str b=.int b' from h2)
 | n+1,.tup ds,e,u,k,ex,ex',h1,h2,h=>by
  obtain⟨a,xs,z,q,r⟩:=h1
  subst z
  cases e with
  | tup es=>
   obtain⟨a',ys,z,q',r'⟩:=h2
   cases z
   have:xs=ys:=I.tuple_inj q q'
   subst this
   exact eqs_same I n ds es xs k ex ex' r r' (by simpa[eqF] using h)
  | lst es=>
   obtain⟨a',ys,z,q',_,r'⟩:=h2
   cases z
   exact(I.lt_ne q' q).elim
  | dic ds=>simp[eqF] at h
  | err _ _=>exact h2.elim
  | non=>cases(show V.ref a=.non from h2)
  | bl b'=>cases(show V.ref a=.bl b' from h2)
  | int b'=>cases(show V.ref a=.int b' from h2)
  | str b'=>cases(show V.ref a=.str b' from h2)
 | n+1,.lst ds,e,u,k,ex,ex',h1,h2,h=>by
  obtain⟨a,xs,z,q,_,r⟩:=h1
  subst z
  cases e with
  | lst es=>
   obtain⟨a',ys,z,q',_,r'⟩:=h2
   cases z
   have:xs=ys:=I.list_inj q q'
   subst this
   have hl:ds.length=es.length:=r.length.trans r'.length.symm
   exact eqs_same I n ds es xs k ex ex' r r' (by simpa[eqF,hl] using h)
  | tup es=>
   obtain⟨a',ys,z,q',r'⟩:=h2
   cases z
   exact(I.lt_ne q q').elim
  | dic ds=>simp[eqF] at h
  | err _ _=>exact h2.elim
  | non=>cases(show V.ref a=.non from h2)
  | bl b'=>cases(show V.ref a=.bl b' from h2)
  | int b'=>cases(show V.ref a=.int b' from h2)
  | str b'=>cases(show V.ref a=.str b' from h2)
 | n+1,.dic ds,e,u,k,ex,ex',h1,h2,h=>by
  exact(aCh h).elim
 | n+1,.err _ _,e,u,k,ex,ex',h1,h2,h=>h1.elim
theorem eqs_same(I:L2.Inv X pins σV H s):∀(n:Nat) (ds es:List D) (us:List V) (k:Bool) (ex ex':Addr->Prop),Reps X.K H ex ds us->Reps X.K H ex' es us->fK n ds es=some k->k=true
 | n,[],[],us,k,_,_,h1,h2,h=>by simpa[fK] using h.symm
 | n,[],e::es,us,k,_,_,h1,h2,h=>by
  obtain⟨x,r,z,_⟩:=h2
  rw[show us=[] from h1] at z;cases z
 | n,d::ds,[],us,k,_,_,h1,h2,h=>by
  obtain⟨x,r,z,_⟩:=h1
  rw[show us=[] from h2] at z;cases z
 | n,d::ds,e::es,us,k,ex,ex',h1,h2,h=>by
  obtain⟨x,r,z,a1,b1⟩:=h1
  obtain⟨x',r',z',a2,b2⟩:=h2
  rw[z] at z'
  cases z'
  rw[fK] at h
  cases q1:eqF n d e with
  | none=>rw[q1] at h;simp at h
  | some b=>
   cases q2:fK n ds es with
   | none=>rw[q1,q2] at h;simp at h
   | some b'=>
    rw[q1,q2] at h
    have e1:=sB I n d e x b ex ex' a1 a2 q1
    have e2:=eqs_same I n ds es r b' ex ex' b1 b2 q2
    subst e1 e2
    simpa using h.symm
end
def Eq3(A:AY)(s:Ae)(v z:Value)(k:Bool):Prop:=EqAt A s v z k/\RcAt A s v z k/\RcNeAt A s v z (!k)
theorem zO{xs:List V}{us:List Value}(r:aV xs us){j:Nat}(h:j<us.toArray.size):∃x,xs[j]? = some x/\bI x us.toArray[j]:=by
 have hl:=r.length
 have hj:j<xs.length:=by rw[Af] at h;omega
 obtain⟨u,e,q⟩:=r.get (Am hj)
 refine⟨xs[j],Am hj,?_⟩
 have:us.toArray[j]=u:=by
  have e':us[j]? = some us.toArray[j]:=by simp[Am (show j<us.length by simpa using h)]
  rw[e'] at e
  exact Ai e
 rw[this]
 exact q
theorem aAS(A:AY):A.in1.units=A.units+1:=rfl
theorem aEg(I:L2.Inv X pins σV H s):∀(n:Nat) (A:AY) (d e:D) (u w:V) (v z:Value) (k:Bool) (ex ex':Addr->Prop),A.units+n<G4->Rep X.K H ex d u->Rep X.K H ex' e w->bI u v->bI w z->eqF n d e=some k->Eq3 A s v z k:=by
 intro n
 induction n with
 | zero=>intro A d e u w v z k ex ex' _ _ _ _ _ h;simp[eqF] at h
 | succ n ih=>
  intro A d e u w v z k ex ex' hA h1 h2 r1 r2 h
  have hu:A.units<G4:=by omega
  have items:∀{ds es:List D} {xs ys:List V} {its its2:List Value} {k:Bool},Reps X.K H ex ds xs->Reps X.K H ex' es ys->aV xs its->aV ys its2->fK n ds es=some k ->
   ∀j (_:j<its.toArray.size) (_:j<its2.toArray.size),EqAt A.in1 s its.toArray[j] its2.toArray[j] (iD n ds es j):=by
   intro ds es xs ys its its2 k q1 q2 v1 v2 hk j hj1 hj2
   obtain⟨x,ex1,rx⟩:=zO v1 hj1
   obtain⟨y,ey1,ry⟩:=zO v2 hj2
   obtain⟨d',ed,rd⟩:=q1.get' ex1
   obtain⟨e',ee,re⟩:=q2.get' ey1
   obtain⟨b,hb⟩:=zN hk ed ee
   have hj:iD n ds es j=b:=by simp[iD,ed,ee,hb]
   rw[hj]
   exact(ih A.in1 d' e' x y _ _ b ex ex' (by rw[aAS];omega) rd re rx ry hb).1
  cases d with
  | err _ _=>exact h1.elim
  | dic ds=>
   exact(aCh h).elim
  | non=>
   rw[show u=.non from h1] at r1
   cases r1
   cases e with
   | err _ _=>exact h2.elim
   | dic _=>simp[eqF] at h
   | non=>rw[show w=.non from h2] at r2;cases r2;simp[eqF] at h;subst h;exact⟨EqAt.same _,RcAt.none_none,RcNeAt.none_none⟩
   | bl b=>rw[show w=.bl b from h2] at r2;cases r2;simp[eqF] at h;subst h;exact⟨EqAt.none_bool _,RcAt.none_bool _,RcNeAt.none_bool _⟩
   | int b=>rw[show w=.int b from h2] at r2;obtain⟨t,rfl⟩:=r2;simp[eqF] at h;subst h;exact⟨EqAt.none_int _ _,RcAt.none_int _ _,RcNeAt.none_int _ _⟩
   | str b=>rw[show w=.str b from h2] at r2;obtain⟨t,rfl⟩:=r2;simp[eqF] at h;subst h;exact⟨EqAt.none_str _ _,RcAt.none_str _ _,RcNeAt.none_str _ _⟩
   | tup es=>
    obtain⟨b,ys,rfl,q,r⟩:=h2
    cases r2
    obtain⟨its,_,p,_⟩:=I.tuple q
    simp[eqF] at h;subst h
    exact⟨EqAt.none_tuple (show s.heap.IsTuple b its.toArray from p) hu,RcAt.none_tuple (show s.heap.IsTuple b its.toArray from p) hu,RcNeAt.none_tuple (show s.heap.IsTuple b its.toArray from p) hu⟩
   | lst es=>
    obtain⟨b,ys,rfl,q,_,r⟩:=h2
    cases r2
    obtain⟨its,_,p,_⟩:=I.list q
    simp[eqF] at h;subst h
    exact⟨EqAt.none_list p.isList hu,RcAt.none_list p.isList hu,RcNeAt.none_list p.isList hu⟩
  | bl a=>
   rw[show u=.bl a from h1] at r1
   cases r1
   cases e with
   | err _ _=>exact h2.elim
   | dic _=>simp[eqF] at h
   | non=>rw[show w=.non from h2] at r2;cases r2;simp[eqF] at h;subst h;exact⟨EqAt.bool_none _,RcAt.bool_none _,RcNeAt.bool_none _⟩
   | bl b=>rw[show w=.bl b from h2] at r2;cases r2;simp only[eqF,BO] at h;subst h;exact⟨EqAt.bool_bool _ _,RcAt.bool_bool _ _,RcNeAt.bool_bool _ _⟩
   | int b=>rw[show w=.int b from h2] at r2;obtain⟨t,rfl⟩:=r2;simp only[eqF,BO] at h;subst h;exact⟨EqAt.bool_int _ _ _,RcAt.bool_int _ _ _,RcNeAt.bool_int _ _ _⟩
   | str b=>rw[show w=.str b from h2] at r2;obtain⟨t,rfl⟩:=r2;simp[eqF] at h;subst h;exact⟨EqAt.bool_str _ _ _,RcAt.bool_str _ _ _,RcNeAt.bool_str _ _ _⟩
   | tup es=>
    obtain⟨b,ys,rfl,q,r⟩:=h2
    cases r2
    obtain⟨its,_,p,_⟩:=I.tuple q
    simp[eqF] at h;subst h
    exact⟨EqAt.bool_tuple _ (show s.heap.IsTuple b its.toArray from p) hu,RcAt.bool_tuple _ (show s.heap.IsTuple b its.toArray from p) hu,RcNeAt.bool_tuple _ (show s.heap.IsTuple b its.toArray from p) hu⟩
   | lst es=>
    obtain⟨b,ys,rfl,q,_,r⟩:=h2
    cases r2
    obtain⟨its,_,p,_⟩:=I.list q
    simp[eqF] at h;subst h
    exact⟨EqAt.bool_list _ p.isList hu,RcAt.bool_list _ p.isList hu,RcNeAt.bool_list _ p.isList hu⟩
  | int a=>
   rw[show u=.int a from h1] at r1
   obtain⟨t1,rfl⟩:=r1
   cases e with
   | err _ _=>exact h2.elim
   | dic _=>simp[eqF] at h
   | non=>rw[show w=.non from h2] at r2;cases r2;simp[eqF] at h;subst h;exact⟨EqAt.int_none _ _,RcAt.int_none _ _,RcNeAt.int_none _ _⟩
   | bl b=>rw[show w=.bl b from h2] at r2;cases r2;simp only[eqF,BO] at h;subst h;exact⟨EqAt.int_bool _ _ _,RcAt.int_bool _ _ _,RcNeAt.int_bool _ _ _⟩
   | int b=>rw[show w=.int b from h2] at r2;obtain⟨t,rfl⟩:=r2;simp only[eqF,BO] at h;subst h;exact⟨EqAt.int_int _ _ _ _,RcAt.int_int _ _ _ _,RcNeAt.int_int _ _ _ _⟩
   | str b=>rw[show w=.str b from h2] at r2;obtain⟨t,rfl⟩:=r2;simp[eqF] at h;subst h;exact⟨EqAt.int_str _ _ _ _,RcAt.int_str _ _ _ _,RcNeAt.int_str _ _ _ _⟩
   | tup es=>
    obtain⟨b,ys,rfl,q,r⟩:=h2
    cases r2
    obtain⟨its,_,p,_⟩:=I.tuple q
    simp[eqF] at h;subst h
    exact⟨EqAt.int_tuple _ _ (show s.heap.IsTuple b its.toArray from p) hu,RcAt.int_tuple _ _ (show s.heap.IsTuple b its.toArray from p) hu,RcNeAt.int_tuple _ _ (show s.heap.IsTuple b its.toArray from p) hu⟩
   | lst es=>
    obtain⟨b,ys,rfl,q,_,r⟩:=h2
    cases r2
    obtain⟨its,_,p,_⟩:=I.list q
    simp[eqF] at h;subst h
    exact⟨EqAt.int_list _ _ p.isList hu,RcAt.int_list _ _ p.isList hu,RcNeAt.int_list _ _ p.isList hu⟩
  | str a=>
   rw[show u=.str a from h1] at r1
   obtain⟨t1,rfl⟩:=r1
   cases e with
   | err _ _=>exact h2.elim
   | dic _=>simp[eqF] at h
   | non=>rw[show w=.non from h2] at r2;cases r2;simp[eqF] at h;subst h;exact⟨EqAt.str_none _ _,RcAt.str_none _ _,RcNeAt.str_none _ _⟩
   | bl b=>rw[show w=.bl b from h2] at r2;cases r2;simp[eqF] at h;subst h;exact⟨EqAt.str_bool _ _ _,RcAt.str_bool _ _ _,RcNeAt.str_bool _ _ _⟩
   | int b=>rw[show w=.int b from h2] at r2;obtain⟨t,rfl⟩:=r2;simp[eqF] at h;subst h;exact⟨EqAt.str_int _ _ _ _,RcAt.str_int _ _ _ _,RcNeAt.str_int _ _ _ _⟩
   | str b=>rw[show w=.str b from h2] at r2;obtain⟨t,rfl⟩:=r2;simp only[eqF,BO] at h;subst h;exact⟨EqAt.str_str _ _ _ _,RcAt.str_str _ _ _ _,RcNeAt.str_str _ _ _ _⟩
   | tup es=>
    obtain⟨b,ys,rfl,q,r⟩:=h2
    cases r2
    obtain⟨its,_,p,_⟩:=I.tuple q
    simp[eqF] at h;subst h
    exact⟨EqAt.str_tuple _ _ (show s.heap.IsTuple b its.toArray from p) hu,RcAt.str_tuple _ _ (show s.heap.IsTuple b its.toArray from p) hu,RcNeAt.str_tuple _ _ (show s.heap.IsTuple b its.toArray from p) hu⟩
   | lst es=>
    obtain⟨b,ys,rfl,q,_,r⟩:=h2
    cases r2
    obtain⟨its,_,p,_⟩:=I.list q
    simp[eqF] at h;subst h
    exact⟨EqAt.str_list _ _ p.isList hu,RcAt.str_list _ _ p.isList hu,RcNeAt.str_list _ _ p.isList hu⟩
  | tup ds=>
   have h1':=h1
   obtain⟨a,xs,rfl,q1,rp1⟩:=h1
   cases r1
   obtain⟨its1,v1,p1,_⟩:=I.tuple q1
   have p1':s.heap.IsTuple a its1.toArray:=p1
   cases e with
   | err _ _=>exact h2.elim
   | dic _=>simp[eqF] at h
   | non=>rw[show w=.non from h2] at r2;cases r2;simp[eqF] at h;subst h;exact⟨EqAt.tuple_none p1' hu,RcAt.tuple_none p1' hu,RcNeAt.tuple_none p1' hu⟩
   | bl b=>rw[show w=.bl b from h2] at r2;cases r2;simp[eqF] at h;subst h;exact⟨EqAt.tuple_bool _ p1' hu,RcAt.tuple_bool _ p1' hu,RcNeAt.tuple_bool _ p1' hu⟩
   | int b=>rw[show w=.int b from h2] at r2;obtain⟨t,rfl⟩:=r2;simp[eqF] at h;subst h;exact⟨EqAt.tuple_int _ _ p1' hu,RcAt.tuple_int _ _ p1' hu,RcNeAt.tuple_int _ _ p1' hu⟩
   | str b=>rw[show w=.str b from h2] at r2;obtain⟨t,rfl⟩:=r2;simp[eqF] at h;subst h;exact⟨EqAt.tuple_str _ _ p1' hu,RcAt.tuple_str _ _ p1' hu,RcNeAt.tuple_str _ _ p1' hu⟩
   | tup es=>
    have h2':=h2
    obtain⟨b,ys,rfl,q2,rp2⟩:=h2
    cases r2
    obtain⟨its2,v2,p2,_⟩:=I.tuple q2
    have hk:fK n ds es=some k:=by simpa[eqF] using h
    have hv:=oE hk
    have l1:its1.toArray.size=ds.length:=by rw[Af,<-v1.length,rp1.length]
    have l2:its2.toArray.size=es.length:=by rw[Af,<-v2.length,rp2.length]
    have rc:RcAt A s (.ref a) (.ref b) k:=by
     rw[hv,<-l1,<-l2]
     exact RcAt.tuples p1' (show s.heap.IsTuple b its2.toArray from p2) hu (items rp1 rp2 v1 v2 hk)
    have rn:RcNeAt A s (.ref a) (.ref b) (!k):=by
     rw[hv,<-l1,<-l2]
     exact RcNeAt.tuples p1' (show s.heap.IsTuple b its2.toArray from p2) hu (items rp1 rp2 v1 v2 hk)
    refine⟨?_,rc,rn⟩
    by_cases hab:a=b
    . subst hab
      have:=sB I (n+1) (.tup ds) (.tup es) (.ref a) k ex ex' h1' h2' h
      subst this
      exact EqAt.same _
    . exact EqAt.of_refs hab rc
   | lst es=>
    obtain⟨b,ys,rfl,q2,_,rp2⟩:=h2
    cases r2
    obtain⟨its2,v2,p2,_⟩:=I.list q2
    simp[eqF] at h;subst h
    exact⟨EqAt.tuple_list p1' p2.isList hu,RcAt.tuple_list p1' p2.isList hu,RcNeAt.tuple_list p1' p2.isList hu⟩
  | lst ds=>
   have h1':=h1
   obtain⟨a,xs,rfl,q1,_,rp1⟩:=h1
   cases r1
   obtain⟨its1,v1,p1,_⟩:=I.list q1
   have p1':=p1.isList
   cases e with
   | err _ _=>exact h2.elim
   | dic _=>simp[eqF] at h
   | non=>rw[show w=.non from h2] at r2;cases r2;simp[eqF] at h;subst h;exact⟨EqAt.list_none p1' hu,RcAt.list_none p1' hu,RcNeAt.list_none p1' hu⟩
   | bl b=>rw[show w=.bl b from h2] at r2;cases r2;simp[eqF] at h;subst h;exact⟨EqAt.list_bool _ p1' hu,RcAt.list_bool _ p1' hu,RcNeAt.list_bool _ p1' hu⟩
   | int b=>rw[show w=.int b from h2] at r2;obtain⟨t,rfl⟩:=r2;simp[eqF] at h;subst h;exact⟨EqAt.list_int _ _ p1' hu,RcAt.list_int _ _ p1' hu,RcNeAt.list_int _ _ p1' hu⟩
   | str b=>rw[show w=.str b from h2] at r2;obtain⟨t,rfl⟩:=r2;simp[eqF] at h;subst h;exact⟨EqAt.list_str _ _ p1' hu,RcAt.list_str _ _ p1' hu,RcNeAt.list_str _ _ p1' hu⟩
   | lst es=>
    have h2':=h2
    obtain⟨b,ys,rfl,q2,_,rp2⟩:=h2
    cases r2
    obtain⟨its2,v2,p2,_⟩:=I.list q2
    have l1:its1.toArray.size=ds.length:=by rw[Af,<-v1.length,rp1.length]
    have l2:its2.toArray.size=es.length:=by rw[Af,<-v2.length,rp2.length]
    have both:RcAt A s (.ref a) (.ref b) k/\RcNeAt A s (.ref a) (.ref b) (!k):=by
     by_cases hl:ds.length=es.length
     . have hk:fK n ds es=some k:=by simpa[eqF,hl] using h
       have hv:=oE hk
       rw[<-hl,Nat.min_self,beq_self_eq_true,BV,<-l1] at hv
       rw[hv]
       exact⟨RcAt.lists p1' p2.isList (by rw[l1,l2,hl]) hu (items rp1 rp2 v1 v2 hk),RcNeAt.lists p1' p2.isList (by rw[l1,l2,hl]) hu (items rp1 rp2 v1 v2 hk)⟩
     . have hk:k=false:=by simpa[eqF,hl] using h.symm
       subst hk
       have hz:(its1.toArray.size != its2.toArray.size)=true:=by rw[l1,l2];simpa using hl
       exact⟨RcAt.lists_lengths p1' p2.isList hz hu,RcNeAt.lists_lengths p1' p2.isList hz hu⟩
    refine⟨?_,both.1,both.2⟩
    by_cases hab:a=b
    . subst hab
      have:=sB I (n+1) (.lst ds) (.lst es) (.ref a) k ex ex' h1' h2' h
      subst this
      exact EqAt.same _
    . exact EqAt.of_refs hab both.1
   | tup es=>
    obtain⟨b,ys,rfl,q2,rp2⟩:=h2
    cases r2
    obtain⟨its2,v2,p2,_⟩:=I.tuple q2
    have p2':s.heap.IsTuple b its2.toArray:=p2
    simp[eqF] at h;subst h
    exact⟨EqAt.list_tuple p1' p2' hu,RcAt.list_tuple p1' p2' hu,RcNeAt.list_tuple p1' p2' hu⟩
end
end Hp
end
noncomputable section
namespace HT
open PySem PyProof.Rows
section
open PySem.SeqAt
open PySem.AutoSeq1 (wpAny_loadPart')
open PySem.MeetsSeq PySem.MeetsSeq2 PySem.MeetsSeq3
end
section
variable {prog:Av} {w:AG} {A:AY} {E:Value->Ae->Prop} {s:Ae}
end
end HT
end
noncomputable section
namespace Hp
open PySem PySem.Spec PyProof.Rows L2 PySem.SeqAt
section
variable {X:Cx} {H:Hp}
theorem mU:∀{ds:List D} {ns:List Int} {xs:List V} {ex:Addr->Prop},fL ds=some ns->Reps X.K H ex ds xs->xs=ns.map V.int
 | [],ns,xs,ex,h,r=>by
  simp[fL] at h
  subst h
  exact r
 | d::ds,ns,xs,ex,h,r=>by
  obtain⟨x,r',z,h1,h2⟩:=r
  cases d with
  | int a=>
   rw[fL] at h
   cases q:fL ds with
   | none=>rw[q] at h;cases h
   | some ms=>
    rw[q] at h
    cases h
    rw[z,show x=.int a from h1,mU q h2]
    rfl
  | _=>simp[fL] at h
end
section
variable {X:Cx} {RT Y old:Addr->Prop} {σ:Sg} {σV:L2.St} {H:Hp} {s:Ae} {pins:List (Addr×Obj)} {Q:VK} {ux uy:V} {vx vy:Value} {x y:Vl}
theorem aAT{o:CmpOp}{k:Bool}{σV2:L2.St}(I:L2.Inv X pins σV H s)(hA:X.A.units+200<G4)(rx:bI ux vx)(ry:bI uy vy)(hx:Rv X.K RT Y old σ σV2 H x ux)(hy:Rv X.K RT Y old σ σV2 H y uy)
 (h:bL o x.d y.d=some k) (q:Q (.bl k) H):Au (A3 X.prog X.w) X.A (Bt o vx vy) (EP X pins σV Q) X.xe s:=by
 have hu:X.A.units<G4:=by omega
 have fin:EP X pins σV Q (.bool k) s:=⟨.bl k,H,I,rfl,q⟩
 have hD:rY=120:=rfl
 have go:∀{f:Value->Value->Hx Value} {r:R2},OpR X f r->r ux uy H Q->Au (A3 X.prog X.w) X.A (f vx vy) (EP X pins σV Q) X.xe s:=λhr q=>hr pins s σV H ux uy vx vy Q I rx ry q
 have e3:∀{b:Bool},eqD x.d y.d=some b->Eq3 X.A s vx vy b:=λ{b} hb=>aEg I rY X.A x.d y.d ux uy vx vy b _ _ (by omega) hx hy rx ry hb
 cases o with
 | Eq=>exact(e3 h).2.1 X.prog X.w X.xe _ fin
 | NotEq=>
  simp only[bL,AX] at h
  obtain⟨b,hb,e⟩:=h
  subst e
  exact(e3 hb).2.2 X.prog X.w X.xe _ fin
 | Lt=>
  simp only[bL] at h
  unfold ltD at h
  split at h
  . rename_i a b d1 d2
    exact go aIz ⟨a,b,hx.int d1,hy.int d2,by show Q (.bl (decide (a<b))) H;rw[Ai h];exact q⟩
  . cases h
 | Gt=>
  simp only[bL] at h
  split at h
  . rename_i a b d1 d2
    exact go aIB ⟨a,b,hx.int d1,hy.int d2,by show Q (.bl (decide (b<a))) H;rw[Ai h];exact q⟩
  . cases h
 | LtE=>
  simp only[bL] at h
  unfold leD at h
  split at h
  . rename_i a b d1 d2
    exact go aIA ⟨a,b,hx.int d1,hy.int d2,by show Q (.bl (decide (a<=b))) H;rw[Ai h];exact q⟩
  . cases h
 | GtE=>
  simp only[bL] at h
  split at h
  . rename_i a b d1 d2
    exact go aIC ⟨a,b,hx.int d1,hy.int d2,by show Q (.bl (decide (b<=a))) H;rw[Ai h];exact q⟩
  . cases h
 | Is=>
  simp only[bL] at h
  split at h
  . rename_i d2
    refine go aGf ⟨hy.non d2,?_⟩
    have:decide (ux=V.non)=k:=by
     rw[<-Ai h]
     unfold isNone
     split
     . rename_i d1;rw[hx.non d1];simp
     . rename_i d1
       refine Ao λz=>?_
       rw[z] at hx
       unfold Rv at hx
       cases q':x.d with
       | non=>exact d1 q'
       | _=>rw[q'] at hx;first|(obtain⟨a,xs,z',_⟩:=hx;cases z')|exact hx.elim|injection hx
    rw[this]
    exact q
  . cases h
 | IsNot=>
  simp only[bL] at h
  split at h
  . rename_i d2
    refine go aDO ⟨hy.non d2,?_⟩
    have:(!decide (ux=V.non))=k:=by
     rw[<-Ai h]
     unfold isNone
     split
     . rename_i d1;rw[hx.non d1];simp
     . rename_i d1
       rw[Ao λz=>?_]
       rw[z] at hx
       unfold Rv at hx
       cases q':x.d with
       | non=>exact d1 q'
       | _=>rw[q'] at hx;first|(obtain⟨a,xs,z',_⟩:=hx;cases z')|exact hx.elim|injection hx
    rw[this]
    exact q
  . cases h
 | In=>
  simp only[bL] at h
  unfold inD at h
  split at h
  . rename_i a b d1 d2
    exact go aAJ ⟨a,b,hx.str d1,hy.str d2,by rw[show(!(BZ b a 0 b.length 1).isEmpty)=k from Ai h];exact q⟩
  . cases h
 | NotIn=>
  simp only[bL,AX] at h
  obtain⟨k',h,ek⟩:=h
  subst ek
  unfold inD at h
  split at h
  . rename_i a b d1 d2
    exact go rT ⟨a,b,hx.str d1,hy.str d2,by rw[show(!(BZ b a 0 b.length 1).isEmpty)=k' from Ai h];exact q⟩
  . cases h
end
end Hp
end
noncomputable section
namespace Hp
open PySem PySem.Spec PyProof.Rows L2
theorem jX(n:Nat){d:Nat}(hd:d<=n):∀lo,sIx n d lo<=n
 | none=>hd
 | some v=>by
  unfold sIx
  dsimp only
  split <;> omega
theorem uO(lo hi:Option Int)(n:Nat):Bb lo hi 1 n=Bb (some ((sIx n 0 lo:Nat):Int)) (some ((sIx n n hi:Nat):Int)) 1 n:=by
 have h1:(1:Int)>0:=by decide
 have key:∀(d:Nat) (hd:d<=n) (o:Option Int),(match o with|none=>(d:Int)|some i=>max 0 (min (if i<0 then i+(n:Int) else i) (n:Int)))=((sIx n d o:Nat):Int):=by
  intro d hd o
  cases o with
  | none=>rfl
  | some i=>
   unfold sIx
   dsimp only
   split <;> omega
 have k2:∀(m:Nat),m<=n->max (0:Int) (min (if (m:Int)<0 then (m:Int)+(n:Int) else (m:Int)) (n:Int))=(m:Int):=by
  intro m hm
  split <;> omega
 unfold Bb
 simp only[h1,if_true]
 have e1:=key 0 (BD _) lo
 have e2:=key n (Aj _) hi
 have f1:=k2 _ (jX n (BD _) lo)
 have f2:=k2 _ (jX n (Aj _) hi)
 rw[f1,f2]
 cases lo <;> cases hi <;> simp_all
theorem pX(x:Str)(lo hi:Option Int):B7 x lo hi=xM x lo hi:=by
 have hl:x.cps.toList.length=x.length:=by show _=x.cps.size;simp
 have e:B7 x lo hi=B7 x (some ((sIx x.length 0 lo:Nat):Int)) (some ((sIx x.length x.length hi:Nat):Int)):=by
  unfold B7
  rw[uO]
 rw[e]
 unfold xM cut
 rw[hl]
 by_cases h:sIx x.length 0 lo<=sIx x.length x.length hi
 . exact StrLaws.sliceText_nat x h (jX _ (Aj _) hi)
 . have h0:sIx x.length x.length hi-sIx x.length 0 lo=0:=by omega
   have hlo:=jX x.length (BD _) lo
   have hhi:=jX x.length (Aj _) hi
   rw[h0,Ga]
   generalize sIx x.length 0 lo=i at *
   generalize sIx x.length x.length hi=j at *
   have he:Bb (some (i:Int)) (some (j:Int)) 1 x.length=[]:=by
    unfold Bb
    have h1:(1:Int)>0:=by decide
    simp only[h1,if_true]
    rw[if_neg (by omega),if_neg (by omega)]
    have a1:max (0:Int) (min (i:Int) (x.length:Int))=i:=by omega
    have a2:max (0:Int) (min (j:Int) (x.length:Int))=j:=by omega
    rw[a1,a2]
    unfold sliceRange
    simp
    omega
   unfold B7
   rw[he]
   simp
   intro hz
   omega
def aCi:V->Option Int->Option Int->L2.Hp->VK->Prop:=λx lo hi H Q=>∃a,x=.str a/\a.length<=sizeLine/\Q (.str (xM a lo hi)) H
section
variable {X:Cx}
theorem aGr:SlR X aCi:=by
 intro pins s σ H x v vl vu lo hi sl Q I rx hs pl pu h
 obtain⟨a,rfl,hz,q⟩:=h
 obtain⟨t,rfl⟩:=rx
 have fin:∀(l u:Option (Int×Tok)),l.map (·.1)=lo->u.map (·.1)=hi->s.heap.IsSlice sl l u none->Au (A3 X.prog X.w) X.A (DS (.str a t) (.ref sl)) (EP X pins σ Q) X.xe s:=by
  intro l u e1 e2 h
  refine wpAny_getItem_str_slice h rfl ?_
  have e:B7 a lo hi=xM a lo hi:=pX a lo hi
  unfold B7 at e
  subst e1 e2
  show Made.post (if ((1:Int)==1&&(Bb (l.map (·.1)) (u.map (·.1)) 1 a.length).length==a.length)=true then _ else _) _ s
  split
  . rename_i hc
    rw[if_pos hc] at e
    exact⟨.str a,H,I,⟨t,rfl⟩,by rw[e];exact q⟩
  . rename_i hc
    rw[if_neg hc] at e
    have hle:(xM a (l.map (·.1)) (u.map (·.1))).length<=sizeLine:=by
     refine AW ?_ hz
     show(cut a.cps.toList _ _).toArray.size<=a.cps.size
     unfold cut
     rw[Af,BE,C0,B9]
     omega
    refine⟨by rw[<-e] at hle;exact hle,.str (xM a (l.map (·.1)) (u.map (·.1))),H,I.tok _,?_,q⟩
    rw[<-e]
    exact⟨_,rfl⟩
 refine⟨"str",_,Fo.lookup,rfl,?_⟩
 cases pl with
 | none=>
  cases pu with
  | none=>exact fin none none rfl rfl hs
  | int j tj=>exact fin none (some (j,tj)) rfl rfl hs
 | int i ti=>
  cases pu with
  | none=>exact fin (some (i,ti)) none rfl rfl hs
  | int j tj=>exact fin (some (i,ti)) (some (j,tj)) rfl rfl hs
end
theorem aKK(a b:Str):(a++b).length=a.length+b.length:=by
 show(a.cps++b.cps).size=_
 rw[Fc];rfl
section
variable {X:Cx} {pins:List (Addr×Obj)} {σ:L2.St} {H:Hp} {s:Ae}
end
section
variable {X:Cx} {RT Y old:Addr->Prop} {σ:Sg} {σV:L2.St} {H:Hp} {s:Ae} {pins:List (Addr×Obj)} {Q:VK} {ux uy:V} {vx vy:Value} {x y:Vl}
theorem oF(n:Nat)(k:Int):Hp.ixN n k=L2.ixN n k:=rfl
theorem Rv.ofSub{d:D}{u:V}(h:Rep X.K H (exV RT Y old σ σV x.pa x.al) d u):Ro X.K RT Y old σ σV H H (x.sub d) u:=by
 refine Ro.plain (aL.refl H) ?_ (Rv.sub (ds:=[]) (xs:=[]) (j:=0) h)
 unfold Vl.sub Vl.cl
 split <;> rfl
theorem qU(t:Tk X.K H)(hx:Rv X.K RT Y old σ σV H x ux)(hy:Rv X.K RT Y old σ σV H y uy)(h:RE (cG x y) (Wn X RT Y old σ σV H Q)):rIx X.K ux uy H (λv H'=>Tk X.K H'->Q v H'):=by
 unfold cG at h
 split at h
 . rename_i ds k d1 d2
   obtain⟨a,xs,e,q,_,r⟩:=hx.lst d1
   cases hj:Hp.ixN ds.length k with
   | none=>rw[hj] at h;exact h.elim
   | some j=>
    rw[hj] at h
    cases hd:ds[j]? with
    | none=>simp only[hd] at h;exact h.elim
    | some d=>
     simp only[hd] at h
     obtain⟨v,hv,rv⟩:=r.get hd
     refine .inl ⟨a,xs,k,v,e,hy.int d2,q,?_,λt'=>h v H t' (Rv.ofSub rv)⟩
     unfold atI
     rw[<-r.length,<-oF,hj]
     exact hv
 . rename_i ds k d1 d2
   obtain⟨a,xs,e,q,r⟩:=hx.tup d1
   cases hj:Hp.ixN ds.length k with
   | none=>rw[hj] at h;exact h.elim
   | some j=>
    rw[hj] at h
    cases hd:ds[j]? with
    | none=>simp only[hd] at h;exact h.elim
    | some d=>
     simp only[hd] at h
     obtain⟨v,hv,rv⟩:=r.get hd
     refine .inr (.inl ⟨a,xs,k,v,e,hy.int d2,q,?_,λt'=>h v H t' (Rv.ofSub rv)⟩)
     unfold atI
     rw[<-r.length,<-oF,hj]
     exact hv
 . rename_i z k d1 d2
   obtain⟨c,h⟩:=h.iff
   have c':=of_decide_eq_true c
   cases hj:Hp.ixN z.length k with
   | none=>rw[hj] at h;exact h.elim
   | some j=>
    rw[hj] at h
    cases hd:z.cps.toList[j]? with
    | none=>simp only[hd] at h;exact h.elim
    | some c=>
     simp only[hd] at h
     refine .inr (.inr ⟨z,k,c,hx.str d1,hy.int d2,eF c',?_,λt'=>Wn.val h t' λ_=>rfl⟩)
     unfold atI
     have hl:z.cps.toList.length=z.length:=by simp[FT]
     rw[hl,<-oF,hj]
     exact hd
 . exact h.elim
theorem sC(n d:Nat)(o:Option Int):Hp.sIx n d o=HT.sIx n d o:=by cases o <;> rfl
theorem uP{K:Fg}{ex:Addr->Prop}{ds:List D}{xs:List V}(r:Reps K H ex ds xs)(lo hi:Option Int):Reps K H ex (cut ds lo hi) (uE xs lo hi):=by
 unfold cut uE
 rw[sC,sC,r.length]
 exact(r.drop _).take _
theorem jA{prog:Av}{w:AG}{A:AY}{E:Value->Ae->Prop}{t sl:Addr}{items:Array Value}{vl vu:Value}{lo hi:Option Int}{Q:Value->Ae->Prop}(ht:IsTup s.heap t items)(hs:s.heap.IsSliceOf sl vl vu .none)(pl:DR vl lo)(pu:DR vu hi)
 (hw:HT.sIx items.size 0 lo=0/\HT.sIx items.size items.size hi=items.size) (h:Q (.ref t) s):Au (A3 prog w) A (DS (.ref t) (.ref sl)) Q E s:=by
 obtain⟨os,hos,hcs,hds⟩:=id hs
 have hTs:s.TypeIs (.ref sl) "slice" := ⟨os,hos,hcs⟩
 unfold DS
 try with_reducible refine CV ?_
 first|refine Aa (Ar ?_)|skip
 refine Aa (EW ht.typeIs (by decide) ?_)
 refine Aa (AU (name:=Ci "__getitem__") ht.typeIs AR
  (Bu AR ht.typeIs Ez ?_ (EE _ _)))
 show Au _ _ (Dt (.ref t) >>= _) _ _ s
 refine Aa (Gq ht ?_)
 refine Aa (EX hTs ?_)
 rw[if_pos (by decide)]
 refine Aa (HT.sliceApplied_gen hs pl pu ?_)
 have hyes:(((HT.sIx items.size 0 lo:Nat):Int)==0&&(1:Int)==1&&(HT.sIx items.size items.size hi-HT.sIx items.size 0 lo)==items.size)=true:=by
  rw[hw.1,hw.2]
  simp
 show Au _ _ (if (((HT.sIx items.size 0 lo:Nat):Int)==0&&(1:Int)==1&&(HT.sIx items.size items.size hi-HT.sIx items.size 0 lo)==items.size)=true then _ else _) _ _ s
 rw[if_pos hyes]
 unfold Gb
 refine Aa (Aa (EX ht.typeIs (Ar ?_)))
 rw[if_pos (beq_self_eq_true _)]
 exact Aa (DY (Ar ⟨_,rfl,Ar h⟩))
def uQ(K:Fg):V->Option Int->Option Int->Hp->VK->Prop:=λx lo hi H Q=>∃a xs,x=.ref a/\SqT K H a xs/\(HT.sIx xs.length 0 lo=0/\HT.sIx xs.length xs.length hi=xs.length)/\Q (.ref a) H
theorem aEh:SlR X (uQ X.K):=by
 intro pins s σ H x v vl vu lo hi sl Q I rx hs pl pu h
 obtain⟨a,xs,rfl,hx,hw,q⟩:=h
 cases rx
 obtain⟨its,r,ht,hz⟩:=I.tuple hx
 have hlen:its.toArray.size=xs.length:=by rw[Af];exact r.length.symm
 refine⟨"tuple",_,AR.lookup,ht.typeIs,?_⟩
 exact jA ht hs pl pu (by rw[hlen];exact hw) ⟨.ref a,H,I,rfl,q⟩
theorem aGs:SlR X (λx lo hi H Q=>aBW X.K x lo hi H Q\/aBU X.K x lo hi H Q\/uQ X.K x lo hi H Q\/aCi x lo hi H Q):=aDW.or (aGi.or (aEh.or aGr))
theorem aAU{α:Type}{xs:List α}{lo hi:Option Int}(h1:Hp.sIx xs.length 0 lo=0)(h2:Hp.sIx xs.length xs.length hi=xs.length):cut xs lo hi=xs:=by
 unfold cut
 rw[h1,h2,List.drop_zero,GE,Ca]
theorem aAV{lo hi:Option Int}(S:Sx X.K RT Y old σ σV H)(t:Tk X.K H)(hx:Rv X.K RT Y old σ σV H x ux)(h:RE (eE x lo hi) (Wn X RT Y old σ σV H Q)) :
 aBW X.K ux lo hi H (λv H'=>Tk X.K H'->Q v H')\/aBU X.K ux lo hi H (λv H'=>Tk X.K H'->Q v H')\/uQ X.K ux lo hi H (λv H'=>Tk X.K H'->Q v H')\/aCi ux lo hi H (λv H'=>Tk X.K H'->Q v H'):=by
 unfold eE at h
 split at h
 . rename_i ds d1
   obtain⟨a,xs,e,q,_,r⟩:=hx.lst d1
   refine .inl ⟨a,xs,e,q,λp hp t'=>h _ _ t' (Ro.fresh hp t' rfl rfl S ?_)⟩
   exact uP (dX r) lo hi
 . rename_i ds d1
   obtain⟨a,xs,e,q,r⟩:=hx.tup d1
   have r':=dX r
   by_cases hw:HT.sIx xs.length 0 lo=0/\HT.sIx xs.length xs.length hi=xs.length
   . refine .inr (.inr (.inl ⟨a,xs,e,q,hw,λt'=>h _ _ t' (Ro.plain (aL.refl H) rfl ?_)⟩))
     have e':cut ds lo hi=ds:=aAU (by rw[sC,r.length];exact hw.1) (by rw[sC,r.length];exact hw.2)
     unfold Rv
     show Rep X.K H _ (.tup (cut ds lo hi)) (.ref a)
     rw[e']
     exact⟨a,xs,rfl,q,r'⟩
   . exact .inr (.inl ⟨a,xs,e,q,hw,λp hp t'=>h _ _ t' (Ro.tup hp rfl rfl (uP r' lo hi))⟩)
 . rename_i a d1
   obtain⟨hl,h⟩:=h.iff
   have e:ux=.str a:=by
    have z:=hx
    unfold Rv at z
    rw[d1] at z
    exact z
   exact .inr (.inr (.inr ⟨a,e,eF (of_decide_eq_true hl),λt'=>h _ _ t' (Ro.cl (aL.refl H) rfl)⟩))
 . exact h.elim
theorem jY:∀{ds:List D} {bs:List Bool} {xs:List V} {ex:Addr->Prop},cM ds=some bs->Reps X.K H ex ds xs->xs=bs.map V.bl
 | [],bs,xs,ex,h,r=>by
  simp[cM] at h
  subst h
  exact r
 | .bl a::ds,bs,xs,ex,h,r=>by
  obtain⟨x,r',z,h1,h2⟩:=r
  rw[cM] at h
  cases q:cM ds with
  | none=>rw[q] at h;cases h
  | some ms=>
   rw[q] at h
   cases h
   rw[z,show x=.bl a from h1,jY q h2]
   rfl
 | .non::ds,ns,xs,ex,h,r=>by simp[cM] at h
 | .int _::ds,ns,xs,ex,h,r=>by simp[cM] at h
 | .str _::ds,ns,xs,ex,h,r=>by simp[cM] at h
 | .tup _::ds,ns,xs,ex,h,r=>by simp[cM] at h
 | .lst _::ds,ns,xs,ex,h,r=>by simp[cM] at h
 | .dic _::ds,ns,xs,ex,h,r=>by simp[cM] at h
 | .err _ _::ds,ns,xs,ex,h,r=>by simp[cM] at h
theorem aAW:∀{bs:List Bool} {us:List Value},aV (bs.map V.bl) us->us=bs.map CN:=by
 intro bs
 induction bs with
 | nil=>intro us r;rw[mN] at r;cases r;rfl
 | cons b bs ih=>
  intro us r
  rw[mC] at r
  cases r with
  | cons r1 r2=>
   rw[show _=CN b from r1,ih r2]
   rfl
theorem xS(bs:List Bool):((AO bs.length).all λi=>(bs[i]?).getD true)=bs.all id:=by
 rw[F9]
 simp only[Az,FI,id]
 constructor
 . intro h b hb
   obtain⟨i,hi⟩:=List.getElem?_of_mem hb
   have:=h i (Aw.mp hi).1
   rw[hi] at this
   simpa using this
 . intro h i hi
   have e:=Am hi
   rw[e]
   exact h _ (A9 hi)
theorem aAX(hc:X.calm=true):eZ X (.builtin "all") (λxs H Q=>∃(p:Addr) (bs:List Bool),xs=[.ref p]/\SqL X.K H p (bs.map V.bl)/\Q (.bl (bs.all id)) H):=by
 intro pins s σ H xs us Q I r h
 obtain⟨p,bs,rfl,hq,q⟩:=h
 obtain⟨u,rfl,rx⟩:=qF r
 cases rx
 obtain⟨its,rv,pl,hz⟩:=I.list hq
 have hit:=aAW rv
 subst hit
 have hl:=pl.isList
 have hlt:p<s.heap.objs.size:=pl.lt
 refine call_all_walk (Cv hl ?_)
 refine⟨s.heap.objs.size,[s.heap.objs.size,p],[s.heap.objs.size],(bs.map CN).toArray.size,_,_,λi=>(bs[i]?).getD true,rfl,Hi (A:=X.A.in1) (I.ok.hd hc) _ p (A6 hlt) _,
  ⟨⟨_,As _ rfl,rfl,rfl⟩,hl.push _⟩,λi v s' Q' E' hP hQ=>?_,λh' tk hk=>?_⟩
 . have hP':bs[i]?.map CN=some v:=by simpa using hP
   cases e:bs[i]? with
   | none=>rw[e] at hP';cases hP'
   | some b=>
    rw[e] at hP'
    cases hP'
    simp only[e,DD] at hQ
    exact Bq hQ
 . have e:((AO (bs.map CN).toArray.size).all λi=>(bs[i]?).getD true)=bs.all id:=by
    rw[Af,lM];exact xS bs
   rw[e]
   refine⟨.bl _,H,I.kept (t':=tk) λb o e'=>hk b o ?_ (Ab _ e'),rfl,q⟩
   intro hm
   rw[A5.mp hm] at e'
   exact AM _ (An e')
theorem zP:∀{ns:List Int} {us:List Value},aV (ns.map V.int) us->ns.length=us.length/\∀(i:Nat) (v:Value),us[i]? = some v->∃t,v=.int ((ns[i]?).getD 0) t
 | [],us,r=>by
  rw[mN] at r
  cases r
  exact⟨rfl,λi v e=>by simp at e⟩
 | n::ns,us,r=>by
  rw[mC] at r
  cases r with
  | cons r1 r2=>
   obtain⟨t,e⟩:=r1
   obtain⟨h1,h2⟩:=zP r2
   refine⟨by simp[h1],λi v q=>?_⟩
   cases i with
   | zero=>cases q;exact⟨t,e⟩
   | succ i=>exact h2 i v q
theorem mV:∀(ns:List Int) (k:Nat),k<=ns.length->preSum (λi=>(ns[i]?).getD 0) k=(ns.take k).sum
 | ns,0,_=>by rw[Ga];rfl
 | ns,k+1,h=>by
  rw[CL (by omega),Ee,<-mV ns k (by omega)]
  show preSum _ k+(ns[k]?).getD 0=_
  rw[Am (by omega)]
  simp
theorem aAY(hc:X.calm=true):eZ X (.builtin "sum") (λxs H Q=>∃(p:Addr) (ns:List Int),xs=[.ref p]/\SqL X.K H p (ns.map V.int)/\Q (.int ns.sum) H):=by
 intro pins s σ H xs us Q I r h
 obtain⟨p,ns,rfl,hq,q⟩:=h
 obtain⟨u,rfl,rx⟩:=qF r
 cases rx
 obtain⟨its,rv,pl,hz⟩:=I.list hq
 obtain⟨hn,hv⟩:=zP rv
 have hl:=pl.isList
 have hlt:p<s.heap.objs.size:=pl.lt
 refine call_sum_walkAnyS (Cv hl ?_)
 refine⟨s.heap.objs.size,[s.heap.objs.size,p],[s.heap.objs.size],_,its.toArray.size,_,_,λi=>(ns[i]?).getD 0,rfl,(Hi (A:=X.A.in1) (I.ok.hd hc) _ p (A6 hlt) _).toS,
  ⟨⟨_,As _ rfl,rfl,rfl⟩,hl.push _⟩,λb hb=>?_,λi v hP=>hv i v (by simpa using hP),λs' tk hk=>?_⟩
 . show b<(s.heap.push _).objs.size
   rw[Be]
   rcases AD.mp hb with rfl|hb
   . exact Bk _
   . rw[A5.mp hb];exact BP hlt
 . rw[Af,<-hn,mV ns _ (Aj _),Ca]
   have e:s'={ s with heap:=s'.heap,toks:=s'.toks }:=by
    obtain⟨h',g',d',tk',os'⟩:=s'
    have e1:g'=_:=hk.gens
    have e2:d'=_:=hk.drawn
    have e3:os'=_:=hk.os
    subst e1 e2 e3
    rfl
   rw[e]
   refine⟨.int _,H,I.kept (t':=s'.toks) λb o e'=>hk.heap b o ?_ (Ab _ e'),⟨_,rfl⟩,q⟩
   intro hm
   rw[A5.mp hm] at e'
   exact AM _ (An e')
def rBi(X:Cx)(b:Bi):List V->Hp->VK->Prop:=match b with
 | .len=>λxs H Q=>(∃p ys,xs=[.ref p]/\(SqL X.K H p ys\/SqT X.K H p ys)/\Q (.int ys.length) H)\/∃z,xs=[.str z]/\z.length<=sizeLine/\Q (.int z.length) H
 | .list=>λxs H Q=>∃p ys,xs=[.ref p]/\(SqL X.K H p ys\/SqT X.K H p ys)/\∀l,H l=none->Q (.ref l) (upd H l (.lst ys))
 | .tuple=>λxs H Q=>∃p ys,xs=[.ref p]/\((SqL X.K H p ys/\∀l,H l=none->Q (.ref l) (upd H l (.tup ys)))\/(SqT X.K H p ys/\Q (.ref p) H))
 | .min=>λxs H Q=>∃i j,xs=[.int i,.int j]/\Q (.int (if j<i then j else i)) H
 | .sum=>λxs H Q=>∃(p:Addr) (ns:List Int),xs=[.ref p]/\SqL X.K H p (ns.map V.int)/\Q (.int ns.sum) H
 | .all=>λxs H Q=>∃(p:Addr) (bs:List Bool),xs=[.ref p]/\SqL X.K H p (bs.map V.bl)/\Q (.bl (bs.all id)) H
 | _=>λ_ _ _=>False
def aFu:Bi->Value
 | .len=>.builtin "len" | .list=>.type "list" | .tuple=>.type "tuple" | .min=>.builtin "min" | .max=>.builtin "max" | .abs=>.builtin "abs" | .int=>.type "int" | .str=>.type "str"
 | .all=>.builtin "all" | .any=>.builtin "any" | .sum=>.builtin "sum" | .sorted=>.builtin "sorted" | .bool=>.type "bool" | .repr=>.builtin "repr"
theorem aEi(hc:X.calm=true)(hg:X.A.guards=some [])(hu:X.A.units+200<G4)(b:Bi)(hb:aCe b=true):eZ X (aFu b) (rBi X b):=by
 cases b with
 | len=>exact rV.or rW
 | list=>exact rX
 | tuple=>exact pW
 | min=>exact aAK hc
 | all=>exact aAX hc
 | sum=>exact aAY hc
 | _=>cases hb
theorem aCj{b:Bi}(hb:aCe b=true)(S:Sx X.K RT Y old σ σV H){vs:List Vl}{us:List V}(hv:Rvs X.K RT Y old σ σV H vs us)(h:RE (biD b vs) (Wn X RT Y old σ σV H Q)) :
 rBi X b us H (λv H'=>Tk X.K H'->Q v H'):=by
 unfold biD at h
 split at h
 . rename_i x
   obtain⟨u,r,e,hx,hr⟩:=hv
   rw[show r=[] from hr] at e
   subst e
   cases b with
   | len=>
    dsimp only[aAO] at h
    split at h
    . rename_i ds d1
      obtain⟨a,xs,e,q,_,r⟩:=hx.lst d1
      exact .inl ⟨a,xs,by rw[e],.inl q,λt'=>by rw[<-r.length];exact Wn.val h t' λ_=>rfl⟩
    . rename_i ds d1
      obtain⟨a,xs,e,q,r⟩:=hx.tup d1
      exact .inl ⟨a,xs,by rw[e],.inr q,λt'=>by rw[<-r.length];exact Wn.val h t' λ_=>rfl⟩
    . rename_i z d1
      obtain⟨c,h⟩:=h.iff
      exact .inr ⟨z,by rw[hx.str d1],eF (of_decide_eq_true c),λt'=>Wn.val h t' λ_=>rfl⟩
    . exact h.elim
   | list=>
    dsimp only[aAO] at h
    split at h
    . rename_i ds d1
      obtain⟨a,xs,e,q,_,r⟩:=hx.lst d1
      exact⟨a,xs,by rw[e],.inl q,λp hp t'=>h _ _ t' (Ro.fresh hp t' rfl rfl S (dX r))⟩
    . rename_i ds d1
      obtain⟨a,xs,e,q,r⟩:=hx.tup d1
      exact⟨a,xs,by rw[e],.inr q,λp hp t'=>h _ _ t' (Ro.fresh hp t' rfl rfl S (dX r))⟩
    . exact h.elim
   | tuple=>
    dsimp only[aAO] at h
    split at h
    . rename_i ds d1
      obtain⟨a,xs,e,q,_,r⟩:=hx.lst d1
      exact⟨a,xs,by rw[e],.inl ⟨q,λp hp t'=>h _ _ t' (Ro.tup hp rfl rfl (dX r))⟩⟩
    . rename_i ds d1
      obtain⟨a,xs,e,q,r⟩:=hx.tup d1
      exact⟨a,xs,by rw[e],.inr ⟨q,λt'=>h _ _ t' (Ro.plain (aL.refl H) rfl ⟨a,xs,rfl,q,r⟩)⟩⟩
    . exact h.elim
   | abs=>cases hb
   | int=>cases hb
   | str=>cases hb
   | all=>
    dsimp only[aAO] at h
    split at h
    . rename_i ds d1
      obtain⟨a,xs,e,q,_,r⟩:=hx.lst d1
      split at h
      . rename_i bs hbs
        rw[jY hbs r] at q
        exact⟨a,bs,by rw[e],q,λt'=>Wn.val h t' λ_=>rfl⟩
      . exact h.elim
    . exact h.elim
   | repr=>cases hb
   | bool=>cases hb
   | sum=>
    dsimp only[aAO] at h
    split at h
    . rename_i ds d1
      obtain⟨a,xs,e,q,_,r⟩:=hx.lst d1
      split at h
      . rename_i ns hns
        rw[mU hns r] at q
        exact⟨a,ns,by rw[e],q,λt'=>Wn.val h t' λ_=>rfl⟩
      . exact h.elim
    . exact h.elim
   | any=>cases hb
   | sorted=>cases hb
   | min=>exact h.elim
   | max=>exact h.elim
 . rename_i x y
   obtain⟨u,r,e,hx,u',r',e',hy,hr⟩:=hv
   rw[show r'=[] from hr] at e'
   subst e' e
   cases b with
   | min=>
    dsimp only[aIQ] at h
    split at h
    . rename_i i j d1 d2
      exact⟨i,j,by rw[hx.int d1,hy.int d2],λt'=>Wn.val h t' λ_=>rfl⟩
    . exact h.elim
   | max=>cases hb
   | _=>exact h.elim
 . exact h.elim
def uR:Cl->Option Value
 | .tInt=>some (.type "int")|.tBool=>some (.type "bool")|.tStr=>some (.type "str")|.tList=>some (.type "list")|.tTuple=>some (.type "tuple")|.tDict=>some (.type "dict")
 | _=>none
def tyD:D->Option String
 | .non=>some "NoneType" | .bl _=>some "bool" | .int _=>some "int" | .str _=>some "str" | .tup _=>some "tuple" | .lst _=>some "list" | .dic _=>some "dict" | .err _ _=>none
theorem gF(K:Fg)(P:Pg){c:Cl}{cv:Value}{d:D}{k:Bool}{T:String}(hc:uR c=some cv)(hT:tyD d=some T)(h:isI [c] P d=some k):PySem.W.kitOne K (.type T) cv=some k:=by
 cases c with
 | own c=>cases hc
 | tValueError=>cases hc
 | tInt=>cases hc;cases d <;> cases hT <;> simp[isI] at h <;> subst h <;> kernel_rfl
 | tBool=>cases hc;cases d <;> cases hT <;> simp[isI] at h <;> subst h <;> kernel_rfl
 | tStr=>cases hc;cases d <;> cases hT <;> simp[isI] at h <;> subst h <;> kernel_rfl
 | tList=>cases hc;cases d <;> cases hT <;> simp[isI] at h <;> subst h <;> kernel_rfl
 | tTuple=>cases hc;cases d <;> cases hT <;> simp[isI] at h <;> subst h <;> kernel_rfl
 | tDict=>cases hc;cases d <;> cases hT <;> simp[isI] at h <;> subst h <;> kernel_rfl
theorem aAZ(P:Pg){c:Cl}{cv:Value}{k:Bool}(I:L2.Inv X pins σV H s)(rx:bI ux vx)(hx:Rv X.K RT Y old σ σV H x ux)(hc:uR c=some cv)(h:isI [c] P x.d=some k)(q:Q (.bl k) H) :
 Au (A3 X.prog X.w) X.A (FX (.builtin "isinstance") [vx,cv]) (EP X pins σV Q) X.xe s:=by
 have fin:∀tk,EP X pins σV Q (.bool k) { s with toks:=tk }:=λtk=>⟨.bl k,H,I.tok tk,rfl,q⟩
 cases d:x.d with
 | non=>
  have e:=gF X.K P hc (by rw[d];rfl) h
  rw[hx.non d] at rx;cases rx
  exact BN PySem.W.kitx_none I.kIn EI e (λz=>nomatch z) fin
 | bl b=>
  have e:=gF X.K P hc (by rw[d];rfl) h
  rw[hx.bl d] at rx;cases rx
  exact BN PySem.W.kitx_bool I.kIn EI e (λz=>nomatch z) fin
 | int i=>
  have e:=gF X.K P hc (by rw[d];rfl) h
  rw[hx.int d] at rx;obtain⟨t,rfl⟩:=rx
  exact BN PySem.W.kitx_int I.kIn EI e (λz=>nomatch z) fin
 | str z=>
  have e:=gF X.K P hc (by rw[d];rfl) h
  rw[hx.str d] at rx;obtain⟨t,rfl⟩:=rx
  exact BN PySem.W.kitx_str I.kIn EI e (λz=>nomatch z) fin
 | tup ds=>
  have e:=gF X.K P hc (by rw[d];rfl) h
  obtain⟨a,xs,e1,p,_⟩:=hx.tup d
  subst e1
  cases rx
  obtain⟨its,_,t,_⟩:=I.tuple p
  obtain⟨o,h1,h2,_⟩:=t
  exact BN PySem.W.kitx_tuple I.kIn ⟨o,h1,h2⟩ e (λz=>nomatch z) fin
 | lst ds=>
  have e:=gF X.K P hc (by rw[d];rfl) h
  obtain⟨a,xs,e1,p,_⟩:=hx.lst d
  subst e1
  cases rx
  obtain⟨its,_,t,_⟩:=I.list p
  obtain⟨o,n,h1,h2,_⟩:=t
  exact BN PySem.W.kitx_list I.kIn ⟨o,h1,h2⟩ e (λz=>nomatch z) fin
 | dic kvs=>
  have e:=gF X.K P hc (by rw[d];rfl) h
  unfold Rv at hx
  rw[d] at hx
  obtain⟨a,ks,e1,p,_⟩:=hx
  subst e1
  cases rx
  obtain⟨_,_,vs,_,o,es,ep,h1,h2,_⟩:=(show dZ X.prog X.w H s.heap a (.dK ks) from I.hok a _ p)
  exact BN PySem.W.kitx_dict I.kIn ⟨o,h1,h2.1⟩ e (λz=>nomatch z) fin
 | err _ _=>
  unfold Rv at hx
  rw[d] at hx
  exact hx.elim
end
def qV(prog:Av)(w:AG)(K:Fg)(a:Addr)(t:List (Str×D)):Prop:=(a==Dm)=false/\∃vs:List (Key×Value),(∀h:Heap,K.In h->h.DictOf (eY prog w) a vs) /\
 ∀k:Str,(t.lookup k=none/\DZ vs (Bp k:Key)=none)\/∃d u v,t.lookup k=some d/\DZ vs (Bp k:Key)=some u/\bI v u/\∀(H:Hp) (ex:Addr->Prop),Rep K H ex d v
section
variable {X:Cx}
theorem aEj{a:Addr}{t:List (Str×D)}{x:Str}{p ap cp:BX}{e:Ah}{te:TE}(T:qV X.prog X.w X.K a t)(hg:Gl X x)(hm:X.mg x=some (.ref a))(hd:(x==("__debug__" : Str))=false)(he:PE X e te)(hline:(ap.endLine==cp.line)=true)
 (hs:AN [e] X.env=[(false,C3 e X.env)]) :
 PE X (.Call (.Attribute (.Name x p) "get" ap) [e] [] cp) (λσ H Q=>te σ H λu H1=>∃k,u=.str k/\∀v,(∀(H:Hp) (ex:Addr->Prop),Rep X.K H ex ((t.lookup k).getD .non) v)->Q v H1):=by
 intro pins s σ H Q I h
 obtain⟨hsys,vs,dict,look⟩:=T
 refine DU rfl (by rw[hs];rfl) hline rfl (thn (zD (v:=.ref a) hg hm rfl hd pins s σ H (λv H1=>v=.ref a/\H1=H) I ⟨rfl,rfl⟩) λv s1 ⟨y,H1,I1,r1,e1,e2⟩=>?_)
 subst e1 e2
 obtain rfl:v=CO a:=r1
 have dd:=dict s1.heap I1.kIn
 refine⟨"dict", "dict.get",PySem.F.plainAttrs_dict,El,PySem.F.type_dict_get,dd.typeIs,λb q=>?_,?_⟩
 . cases q
   obtain⟨ob,_,_,h1,h2,_⟩:=dd
   exact⟨ob,h1,h2.2.1⟩
 . have hA:=(bX he dO hs) cp pins s1 σ H1 (λus H2=>match us with|[u]=>(∃k,u=.str k/\∀v,(∀(H:Hp) (ex:Addr->Prop),Rep X.K H ex ((t.lookup k).getD .non) v)->Q v H2)|_=>False) I1 h
   rw[hs] at hA ⊢
   refine CK rfl (Eo ?_)
   refine thn hA λus s2 ⟨xs,H2,I2,r2,q2⟩=>?_
   match xs,r2,q2 with
   | [y],.cons ry .nil,q2=>
    obtain⟨k,ey,q2⟩:=q2
    subst ey
    obtain⟨tk,rfl⟩:=ry
    have dd2:=dict s2.heap I2.kIn
    refine call_meetsIn El dd2.typeIs PySem.F.entry_dict_get (PySem.F.args_dict_get_2 _ _) (meets_dict_get (eY X.prog X.w) a (k:=(Bp k:Key)) (pZ k tk) hsys) ⟨_,dd2.mapOf,?_⟩
    rcases look k with⟨l1,l2⟩|⟨d,u,v,l1,l2,rv,rep⟩
    . rw[l2]
      refine⟨.non,H2,I2.tok _,rfl,q2 .non λH ex=>?_⟩
      rw[l1]
      rfl
    . rw[l2]
      refine⟨v,H2,I2.tok _,rv,q2 v λH ex=>?_⟩
      rw[l1]
      exact rep H ex
end
end Hp
end
noncomputable section
namespace L2
open PySem PySem.Spec PyProof.Rows
def jB(cells:List (Str×Addr)):List (Str×B2)->List (Str×Addr)->List (Str×Addr)
 | [],acc=>acc
 | (n,k)::r,acc=>if k==.free then jB cells r ((n,(cells.lookup n).getD 0)::acc) else jB cells r acc
theorem clos_mem{cells:List (Str×Addr)}:∀{names:List (Str×B2)} {acc:List (Str×Addr)} {p:Str×Addr},p∈jB cells names acc->p∈acc\/((p.1,AE)∈names/\p.2=(cells.lookup p.1).getD 0)
 | [],_,_,h=>.inl h
 | (n,k)::r,acc,p,h=>by
  unfold jB at h
  by_cases hk:(k==AE)=true
  . rw[if_pos hk] at h
    rcases clos_mem h with q|q
    . rcases AD.mp q with q|q
      . subst q
        have:k=.free:=eq_of_beq hk
        subst this
        exact .inr ⟨Aq,rfl⟩
      . exact .inl q
    . exact .inr ⟨Ag _ q.1,q.2⟩
  . rw[if_neg hk] at h
    rcases clos_mem h with q|q
    . exact .inl q
    . exact .inr ⟨Ag _ q.1,q.2⟩
theorem oG{cells:List (Str×Addr)}:∀{names:List (Str×B2)} {acc:List (Str×Addr)} {p:Str×Addr},p∈acc->p∈jB cells names acc
 | [],_,_,h=>h
 | (n,k)::r,acc,p,h=>by
  unfold jB
  by_cases hk:(k==AE)=true
  . rw[if_pos hk];exact oG (Ag _ h)
  . rw[if_neg hk];exact oG h
theorem jZ{cells:List (Str×Addr)}:∀{names:List (Str×B2)} {acc:List (Str×Addr)} {n:Str},(n,AE)∈names->(n,(cells.lookup n).getD 0)∈jB cells names acc
 | [],_,_,h=>by simp at h
 | (m,k)::r,acc,n,h=>by
  unfold jB
  rcases AD.mp h with q|q
  . cases q
    rw[if_pos (by rfl:(AE==AE)=true)]
    exact oG Aq
  . by_cases hk:(k==AE)=true
    . rw[if_pos hk];exact jZ q
    . rw[if_neg hk];exact jZ q
theorem eG{α:Type}:∀{l:List (Str×α)} {x:Str} {a:α},(x,a)∈l->∃b,l.lookup x=some b
 | (y,b)::r,x,a,h=>by
  rw[DE]
  cases hx:x==y with
  | true=>exact⟨b,rfl⟩
  | false=>
   rcases AD.mp h with q|q
   . cases q
     simp at hx
   . exact eG q
theorem cH{cells:List (Str×Addr)}{names:List (Str×B2)}(hh:∀n,(n,AE)∈names->∃c,cells.lookup n=some c){x:Str}{c:Addr}(h:(jB cells names []).lookup x=some c):cells.lookup x=some c:=by
 rcases clos_mem (Bg h) with q|⟨q1,q2⟩
 . simp at q
 . obtain⟨c',e⟩:=hh x q1
   simp only at q2
   rw[e] at q2
   rw[e,q2];rfl
theorem gO{scope:Cu}{env:Go}(hh:∀n,(n,AE)∈scope.names->∃c,env.cells.lookup n=some c):closureFor scope env=pure (jB env.cells scope.names []):=by
 have go:∀(l:List (Str×B2)) (acc:List (Str×Addr)),(∀n,(n,AE)∈l->∃c,env.cells.lookup n=some c) ->
  (forIn l acc (λ(x:Str×B2) (r:List (Str×Addr))=>(match x with|(name,kind)=>if (kind==AE)=true then do let __do_lift<-cellOf env name;pure (Co ((name,__do_lift)::r)) else pure (Co r):Hx (ForInStep (List (Str×Addr))))))=(pure (jB env.cells l acc):Hx (List (Str×Addr))):=by
  intro l
  induction l with
  | nil=>intro acc _;rfl
  | cons p r ih=>
   intro acc hl
   obtain⟨n,k⟩:=p
   rw[Ef]
   unfold jB
   by_cases hk:(k==AE)=true
   . have:k=.free:=eq_of_beq hk
     subst this
     obtain⟨c,e⟩:=hl n Aq
     have e':cellOf env n=pure c:=by unfold cellOf;rw[e]
     simp only[beq_self_eq_true,if_true,e']
     rw[e]
     exact ih _ λm hm=>hl m (Ag _ hm)
   . simp only[hk,if_false]
     exact ih _ λm hm=>hl m (Ag _ hm)
 unfold closureFor
 exact(bind_pure _).trans (go scope.names [] hh)
section
variable {prog:Av} {w:AG} {A:AY} {R:FN->Ae->Prop} {s:Ae}
theorem iE{elt target iter:Ah}{ifs:List Ah}{scope:Cu}{pos:BX}{it acc:Value}{env:Go}(I:Nat->Ae->Prop)
 (turn:∀n s,I n s->Au (A3 prog w) A (D5 it) (λr s₁=>match r with
  | none=>R (.ok .next) s₁
  | some v=>Au (A3 prog w) A (Da target it v) (λ_ s₁'=>Au (A3 prog w) A (DL target env v) (λ_ s₂=>
   Au (A3 prog w) A (forIn ifs true λc r=>if r=true then do let ok<-FK c env (C3 c env);pure (Co ok) else pure (Co r)) (λok s₃=>
    if ok=true then Au (A3 prog w) A (C3 elt env) (λx s₄=>
     Au (A3 prog w) A (call (.builtin "list.append") [acc,x]) (λ_ s₅=>∃m,m<n/\I m s₅) (λ_ _=>False) s₄) (λ_ _=>False) s₃
    else ∃m,m<n/\I m s₃) (λ_ _=>False) s₂) (λ_ _=>False) s₁') (λ_ _=>False) s₁) (λ_ _=>False) s)
 (n:Nat) (h:I n s) :
 DN (A3 prog w) A (.compLoop (.ListComp elt [⟨target,iter,ifs,0⟩] scope pos) 0 it acc env) R s:=by
 refine codeAny_loop rfl I (λn s hI=>?_) n h
 show Au _ A ((compTurn (.ListComp elt [⟨target,iter,ifs,0⟩] scope pos) 0 it acc env).onRaise (λx=>do noteFrame x env;theTreesLotGoes x)) _ _ s
 refine wpAny_noted ?_
 rw[compTurn_list]
 refine Aa (E6 (Aa (Cd (turn n s hI) (λr s₁ h₁=>?_) λ_ _ h'=>h'.elim)))
 cases r with
 | none=>exact Ar h₁
 | some v=>
  refine Aa (Cd h₁ (λ_ s₁' h₁'=>?_) λ_ _ h'=>h'.elim)
  refine Aa (Cd h₁' (λ_ s₂ h₂=>Aa (Cd h₂ (λok s₃ h₃=>?_) λ_ _ h'=>h'.elim)) λ_ _ h'=>h'.elim)
  cases ok with
  | false=>exact Ar ⟨rfl,h₃⟩
  | true=>
   exact Aa (Aa (Cd h₃ (λx s₄ h₄=>Aa (Cd h₄ (λ_ s₅ h₅=>Ar (Ar ⟨rfl,h₅⟩)) λ_ _ h'=>h'.elim)) λ_ _ h'=>h'.elim))
end
def dA(X:Cx)(scope:Cu)(N':List Str)(C:Addr)(s₀:Ae)(H₀:Hp)(ex:List Addr):Cx:=
 { X with env:=GT scope (jB X.env.cells scope.names []) C X.env,N:=N',s₀:=s₀,H₀:=H₀,outer:=X.stack,ex:=ex,fn:=λ_=>false,pn:=[],xe:=λ_ _=>False }
def PTs(X:Cx)(ifs:List Ah)(t:TT):Prop:=
 ∀(pins:List (Addr×Obj)) (s:Ae) (σ:St) (H:Hp) (Q:Bool->Hp->Prop),Inv X pins σ H s->t σ H Q ->
  Au (A3 X.prog X.w) X.A (forIn ifs true λc r=>if r=true then do let ok<-FK c X.env (C3 c X.env);pure (Co ok) else pure (Co r)) (TP X pins σ Q) X.xe s
theorem zQ{X:Cx}:PTs X [] (λ_ H Q=>Q true H):=λpins s σ H Q I h=>Ar ⟨H,I,h⟩
theorem aEk{X:Cx}{c:Ah}{t:TT}(h:PT X c t):PTs X [c] t:=λpins s σ H Q I hw=>wpAny_tests_one (h pins s σ H Q I hw)
structure cL (X:Cx) (scope:Cu) (k:Nat) (caps:List Nat) (N':List Str):Prop where
 kind:scope.kind=.function
 nocell:∀y∈scope.names,y.2≠.cell
 loc:∀y∈scope.names,y.2=.local->scope.names.lookup y.1=some .local
 free:∀n,(n,AE)∈scope.names->X.env.kindOf n=some .cell\/X.env.kindOf n=some .free
 len:N'.length=k+caps.length
 cap:∀j i,caps[j]? = some i->∃x,N'[k+j]? = some x/\X.N[i]? = some x/\scope.names.lookup x=some .free/\X.env.kindOf x=some .cell
 ndp:X.N.Nodup
def gG(k:Nat)(caps:List Nat)(σ:St):St:=Ad k none++caps.map λi=>(σ[i]?).getD none
def aCk(k:Nat)(caps:List Nat)(wi:TI)(g:TG)(tt:TT)(te:TE):TE:=λσ H Q=>wi σ H λJ H1=>
 ∃W:Nat->Nat->List V->St->Hp->Prop,(∃m,W 0 m [] (gG k caps σ) H1)/\∀i m ys σ1 H,W i m ys σ1 H ->
  (J.stop i H/\ys.length<=sizeLine/\∀p,H p=none->Q (.ref p) (upd H p (.lst ys))) \/
  (J.go i H/\ys.length<sizeLine/\∀x H',J.yld i H x H'->g x σ1 H' λσ2 H2=>tt σ2 H2 λb H3=>
   if b=true then te σ2 H3 λy H4=>∃m',m'<m/\W (i+1) m' (ys++[y]) σ2 H4 else ∃m',m'<m/\W (i+1) m' ys σ2 H3)
theorem HOk.track{P:Av}{w:AG}{H:Hp}{h:Heap}{a:Addr}{o:HO}(ok:HOk P w H h)(n:H a=none)(new:dZ P w (upd H a o) h a o):HOk P w (upd H a o) h:=λb u e=>by
 by_cases hb:b=a
 . subst hb;rw[aW] at e;cases e;exact new
 . rw[aN hb] at e
   exact(ok b u e).stay (λ_ _ _ q=>q) (λc q=>by rw[aN (bB q n)];exact q) λc xs q=>by rw[aN (bB q n)];exact q
abbrev dC(its:List Value)(n:Nat):Obj:={ cls:=.type "list",data:=.seq its.toArray n }
section
variable {X:Cx} {scope:Cu} {k:Nat} {caps:List Nat} {N':List Str} {pins:List (Addr×Obj)} {σ:St} {H:Hp} {s:Ae} {fp:List Addr}
theorem Inv.cellLt(I:Inv X pins σ H s){x:Str}{c:Addr}(e:X.env.cells.lookup x=some c):c<s.heap.objs.size:=by
 obtain⟨v,q⟩:=I.cell x c e
 exact q.lt
theorem fA:∀{l:List (Str×B2)} {x:Str} {k:B2},l.lookup x=some k->(x,k)∈l:=λh=>Bg h
theorem relabel_lookup{env:Go}:∀{names:List (Str×B2)} {x:Str} {k:B2},
 (names.map λ(n,k)=>if (k==AE&&env.scope.kind==.function&&env.kindOf n==some .cell) then (n,NameKind.cell) else (n,k)).lookup x=some k ->
 (k=.cell/\names.lookup x=some .free/\env.kindOf x=some .cell)\/names.lookup x=some k
 | [],_,_,h=>by simp at h
 | (n,k')::r,x,k,h=>by
  have ih:=@relabel_lookup env r x k
  rw[mC] at h
  by_cases hc:(k'==AE&&env.scope.kind==.function&&env.kindOf n==some .cell)=true
  . simp only[hc,if_true,DE] at h ⊢
    cases hx:x==n with
    | true=>
     rw[hx] at h
     simp only at h ⊢
     simp only[bA] at hc
     have e1:k'=.free:=eq_of_beq hc.1.1
     have e2:env.kindOf n=some .cell:=eq_of_beq hc.2
     have e3:x=n:=eq_of_beq hx
     subst e3
     cases h
     exact .inl ⟨rfl,by rw[e1],e2⟩
    | false=>rw[hx] at h;exact ih h
  . simp only[Bool.not_eq_true] at hc
    simp only[hc,if_false,DE,bF] at h ⊢
    cases hx:x==n with
    | true=>rw[hx] at h;exact .inr h
    | false=>rw[hx] at h;exact ih h
theorem aLt(CS:cL X scope k caps N')(I:Inv X pins σ H s)(f:∀b∈fp,jS X pins H b)(hf:∀b∈fp,b<s.heap.objs.size) :
 (dA X scope N' (s.heap.objs.size+1) { s with heap:=s.heap.push (dC [] 0) } H (s.heap.objs.size::fp)).Ok:=by
 have hh:∀n,(n,AE)∈scope.names->∃c,X.env.cells.lookup n=some c:=λn hn=>I.ok.has n (CS.free n hn)
 have ge:∀b o,s.heap.get? b=some o->(s.heap.push (dC [] 0)).get? b=some o:=λb o e=>Ab _ e
 have fsub:∀b∈frs X.stack,∃o,s.heap.get? b=some o:=λb hb=>by
  obtain⟨_,o,ho,_⟩:=I.stack.mem hb
  exact⟨o,ho⟩
 refine⟨I.ok.mod,?_,I.ok.glob,I.ok.blt,?_,λx y c h1 h2=>?_,λx hx=>?_,λx c h _=>?_,I.ok.hd,I.ok.frames,.inl rfl,λb hb=>?_,λb o e=>?_,?_,λb o e hb=>?_,λb hb=>?_,?_,I.stkFree⟩
 . exact CS.kind
 . show(s.heap.push (dC [] 0)).objs.size<=s.heap.objs.size+1
   rw[Be]
   exact Aj _
 . exact I.ok.inj x y c (cH hh h1) (cH hh h2)
 . have fr:(x,AE)∈scope.names:=by
    rcases hx with q|q
    . rcases relabel_lookup q with⟨_,z,_⟩|z
      . exact fA z
      . exact absurd rfl (CS.nocell _ (fA z))
    . rcases relabel_lookup q with⟨z,_⟩|z
      . cases z
      . exact fA z
   obtain⟨c,e⟩:=eG (jZ (cells:=X.env.cells) (acc:=[]) fr)
   exact⟨c,e⟩
 . cases(show false=true from h)
 . refine⟨?_,λx c e=>?_⟩
   . show b≠s.heap.objs.size+1
     rcases AD.mp hb with z|z
     . rw[z];exact A6 (Bk _)
     . exact A6 (BP (hf b z))
   . have e':=cH hh e
     rcases AD.mp hb with z|z
     . rw[z];exact A6 (I.cellLt e')
     . exact(f b z).2.2.2.2.1 x c e'
 . exact⟨ge b o (I.bs b o e).1,(I.bs b o e).2⟩
 . show X.base.objs.size<=(s.heap.push (dC [] 0)).objs.size
   rw[Be]
   exact Fd (AW I.ok.bsz I.sz)
 . have lt:=An e
   rcases AD.mp hb with z|z
   . subst z
     exact absurd (A1 lt (AW I.ok.bsz I.sz)) (AM _)
   . rcases(f b z).2.2.2.1 with q|q
     . exact I.ok.noex b o e q
     . exact absurd (A1 lt (AW I.ok.bsz q)) (AM _)
 . show b∉frs X.stack
   intro hs
   rcases AD.mp hb with z|z
   . subst z
     obtain⟨o,e⟩:=fsub _ hs
     exact absurd (An e) (AM _)
   . rcases AD.mp (I.stkSub b hs) with q|q
     . exact(f b z).2.1 q
     . exact(f b z).2.2.1 q
 . exact I.stack.of_keeps λb o e _=>⟨o,ge b o e,rfl⟩
theorem aCl(CS:cL X scope k caps N'){j:Nat}{v:V}(h:(gG k caps σ)[j]? = some (some v)):∃j' i,j=k+j'/\caps[j']? = some i/\σ[i]? = some (some v):=by
 unfold gG at h
 by_cases hj:j<k
 . rw[Bf (by simpa using hj),B5] at h
   split at h <;> cases h
 . rw[AT (by simpa using hj),AK,A4] at h
   cases e:caps[j-k]? with
   | none=>rw[e] at h;cases h
   | some i=>
    rw[e] at h
    have h':(σ[i]?).getD none=some v:=Ai h
    refine⟨j-k,i,by omega,e,?_⟩
    cases q:σ[i]? with
    | none=>rw[q] at h';cases h'
    | some z=>rw[q] at h';exact congrArg some h'
theorem aJc(CS:cL X scope k caps N')(I:Inv X pins σ H s)(f:∀b∈fp,jS X pins H b)(hf:∀b∈fp,b<s.heap.objs.size){h₁:Heap}{tk:Nat}
 (hns:h₁.Ns (s.heap.objs.size+1) λ_=>none) (hk:∀b o,(s.heap.push (dC [] 0)).get? b=some o->h₁.get? b=some o) :
 Inv (dA X scope N' (s.heap.objs.size+1) { s with heap:=s.heap.push (dC [] 0) } H (s.heap.objs.size::fp)) [] (gG k caps σ) H { s with heap:=h₁,toks:=tk }:=by
 have hh:∀n,(n,AE)∈scope.names->∃c,X.env.cells.lookup n=some c:=λn hn=>I.ok.has n (CS.free n hn)
 have ge:∀b o,s.heap.get? b=some o->h₁.get? b=some o:=λb o e=>hk b o (Ab _ e)
 have cellK:∀{c:Addr} {v:Option Value},s.heap.IsCell c v->h₁.IsCell c v:=λ{c v} ⟨o,e,d⟩=>⟨o,ge _ _ e,d⟩
 refine⟨aLt CS I f hf,rfl,I.bare,Un.kept hk,⟨_,hns,λj x v e1 e2 e3=>?_⟩,λx c e=>?_,?_,λx c e=>?_,λp hp=>absurd (show p∈([]:List (Addr×Obj)) from hp) (by simp),I.hok.kept ge,?_⟩
 . obtain⟨j',i,ej,ec,es⟩:=aCl CS e2
   obtain⟨y,h1,h2,h3,h4⟩:=CS.cap j' i ec
   have e1':N'[j]? = some x:=e1
   rw[ej,h1] at e1'
   have ey:y=x:=Ai e1'
   subst ey
   obtain⟨m,hn,hl⟩:=I.loc
   obtain⟨u,ru,lk⟩:=hl i y v h2 es (.inr (.inl h4))
   rcases lk with⟨k1,_⟩|⟨_,c,ec',hc⟩
   . rw[h4] at k1;cases k1
   . refine⟨u,ru,.inr ⟨?_,c,?_,cellK hc⟩⟩
     . have e3':Vis (FF scope X.env) y:=e3
       rcases e3' with z|z|z
       . rcases relabel_lookup z with⟨z,_⟩|z
         . cases z
         . rw[h3] at z;cases z
       . exact .inl z
       . exact .inr z
     . obtain⟨c',e⟩:=eG (jZ (cells:=X.env.cells) (acc:=[]) (fA h3))
       have e':=cH hh e
       rw[ec'] at e'
       cases e'
       exact e
 . obtain⟨v,q⟩:=I.cell x c (cH hh e)
   exact⟨v,cellK q⟩
 . exact I.hok.fresh (GU _)
 . exact I.freeC x c (cH hh e)
 . show(gG k caps σ).length=N'.length
   unfold gG
   rw[lA,AK,lM,CS.len]
theorem uS{tg iter elt:Ah}{ifs:List Ah}{pos:BX}{g:TG}{tt:TT}{te:TE}{it:Addr}{tn:Nat->Heap->Prop}{J:It}{RR:Value->Addr->FN->Ae->Prop}{E:Value->Ae->Prop}{Q:VK}
 (CS:cL X scope k caps N') (hc:X.calm=true) (I:Inv X pins σ H s) (T:tZ X.prog X.w X.K tg J fp it tn) (st:tn 0 s.heap) (f:∀b∈fp,jS X pins H b)
 (hch:∀C s₀ H₀ ex,PG (dA X scope N' C s₀ H₀ ex) tg g/\PTs (dA X scope N' C s₀ H₀ ex) ifs tt/\PE (dA X scope N' C s₀ H₀ ex) elt te)
 (hw:∃W:Nat->Nat->List V->St->Hp->Prop,(∃m,W 0 m [] (gG k caps σ) H)/\∀i m ys σ1 H,W i m ys σ1 H ->
  (J.stop i H/\ys.length<=sizeLine/\∀p,H p=none->Q (.ref p) (upd H p (.lst ys))) \/
  (J.go i H/\ys.length<sizeLine/\∀x H',J.yld i H x H'->g x σ1 H' λσ2 H2=>tt σ2 H2 λb H3=>
   if b=true then te σ2 H3 λy H4=>∃m',m'<m/\W (i+1) m' (ys++[y]) σ2 H4 else ∃m',m'<m/\W (i+1) m' ys σ2 H3))
 (hR:∀D C s' H' m,Inv X pins σ H' s'->s'.heap.Ns C m->s.heap.objs.size<C->(∀(σ':St) (s'':Ae) (h':Heap),Inv X pins σ' H' s''->Bw C s''.heap h'->Inv X pins σ' H' { s'' with heap:=h' })->Q (.ref D) H'->RR (.ref D) C (.ok .next) s') :
 Au (A3 X.prog X.w) X.A (newList []) (λacc s₃=>Au (A3 X.prog X.w) X.A (newFunctionEnv scope X.env.globals (jB X.env.cells scope.names []) [] X.env.qual none .none (some X.env)) (λcenv s₄=>
  DN (A3 X.prog X.w) X.A (.compStart (.ListComp elt [⟨tg,iter,ifs,0⟩] scope pos) 0 (.ref it) acc { cenv with scope:=FF scope X.env }) (RR acc cenv.locals) s₄) E s₃) E s:=by
 obtain⟨W,⟨m0,w0⟩,turn⟩:=hw
 have hf:∀b∈fp,b<s.heap.objs.size:=λb hb=>by
  obtain⟨o,e,_⟩:=T.obj 0 _ st b hb
  exact An e
 refine B6 (wpAny_newFunctionEnv CS.nocell (by intro y hy;simp at hy) (λh₁ hns₁ hsb₁=>?_) CS.kind)
 have hsz:(s.heap.push (dC [] 0)).objs.size=s.heap.objs.size+1:=Be _ _
 have hns:h₁.Ns (s.heap.objs.size+1) λ_=>none:=by
  have:=hns₁
  rw[show({ s with heap:=s.heap.push (dC [] 0) }:Ae).heap.objs.size=s.heap.objs.size+1 from hsz] at this
  exact this
 have hk:∀b o,(s.heap.push (dC [] 0)).get? b=some o->h₁.get? b=some o:=λb o e=>
  hsb₁.extBut b o (A6 (by have:=An e;rw[hsz] at this;show b<(s.heap.push (dC [] 0)).objs.size;rw[hsz];exact this)) (Ab _ e)
 have I0:=aJc (N':=N') CS I f hf (tk:=s.toks+([]:List (Str×Value)).length) hns hk
 have noC:∀{b:Addr},b<s.heap.objs.size->b≠s.heap.objs.size+1:=λ{b} hb=>A6 (BP hb)
 have hDn:H s.heap.objs.size=none:=I.fresh
 have hh:∀n,(n,AE)∈scope.names->∃c,X.env.cells.lookup n=some c:=λn hn=>I.ok.has n (CS.free n hn)
 have hD1:h₁.get? s.heap.objs.size=some (dC [] 0):=hk _ _ (As _ rfl)
 have stFs:∀b∈frs X.stack,b<s.heap.objs.size:=λb hb=>by
  obtain⟨_,o,ho,_⟩:=I.stack.mem hb
  exact An ho
 have fpc:∀(pl:List (Addr×Obj)),(∀p∈pl,p.1=s.heap.objs.size)->∀{H':Hp},(∀b∈fp,H' b=none)->∀b∈fp,jS (dA X scope N' (s.heap.objs.size+1) { s with heap:=s.heap.push (dC [] 0) } H (s.heap.objs.size::fp)) pl H' b:=by
  intro pl hpl H' hn b hb
  refine⟨hn b hb,noC (hf b hb),λz=>?_,.inl (Ag _ hb),λx c e=>(f b hb).2.2.2.2.1 x c (cH hh e),λp hp z=>?_⟩
  . rcases AD.mp (I.stkSub b z) with q|q
    . exact(f b hb).2.1 q
    . exact(f b hb).2.2.1 q
  . have hp':p∈pl:=by simpa[dA] using hp
    rw[hpl p hp'] at z
    exact absurd (hf b hb) (by rw[<-z];exact AM _)
 have pinD:∀{σ':St} {H':Hp} {s':Ae} {its:List Value} {n:Nat} {pl:List (Addr×Obj)},Inv (dA X scope N' (s.heap.objs.size+1) { s with heap:=s.heap.push (dC [] 0) } H (s.heap.objs.size::fp)) pl σ' H' s' ->
  s'.heap.get? s.heap.objs.size=some (dC its n)->H' s.heap.objs.size=none->Inv (dA X scope N' (s.heap.objs.size+1) { s with heap:=s.heap.push (dC [] 0) } H (s.heap.objs.size::fp)) [(s.heap.objs.size,dC its n)] σ' H' s':=by
  intro σ' H' s' its n pl J e nn
  refine J.pins_of λp hp=>?_
  have:p=(s.heap.objs.size,dC its n):=by simpa using hp
  subst this
  refine⟨e,nn,A6 (Bk _),λz=>absurd (stFs _ z) (AM _),λv z=>by cases z⟩
 have start:DN (A3 X.prog X.w) X.A (.compLoop (.ListComp elt [⟨tg,iter,ifs,0⟩] scope pos) 0 (.ref it) (.ref s.heap.objs.size) (GT scope (jB X.env.cells scope.names []) (s.heap.objs.size+1) X.env))
  (RR (.ref s.heap.objs.size) (s.heap.objs.size+1)) { s with heap:=h₁,toks:=s.toks+([]:List (Str×Value)).length }:=by
  refine iE (λn s'=>∃i ys its cnt σ1 H',Inv (dA X scope N' (s.heap.objs.size+1) { s with heap:=s.heap.push (dC [] 0) } H (s.heap.objs.size::fp)) [(s.heap.objs.size,dC its cnt)] σ1 H' s' /\
   tn i s'.heap/\(∀b∈fp,H' b=none)/\aV ys its/\W i n ys σ1 H') ?_ m0 ⟨0,[],[],0,_,H,pinD I0 hD1 hDn,T.keep _ _ _ st λb _ o e=>hk b o (Ab _ e),λb hb=>(f b hb).1,.nil,w0⟩
  rintro n s3 ⟨i,ys,its,cnt,σ1,H3,I3,st3,fr3,rv3,w3⟩
  obtain⟨hD3,nD3,_⟩:=I3.pin (s.heap.objs.size,dC its cnt) (by simp[dA])
  have pl1:∀p∈[(s.heap.objs.size,dC its cnt)],p.1=s.heap.objs.size:=λp hp=>by
   have:p=(s.heap.objs.size,dC its cnt):=by simpa using hp
   rw[this]
  rcases turn i n ys σ1 H3 w3 with⟨stop,hz,qn⟩|⟨go,hz,step⟩
  . refine thn (T.done (dA X scope N' (s.heap.objs.size+1) { s with heap:=s.heap.push (dC [] 0) } H (s.heap.objs.size::fp)) rfl rfl rfl hc i _ s3 _ H3 _ I3 (fpc _ pl1 fr3) st3 stop) λr s4 ⟨hr,I4⟩=>?_
    subst hr
    obtain⟨hD4,nD4,_⟩:=I4.pin (s.heap.objs.size,dC its cnt) (by simp[dA])
    have u4:=I4.base
    have nb:∀{b:Addr} {o:Obj},s.heap.get? b=some o->b∉fp->b∉s.heap.objs.size::fp:=λ{b o} e hb z=>by
     rcases AD.mp z with z|z
     . exact absurd (An e) (by rw[z];exact AM _)
     . exact hb z
    have neD:∀{b:Addr} {o:Obj},s.heap.get? b=some o->b≠s.heap.objs.size:=λ{b o} e=>A6 (An e)
    have trD:∀{b:Addr} {o:HO},H b=some o->b≠s.heap.objs.size:=λ{b o} e=>bB e hDn
    have u:Un (frs X.stack) fp H (upd H3 s.heap.objs.size (.lst ys)) s.heap s4.heap:={
     keep:=λb o e nn hb hx=>u4.keep b o (Ab _ e) nn hb (nb e hx)
     slot:=λb o e nn hb hx=>u4.slot b o (Ab _ e) nn hb (nb e hx)
     free:=λb o e nn hx=>by rw[aN (neD e)];exact u4.free b o (Ab _ e) nn (nb e hx)
     there:=λb o e hx=>u4.there b o (Ab _ e) (nb e hx)
     tups:=λb xs e=>by rw[aN (trD e)];exact u4.tups b xs e
     frzs:=λb o u e=>by rw[aN (trD e)];exact u4.frzs b o u e
     tbls:=λb ps e=>by rw[aN (trD e)];exact u4.tbls b ps e }
    have hl:=rv3.length
    have hok:HOk X.prog X.w (upd H3 s.heap.objs.size (.lst ys)) s4.heap:=HOk.track I4.hok nD4 ⟨hz,its,cnt,rv3,hD4⟩
    have I5:Inv X pins σ (upd H3 s.heap.objs.size (.lst ys)) s4:=I.call' I4.os u hok I4.bare λb hb=>⟨(f b hb).2.2.2.1,(f b hb).2.1,(f b hb).2.2.2.2.1,(f b hb).2.2.2.2.2⟩
    obtain⟨m4,hn4,_⟩:=I4.loc
    refine hR s.heap.objs.size (s.heap.objs.size+1) s4 _ m4 I5 hn4 (Bk _) (λσ' s'' h' I6 hs'=>?_) (qn _ nD4)
    have:=I6.turned (t':=s''.toks) (h':=h') (it:=s.heap.objs.size+1) (λb o hb e=>hs'.extBut b o hb e) (by rw[aN (BB (Bk _))];exact I4.free)
     (BB (BP I.lt)) (.inr (Fd I.sz)) (λx c e=>A6 (BP (I.cellLt e))) λp hp z=>?_
    . exact this
    . have:=An (I.pin p hp).1
      rw[z] at this
      exact absurd this (EH.mpr (GU _))
  . refine thn (T.item (dA X scope N' (s.heap.objs.size+1) { s with heap:=s.heap.push (dC [] 0) } H (s.heap.objs.size::fp)) rfl rfl rfl hc i _ s3 _ H3 _ I3 (fpc _ pl1 fr3) st3 go) λr s4 ⟨u,hr,h4⟩=>?_
    subst hr
    refine thn h4 λ_ s5 ⟨x,H5,I5,r5,y5,st5,fr5⟩=>?_
    obtain⟨hg,ht,he⟩:=hch (s.heap.objs.size+1) { s with heap:=s.heap.push (dC [] 0) } H (s.heap.objs.size::fp)
    have I5':=I5.pinned (fpc _ pl1 fr5) (T.obj _ _ st5)
    have keep:∀{σ7:St} {H7:Hp} {s7:Ae},Inv (dA X scope N' (s.heap.objs.size+1) { s with heap:=s.heap.push (dC [] 0) } H (s.heap.objs.size::fp)) ([(s.heap.objs.size,dC its cnt)]++nY fp s5.heap) σ7 H7 s7 ->
     tn (i+1) s7.heap/\(∀b∈fp,H7 b=none)/\s7.heap.get? s.heap.objs.size=some (dC its cnt)/\H7 s.heap.objs.size=none:=by
     intro σ7 H7 s7 I7
     obtain⟨hD7,nD7,_⟩:=I7.pin (s.heap.objs.size,dC its cnt) (by simp[dA])
     refine⟨T.keep _ _ _ st5 λb hb o e=>(I7.pin (b,o) (A2 _ (A2 _ (gB hb e)))).1,λb hb=>?_,hD7,nD7⟩
     obtain⟨o,e,d⟩:=T.obj _ _ st5 b hb
     exact(I7.pin (b,o) (A2 _ (A2 _ (gB hb e)))).2.1
    refine thn (hg _ s5 _ H5 x u _ I5' r5 (step x H5 y5)) λ_ s6 ⟨σ6,H6,I6,q6⟩=>?_
    refine thn (ht _ s6 σ6 H6 _ I6 q6) λb s7 ⟨H7,I7,q7⟩=>?_
    cases b with
    | false=>
     rw[if_neg bN] at q7 ⊢
     obtain⟨m',hm,w7⟩:=q7
     obtain⟨t7,f7,d7,n7⟩:=keep I7
     exact⟨m',hm,i+1,ys,its,cnt,σ6,H7,pinD I7 d7 n7,t7,f7,rv3,w7⟩
    | true=>
     rw[if_pos rfl] at q7 ⊢
     refine thn (he _ s7 σ6 H7 _ I7 q7) λyv s8 ⟨y,H8,I8,r8,q8⟩=>?_
     obtain⟨m',hm,w8⟩:=q8
     obtain⟨t8,f8,d8,n8⟩:=keep I8
     have hl:=rv3.length
     have hzv:its.toArray.size<=sizeLine:=by rw[Af];omega
     refine CT EG ⟨_,d8,rfl⟩ E1 (Ep _ _) (Fa s.heap.objs.size its.toArray cnt yv hzv) ⟨d8,?_⟩
     have q:=Fp d8 (λa=>a.push yv)
     have e':its.toArray.push yv=(its++[yv]).toArray:=by simp
     rw[e'] at q
     have I9:=(I8.unpinned (pins:=[(s.heap.objs.size,dC its cnt)])).pins_of (pins':=[]) (λp hp=>absurd hp (by simp))
     have I10:=I9.turned (t':=s8.toks) (it:=s.heap.objs.size) (h':=s8.heap.update s.heap.objs.size (Du λa=>a.push yv)) (λb o hb e=>(Cj s8.heap _ (Cz hb)).trans e) n8
      (A6 (Bk _)) (.inl Aq) (λx c e=>A6 (I.cellLt (cH hh e))) (λp hp=>absurd (show p∈([]:List (Addr×Obj)) from by simpa[dA] using hp) (by simp))
     refine⟨m',hm,i+1,ys++[y],its++[yv],_,σ6,H8,pinD I10 q n8,?_,f8,rv3.append (.cons r8 .nil),w8⟩
     refine T.keep _ _ _ t8 λb hb o e=>(Cj s8.heap _ ?_).trans e
     intro z
     exact absurd (hf b hb) (by rw[<-z];exact AM _)
 have startC:∀C,C=s.heap.objs.size+1->DN (A3 X.prog X.w) X.A (.compLoop (.ListComp elt [⟨tg,iter,ifs,0⟩] scope pos) 0 (.ref it) (.ref s.heap.objs.size) (GT scope (jB X.env.cells scope.names []) C X.env))
  (RR (.ref s.heap.objs.size) C) { s with heap:=h₁,toks:=s.toks+([]:List (Str×Value)).length }:=by
  rintro C rfl
  exact start
 exact codeAny_compStart_list (startC _ hsz) (T.self X.A 0 _ _ _ (T.keep _ _ _ st λb _ o e=>hk b o (Ab _ e)) (startC _ hsz))
end
section
variable {X:Cx} {scope:Cu} {k:Nat} {caps:List Nat} {N':List Str} {tg iter elt:Ah} {ifs:List Ah} {pos:BX} {wi:TI} {g:TG} {tt:TT} {te:TE}
theorem sD(CS:cL X scope k caps N')(hc:X.calm=true)(hi:PI X tg iter wi)
 (hch:∀C s₀ H₀ ex,PG (dA X scope N' C s₀ H₀ ex) tg g/\PTs (dA X scope N' C s₀ H₀ ex) ifs tt/\PE (dA X scope N' C s₀ H₀ ex) elt te) (hs:∀x,B4 iter X.env x=pure x) :
 PE X (.ListComp elt [⟨tg,iter,ifs,0⟩] scope pos) (aCk k caps wi g tt te):=by
 intro pins s σ H Q I h
 rw[eval_ListComp]
 refine D6 (use:=none) rfl hs (gO λn hn=>I.ok.has n (CS.free n hn)) CS.kind CS.loc (thn (hi pins s σ H _ I h) λxv s1 h1=>thn h1 λitv s2 h2=>?_)
 obtain⟨it,fp,tn,J,H2,e,I2,T,st2,f2,hw⟩:=h2
 subst e
 exact uS (RR:=λacc C=>compPost (A3 X.prog X.w) X.A X.xe none (EP X pins σ Q) acc C) (Q:=Q) CS hc I2 T st2 f2 hch hw λD C s' H' m J hn _ hall q=>⟨m,hn,λh' hs'=>⟨.ref D,H',hall σ s' h' J hs',rfl,q⟩⟩
theorem xT{i:Nat}{x:Str}{pos' spos:BX}(CS:cL X scope k caps N')(hc:X.calm=true)(hi:PI X tg iter wi)
 (hch:∀C s₀ H₀ ex,PG (dA X scope N' C s₀ H₀ ex) tg g/\PTs (dA X scope N' C s₀ H₀ ex) ifs tt/\PE (dA X scope N' C s₀ H₀ ex) elt te) (hs:∀x,B4 iter X.env x=pure x)
 (hN:X.N.Nodup) (hx':X.N[i]? = some x) (hx:Loc X.env.scope x) (hf:X.fn x=true\/X.env.scope.names.lookup x=some .local) :
 PS X (.Assign [.Name x pos'] (.ListComp elt [⟨tg,iter,ifs,0⟩] scope pos) spos) (aDL (aCk k caps wi g tt te) (qC i)):=by
 have hb:∃b,G1 (.ListComp elt [⟨tg,iter,ifs,0⟩] scope pos) (some (.Name x pos')) spos.line X.env=pure b:=⟨_,rfl⟩
 obtain⟨b,hb⟩:=hb
 cases b with
 | false=>exact lL hN hx' hx (sD CS hc hi hch hs) hb hf
 | true=>
  intro pins s σ H D I h
  rw[exec_Assign_Name_used x pos' _ spos hb]
  refine Aa (E6 (Aa ?_))
  show Au _ _ (comprehension (.ListComp elt [⟨tg,iter,ifs,0⟩] scope pos) scope X.env (firstIterPos [⟨tg,iter,ifs,0⟩] pos) (newList []) (firstAsync [⟨tg,iter,ifs,0⟩]) (firstIter [⟨tg,iter,ifs,0⟩] X.env) (some (DL (.Name x pos') X.env)) >>= λ_=>pure ()) _ _ s
  refine Aa (D6 (use:=some (DL (.Name x pos') X.env)) rfl hs (gO λn hn=>I.ok.has n (CS.free n hn)) CS.kind CS.loc (thn (hi pins s σ H _ I h) λxv s1 h1=>thn h1 λitv s2 h2=>?_))
  obtain⟨it,fp,tn,J,H2,e,I2,T,st2,f2,hw⟩:=h2
  subst e
  refine uS (Q:=λv H'=>D.nx (σ.set i (some v)) H') (RR:=λacc C=>compPost (A3 X.prog X.w) X.A X.xe (some (DL (.Name x pos') X.env)) (λ_ s'=>Au (A3 X.prog X.w) X.A (pure ()) (λ_ s'=>Au (A3 X.prog X.w) X.A (pure Flow.next) (SP X pins D) X.xe s') X.xe s') acc C) CS hc I2 T st2 f2 hch hw λD' C s' H' m J hn lt hall q=>?_
  show Au _ _ (DL (.Name x pos') X.env (.ref D')) _ _ s'
  refine ET (qB (v:=V.ref D') J hN hx' hx rfl (λs'' J' hsb=>?_) hf)
  obtain⟨a,sb,ha⟩:=hsb
  refine⟨m,hn.sameBut sb ?_,λh' hs'=>?_⟩
  . rcases ha with z|z
    . rw[z];exact BB (GF I2.lt lt)
    . exact BB (GF (I2.cellLt z) lt)
  . exact Ar (Ar ⟨_,H',hall _ s'' h' J' hs',q⟩)
end
end L2
end
noncomputable section
namespace Hp
open PySem PySem.Spec PyProof.Rows L2
def Od(K:Fg)(H:Hp)(b:Addr):Prop:=H b=none->K.lookup b≠none
def Rr(K:Fg)(H H':Hp)(Y:Addr->Prop)(r:Rt)(u:V):Prop:=
 if r.2.1=true then ∃a xs ds,u=.ref a/\r.1=.lst ds/\(H a=none/\K.lookup a=none)/\H' a=some (.lst xs)/\Reps K H' (λb=>b=a\/Y b\/(r.2.2=false/\Od K H b)) ds xs
 else Rep K H' (λb=>Y b\/(r.2.2=false/\Od K H b)) r.1 u
def spF(K:Fg)(P:Pg)(n:Nat)(f:Nat):Sp:=λvs H Q _=>∃(ds:List D) (Y:Addr->Prop),(∀a,Y a->Od K H a)/\Reps K H Y ds vs/\RE (call P n f ds) λr=>∀u H',Tk K H'->aL H H'->Rr K H H' Y r u->Q u H'
def spL(K:Fg)(P:Pg)(n:Nat)(f:Nat):Sp:=λvs H Q _=>mR P f=true/\∃(cs ds:List D) (p:Addr) (xs us:List V) (Y:Addr->Prop),vs=.ref p::us/\(∀a,Y a->Od K H a)/\H p=some (.lst xs) /\
 Reps K H (λb=>b=p\/Y b) cs xs/\Reps K H (λb=>b=p\/Y b) ds us/\RE (call P n f (.err 0 cs::ds)) λr=>∃d cs',aCc r.1=some (d,cs')/\∀(u:V) (H':Hp) (R2:Addr->Prop) (xs':List V),Tk K H'->Kp (λb=>b=p) H H'->R2 p->(∀b,R2 b->b=p\/H b=none)->H' p=some (.lst xs') ->
  Reps K H' (λb=>R2 b\/Y b) cs' xs'->(if r.2.1=true then ∃a ys es,u=.ref a/\d=.lst es/\(H a=none/\K.lookup a=none)/\R2 a/\H' a=some (.lst ys)/\Reps K H' (λb=>R2 b\/Y b\/(r.2.2=false/\Od K H b)) es ys
   else Rep K H' (λb=>R2 b\/Y b\/(r.2.2=false/\Od K H b)) d u)->Q u H'
def spA(K:Fg)(P:Pg)(n:Nat)(f:Nat):Sp:=λvs H Q E=>spF K P n f vs H Q E\/spL K P n f vs H Q E
def bltNames:List Str:=["len", "list", "tuple", "min", "max", "abs", "int", "str", "sum", "all", "any", "sorted", "bool", "range", "zip", "enumerate", "reversed", "set", "isinstance", "dict", "repr"]
structure Md (X:Cx) (P:Pg) (Γ:Ct) (n:Nat):Prop where
 fn:∀(f:Nat) (x:Str),Γ.fns[f]? = some x->∃fa fd ps,X.mg x=some (.ref fa)/\BG X.K (.ref fa)=true/\jC X.K fd ps []/\nD X.prog X.w X.K X.mg X.base CX0 n fa fd ps (spA X.K P n f)
 blt:∀x∈bltNames,X.mg x=none
 cns:∀(x:Str) (d:D),Γ.cns.lookup x=some d->∃u v,X.mg x=some u/\bI v u/\∀H ex,Rep X.K H ex d v
 tab:∀(i:Nat) (x:Str),Γ.tbs[i]? = some x->∃a t,X.mg x=some (.ref a)/\P.tabs[i]? = some t/\qV X.prog X.w X.K a t
structure Mc (X:Cx) (P:Pg) (Γ:Ct) (n:Nat):Prop where
 md:Md X P Γ n
 N:X.N=Γ.N
 nd:X.N.Nodup
 sc:X.env.scope.names=Γ.sc
 calm:X.calm=true
 room:jH n X.A
 xe:X.xe=λ_ _=>False
 st:∀x:Str,uL Γ x=true->X.fn x=true\/X.env.scope.names.lookup x=some .local
 fk:X.env.scope.kind=.function
section
variable {X:Cx} {P:Pg} {Γ:Ct} {n:Nat}
theorem Mc.units(M:Mc X P Γ n):X.A.units+200<G4:=by have:=M.room.un;omega
theorem Mc.vis(M:Mc X P Γ n){x:Str}(h:aCd Γ x=true):Vis X.env.scope x:=by
 unfold aCd at h
 unfold Vis
 rw[M.sc]
 cases q:Γ.sc.lookup x with
 | none=>rw[q] at h;cases h
 | some k=>rw[q] at h;cases k <;> first|exact .inl rfl|exact .inr (.inl rfl)|exact .inr (.inr rfl)|cases h
theorem Mc.loc(M:Mc X P Γ n){x:Str}(h:uL Γ x=true):L2.Loc X.env.scope x:=by
 unfold uL at h
 unfold L2.Loc
 rw[M.sc]
 cases q:Γ.sc.lookup x with
 | none=>rw[q] at h;cases h
 | some k=>rw[q] at h;cases k <;> first|exact .inl rfl|exact .inr rfl|cases h
theorem Mc.gl(M:Mc X P Γ n){x:Str}(h:bZ Γ x=true):Gl X x:=by
 unfold bZ at h
 unfold Gl
 show X.env.scope.names.lookup x=_
 rw[M.sc]
 cases q:Γ.sc.lookup x with
 | none=>rw[q] at h;cases h
 | some k=>rw[q] at h;cases k <;> first|rfl|cases h
theorem aJ{x:Str}(h:bD x=true):(x==("__debug__" : Str))=false:=by
 unfold bD at h
 simp only[bA,D3] at h
 exact h.1
theorem eO{x:Str}(h:bD x=true):(x==("__classdict__" : Str))=false:=by
 unfold bD at h
 simp only[bA,D3] at h
 exact h.2
theorem aGt:∀{d d':D},eqK d d'=true->d=d':=by
 intro d d' h
 cases d <;> cases d' <;> simp[eqK] at h <;> first|rfl|(subst h;rfl)
def aK:Ah->Bool
 | .Starred _ _=>false
 | .Slice _ _ _ _=>false
 | .Set _ _ _=>false
 | _=>true
theorem uT{α:Type}{o:Option α}{f:α->Bool}(h:oB o f=true):∃a,o=some a/\f a=true:=by
 cases o with
 | none=>cases h
 | some a=>exact⟨a,rfl,h⟩
theorem aB{α:Type}{q:α->Prop}{o:Option { a:α // q a }}{f:α->Bool}(h:oS o f=true):∃a,q a/\f a=true:=by
 cases o with
 | none=>cases h
 | some a=>exact⟨a.1,a.2,h⟩
theorem aI{c:E}{e:Ah}(h:aQ Γ c e=true):aK e=true:=by
 cases c with
 | c d=>
  rcases(BM _ _).mp (show(oS (asC e) (eqC d)||oS (asN e) λx=>bZ Γ x&&bD x&&oB (Γ.cns.lookup x) (eqK d))=true from h) with h|h
  . obtain⟨_,⟨_,_,rfl⟩,_⟩:=aB h;rfl
  . obtain⟨_,⟨_,rfl⟩,_⟩:=aB h;rfl
 | v i=>obtain⟨_,⟨_,rfl⟩,_⟩:=aB h;rfl
 | op o a b=>obtain⟨_,⟨_,rfl⟩,_⟩:=aB h;rfl
 | neg a=>obtain⟨_,⟨_,rfl⟩,_⟩:=aB h;rfl
 | nt a=>obtain⟨_,⟨_,rfl⟩,_⟩:=aB h;rfl
 | an a b=>obtain⟨_,rfl,_⟩:=aB h;rfl
 | orr a b=>obtain⟨_,rfl,_⟩:=aB h;rfl
 | ife t a b=>obtain⟨_,⟨_,rfl⟩,_⟩:=aB h;rfl
 | cmp o a b=>obtain⟨_,⟨_,rfl⟩,_⟩:=aB h;rfl
 | cmp2 o1 o2 a b c=>obtain⟨_,⟨_,rfl⟩,_⟩:=aB h;rfl
 | idx a b=>obtain⟨_,⟨_,rfl⟩,_⟩:=aB h;rfl
 | sli a lo hi=>obtain⟨_,⟨_,rfl⟩,_⟩:=aB h;rfl
 | tup es=>obtain⟨_,⟨_,_,rfl⟩,_⟩:=aB h;rfl
 | lst es=>obtain⟨_,⟨_,rfl⟩,_⟩:=aB h;rfl
 | call f es=>obtain⟨_,⟨_,_,rfl⟩,_⟩:=aB h;rfl
 | bi b es=>obtain⟨_,⟨_,_,rfl⟩,_⟩:=aB h;rfl
 | mth _ _ _=>cases h
 | isi a cs=>obtain⟨_,⟨_,_,rfl⟩,_⟩:=aB h;rfl
 | comp k caps t it cond elt=>obtain⟨_,⟨_,rfl⟩,_⟩:=aB h;rfl
 | numset _=>cases h
 | tget i a=>obtain⟨_,⟨_,_,rfl,_⟩,_⟩:=aB h;rfl
 | lzip _ _=>cases h
 | lix i k=>obtain⟨_,⟨_,rfl⟩,_⟩:=aB h;rfl
 | stp _ _=>cases h
 | dic ks vs=>cases h
 | attr _ _=>cases h
 | callO f a i=>obtain⟨_,⟨_,_,rfl⟩,_⟩:=aB h;rfl
 | neO i a=>obtain⟨_,⟨_,rfl⟩,_⟩:=aB h;rfl
theorem aA{e:Ah}{es:List Ah}{env:Go}(h:aK e=true):AN (e::es) env=(false,C3 e env)::AN es env:=by
 cases e <;> first|rfl|cases h
theorem fB:∀{cs:Es} {es:List Ah},chkEs Γ cs es=true->es.all aK=true
 | .nil,[],_=>rfl
 | .nil,_::_,h=>by cases h
 | .cons _ _,[],h=>by cases h
 | .cons c cs,e::es,h=>by
  simp only[chkEs,bA] at h
  rw[C6,aI h.1,fB h.2]
  rfl
theorem bE{pos:BX}{env:Go}:∀{es:List Ah},es.all aK=true->(Dp pos (AN es env)).any (·.1)=false
 | [],_=>rfl
 | e::es,h=>by
  rw[C6,bA] at h
  rw[aA h.1]
  show(false||(Dp pos (AN es env)).any (·.1))=false
  rw[bE h.2]
  rfl
theorem dP{e:Ah}(h:aK e=true):zI e:=by
 intro o i
 cases e <;> first|rfl|cases h
theorem fR{e:Ah}{env:Go}(h:aK e=true):∀x,B4 e env x=pure x:=by
 intro x
 cases e <;> first|rfl|cases h
theorem fS{op:CmpOp}{e:Ah}(h:aK e=true):E7 op e=false:=by
 cases e <;> first|rfl|cases h
variable {RT Y old:Addr->Prop} {σ:Sg} {pos:BX}
abbrev WE(X:Cx)(P:Pg)(n:Nat)(RT Y old:Addr->Prop)(σ:Sg)(c:E):TE:=wE X P (call P n) RT Y old σ c
abbrev WT(X:Cx)(P:Pg)(n:Nat)(RT Y old:Addr->Prop)(σ:Sg)(c:E):TT:=wT X P (call P n) RT Y old σ c
abbrev WA(X:Cx)(P:Pg)(n:Nat)(RT Y old:Addr->Prop)(σ:Sg)(c:Es):TA:=wA X P (call P n) RT Y old σ c
theorem RE.bind'{α β:Type}{x:R α}{f:α->R β}{p:β->Prop}(h:RE (x >>= f) p):RE x λa=>RE (f a) p:=by rwa [RE.bind] at h
theorem wE.one{a:E}{σV:L2.St}{H:Hp}{p:Vl->Prop}{Q:V->Hp->Prop}(S:Sx X.K RT Y old σ σV H)(h:RE (ev P (call P n) σ a) p)
 (f:∀x u H',p x->Tk X.K H'->Sx X.K RT Y old σ σV H'->Ro X.K RT Y old σ σV H H' x u->Q u H'):WE X P n RT Y old σ a σV H Q:=
 ⟨S,h.mono λx hx u H' t r=>f x u H' hx t (S.grow r.1 t) r⟩
theorem aLu{o:Operator}{a b:E}{ea eb:Ah}(ha:PE X ea (WE X P n RT Y old σ a))(hb:PE X eb (WE X P n RT Y old σ b)):PE X (.BinOp ea o eb pos) (WE X P n RT Y old σ (.op o a b)):=by
 intro pins s σV H Q I hw
 obtain⟨S,h⟩:=hw
 have h:=RE.bind' (show RE (ev P (call P n) σ a >>= λx=>ev P (call P n) σ b >>= λy=>opD o x y) _ from h)
 refine GV (thn (ha pins s σV H (λux H1=>WE X P n RT Y old σ b σV H1 λuy H2=>∃x y,Sx X.K RT Y old σ σV H2/\aL H H2/\Rv X.K RT Y old σ σV H2 x ux/\Rv X.K RT Y old σ σV H2 y uy/\(x.fr=true->∃a xs,ux=.ref a/\H2 a=some (.lst xs))/\RE (opD o x y) (Wn X RT Y old σ σV H Q)) I
  (wE.one S h λx u H1 hx t1 S1 r1=>wE.one S1 (RE.bind' hx) λy u' H2 hy t2 S2 r2=>⟨x,y,S2,r1.1.trans r2.1,(r1.rv S).grow r2.1,r2.rv S1,λhf=>?_,hy⟩)) λv s1 ⟨x',H1,I1,rx,q1⟩=>thn (hb pins s1 σV H1 _ I1 q1) λu s2 ⟨y',H2,I2,ry,q2⟩=>?_)
 . have:=r1.2
   rw[if_pos hf] at this
   obtain⟨a',xs,ds,e1,_,_,e4,_⟩:=this
   exact⟨a',xs,e1,r2.1 _ _ e4⟩
 . obtain⟨x,y,S2,sm,hx,hy,hf,h⟩:=q2
   exact uN I2 S2 rx ry hx hy hf (h.mono λv hv u H' t r=>hv u H' t (r.from sm))
theorem aJd{a:E}{ea:Ah}(ha:PE X ea (WE X P n RT Y old σ a)):PE X (.UnaryOp .USub ea pos) (WE X P n RT Y old σ (.neg a)):=by
 refine(aIx aGe ha).imp λσV H Q t ⟨S,h⟩=>?_
 have h:=RE.bind' (show RE (ev P (call P n) σ a >>= λx=>(match x.d with|.int i=>R.ok (Vl.cl (.int (-i)))|_=>.bad)) _ from h)
 refine wE.one S h λx u H1 hx t1 S1 r1=>?_
 split at hx
 . rename_i i d1
   exact⟨i,(r1.rv S).int d1,λt'=>hx _ _ t' (Ro.cl r1.1 rfl)⟩
 . exact hx.elim
theorem aCm{H:Hp}{σV:L2.St}{x:Vl}{u:V}{k:Bool}(hx:Rv X.K RT Y old σ σV H x u)(h:aBZ x.d=some k):aDQ X.K u H k:=by
 unfold aBZ at h
 split at h
 . rename_i d;rw[hx.non d];exact(Ai h).symm
 . rename_i b d;rw[hx.bl d];exact(Ai h).symm
 . rename_i i d;rw[hx.int d];exact(Ai h).symm
 . rename_i z d
   by_cases hl:z.length<=lim
   . rw[if_pos hl] at h
     rw[hx.str d]
     refine⟨eF hl,?_⟩
     rw[<-Ai h]
     cases hz:z.length with
     | zero=>rfl
     | succ m=>simp;omega
   . rw[if_neg hl] at h;cases h
 . rename_i ds d
   obtain⟨a,xs,e,q,r⟩:=hx.tup d
   rw[e]
   refine .inr (.inl ⟨xs,q,?_⟩)
   rw[<-Ai h]
   have:=r.length
   cases ds <;> cases xs <;> first|rfl|(simp at this)
 . rename_i ds d
   obtain⟨a,xs,e,q,_,r⟩:=hx.lst d
   rw[e]
   refine .inl ⟨xs,q,?_⟩
   rw[<-Ai h]
   have:=r.length
   cases ds <;> cases xs <;> first|rfl|(simp at this)
 . cases h
theorem RE.tru{x:Vl}{p:Bool->Prop}(h:RE (eA x) p):∃k,aBZ x.d=some k/\p k:=by
 unfold eA at h
 cases q:aBZ x.d with
 | none=>rw[q] at h;exact h.elim
 | some k=>rw[q] at h;exact⟨k,rfl,h⟩
theorem aJe{a:E}{ea:Ah}(ha:PE X ea (WE X P n RT Y old σ a)):PE X (.UnaryOp .Not ea pos) (WE X P n RT Y old σ (.nt a)):=by
 intro pins s σV H Q I hw
 obtain⟨S,h⟩:=hw
 have h:=RE.bind' (show RE (ev P (call P n) σ a >>= λx=>eA x >>= λk=>R.ok (Vl.cl (.bl (!k)))) _ from h)
 refine UnaryOp_ (thn (ha pins s σV H (λu H1=>∃k,aDQ X.K u H1 k/\Q (.bl (!k)) H1) I (wE.one S h λx u H1 hx t1 S1 r1=>?_)) λv s1 ⟨u,H1,I1,ru,k,hk,q⟩=>?_)
 . obtain⟨k,hk,hp⟩:=RE.tru (RE.bind' hx)
   exact⟨k,aCm (r1.rv S) hk,(show Wn X RT Y old σ σV H Q (Vl.cl (.bl (!k))) from hp) _ _ t1 (Ro.cl r1.1 rfl)⟩
 . refine not_of (thn (aBN pins s1 σV H1 u v (λk' H'=>k'=k/\H'=H1) I1 ru ⟨k,hk,rfl,rfl⟩) λb s2 ⟨H2,I2,e1,e2⟩=>?_)
   subst e1 e2
   exact⟨.bl (!b),H2,I2,rfl,q⟩
theorem oH{c:E}{e:Ah}(ha:PE X e (WE X P n RT Y old σ c))(he:∀whole,FK e X.env whole=(do let v<-whole;Hl e.pos;FD [v] (truthy v)))
 (hc:∀p,RE (tst P (call P n) σ c) p->RE (ev P (call P n) σ c) λx=>RE (eA x) p):PT X e (WT X P n RT Y old σ c):=by
 refine(aBO ha he).imp λσV H Q t ⟨S,h⟩=>?_
 refine wE.one S (hc _ h) λx u H1 hx t1 S1 r1=>?_
 obtain⟨k,hk,hp⟩:=RE.tru hx
 exact⟨k,aCm (r1.rv S) hk,λt'=>hp _ t' r1.1⟩
theorem aJf{a b:E}{ea eb:Ah}{r:List Ah}(ha:PE X ea (WE X P n RT Y old σ a))(hb:PE X (.BoolOp .And (eb::r) pos) (WE X P n RT Y old σ b)):PE X (.BoolOp .And (ea::eb::r) pos) (WE X P n RT Y old σ (.an a b)):=by
 refine(aFR ha hb).imp λσV H Q t ⟨S,h⟩=>?_
 have h:=RE.bind' (show RE (ev P (call P n) σ a >>= λx=>(match x.d with|.bl true=>ev P (call P n) σ b|.bl false=>R.ok (Vl.cl (.bl false))|_=>.bad)) _ from h)
 refine wE.one S h λx u H1 hx t1 S1 r1=>?_
 split at hx
 . rename_i d1
   refine⟨true,(r1.rv S).bl d1,?_⟩
   rw[if_pos rfl]
   exact⟨S1,hx.mono λv hv u H' t r=>λ_=>hv u H' t (r.from r1.1)⟩
 . rename_i d1
   refine⟨false,(r1.rv S).bl d1,?_⟩
   rw[if_neg bN]
   exact λt'=>hx _ _ t' (Ro.cl r1.1 rfl)
 . exact hx.elim
theorem aFv{a b:E}{ea eb:Ah}{r:List Ah}(ha:PE X ea (WE X P n RT Y old σ a))(hb:PE X (.BoolOp .Or (eb::r) pos) (WE X P n RT Y old σ b)):PE X (.BoolOp .Or (ea::eb::r) pos) (WE X P n RT Y old σ (.orr a b)):=by
 refine(aIm ha hb).imp λσV H Q t ⟨S,h⟩=>?_
 have h:=RE.bind' (show RE (ev P (call P n) σ a >>= λx=>(match x.d with|.bl true=>R.ok (Vl.cl (.bl true))|.bl false=>ev P (call P n) σ b|_=>.bad)) _ from h)
 refine wE.one S h λx u H1 hx t1 S1 r1=>?_
 split at hx
 . rename_i d1
   refine⟨true,(r1.rv S).bl d1,?_⟩
   rw[if_pos rfl]
   exact λt'=>hx _ _ t' (Ro.cl r1.1 rfl)
 . rename_i d1
   refine⟨false,(r1.rv S).bl d1,?_⟩
   rw[if_neg bN]
   exact⟨S1,hx.mono λv hv u H' t r=>λ_=>hv u H' t (r.from r1.1)⟩
 . exact hx.elim
theorem aJg{t a b:E}{et ea eb:Ah}(ht:PT X et (WT X P n RT Y old σ t))(ha:PE X ea (WE X P n RT Y old σ a))(hb:PE X eb (WE X P n RT Y old σ b)):PE X (.IfExp et ea eb pos) (WE X P n RT Y old σ (.ife t a b)):=by
 refine(aBD ht ha hb).imp λσV H Q t0 ⟨S,h⟩=>?_
 have h:=RE.bind' (show RE (tst P (call P n) σ t >>= λx=>if x=true then ev P (call P n) σ a else ev P (call P n) σ b) _ from h)
 refine⟨S,h.mono λk hk H1 t1 s1=>?_⟩
 cases k with
 | true=>rw[if_pos rfl] at hk ⊢;exact⟨S.grow s1 t1,hk.mono λv hv u H' t r=>λ_=>hv u H' t (r.from s1)⟩
 | false=>rw[if_neg bN] at hk ⊢;exact⟨S.grow s1 t1,hk.mono λv hv u H' t r=>λ_=>hv u H' t (r.from s1)⟩
def w2(X:Cx)(P:Pg)(n:Nat)(RT Y old:Addr->Prop)(σ:Sg)(σV:L2.St)(H:Hp)(p:Vl->Vl->Prop)(ux uy:V)(H2:Hp):Prop:=
 ∃x y,Sx X.K RT Y old σ σV H2/\aL H H2/\Rv X.K RT Y old σ σV H2 x ux/\Rv X.K RT Y old σ σV H2 y uy/\p x y
theorem eM(M:Mc X P Γ n)(o:CmpOp):OpR X (Bt o) (λux uy H Q=>∃(σ:Sg) (σV:L2.St) (x y:Vl) (k:Bool),Rv X.K RT Y old σ σV H x ux/\Rv X.K RT Y old σ σV H y uy/\bL o x.d y.d=some k/\Q (.bl k) H):=by
 intro pins s σV H ux uy v u Q I rx ry h
 obtain⟨σ',σV',x,y,k,hx,hy,hk,q⟩:=h
 exact aAT I M.units rx ry hx hy hk q
theorem aJh(M:Mc X P Γ n){o:CmpOp}{a b:E}{ea eb:Ah}(ha:PE X ea (WE X P n RT Y old σ a))(hb:PE X eb (WE X P n RT Y old σ b))(hp:aK eb=true):PE X (.Compare ea [o] [eb] pos) (WE X P n RT Y old σ (.cmp o a b)):=by
 refine(aDP (eM (RT:=RT) (Y:=Y) (old:=old) M o) ha hb (fS hp)).imp λσV H Q t ⟨S,h⟩=>?_
 have h:=RE.bind' (show RE (ev P (call P n) σ a >>= λx=>ev P (call P n) σ b >>= λy=>(match bL o x.d y.d with|some k=>R.ok (Vl.cl (.bl k))|none=>.bad)) _ from h)
 refine wE.two S (h.mono λx hx=>RE.bind' hx) λx y ux uy H2 hp t2 s2 S2 hx hy=>?_
 split at hp
 . rename_i k hk
   exact⟨σ,σV,x,y,k,hx,hy,hk,λt'=>hp _ _ t' (Ro.cl s2 rfl)⟩
 . exact hp.elim
theorem eU(M:Mc X P Γ n){o:CmpOp}{a b:E}{ea eb:Ah}(ha:PE X ea (WE X P n RT Y old σ a))(hb:PE X eb (WE X P n RT Y old σ b))(hp:aK eb=true):PT X (.Compare ea [o] [eb] pos) (WT X P n RT Y old σ (.cmp o a b)):=by
 refine(nL (eM (RT:=RT) (Y:=Y) (old:=old) M o) ha hb (fS hp)).imp λσV H Q t ⟨S,h⟩=>?_
 have h:=RE.bind' (show RE (ev P (call P n) σ a >>= λx=>ev P (call P n) σ b >>= λy=>(match bL o x.d y.d with|some k=>R.ok k|none=>.bad)) _ from h)
 refine wE.two S (h.mono λx hx=>RE.bind' hx) λx y ux uy H2 hp t2 s2 S2 hx hy=>?_
 split at hp
 . rename_i k hk
   exact⟨σ,σV,x,y,k,hx,hy,hk,k,rfl,λt'=>hp _ t' s2⟩
 . exact hp.elim
theorem aJi{a b:E}{ea eb:Ah}(ha:PE X ea (WE X P n RT Y old σ a))(hb:PE X eb (WE X P n RT Y old σ b))(hp:aK eb=true):PE X (.Subscript ea eb pos) (WE X P n RT Y old σ (.idx a b)):=by
 refine(qM xI ha hb (dP hp)).imp λσV H Q t ⟨S,h⟩=>?_
 have h:=RE.bind' (show RE (ev P (call P n) σ a >>= λx=>ev P (call P n) σ b >>= λy=>cG x y) _ from h)
 refine wE.two S (h.mono λx hx=>RE.bind' hx) λx y ux uy H2 hp t2 s2 S2 hx hy=>?_
 exact qU t2 hx hy (hp.mono λv hv u H' t r=>hv u H' t (r.from s2))
theorem uU:PA X [] (WA X P n RT Y old σ .nil):=dO.imp λσV H Q t ⟨S,h⟩ t'=>h [] H t' (aL.refl H) rfl
theorem jJ{c:E}{cs:Es}{e:Ah}{es:List Ah}(ha:PE X e (WE X P n RT Y old σ c))(hr:PA X es (WA X P n RT Y old σ cs))(hp:aK e=true):PA X (e::es) (WA X P n RT Y old σ (.cons c cs)):=by
 refine(bX ha hr (aA hp)).imp λσV H Q t ⟨S,h⟩=>?_
 have h:=RE.bind' (show RE (ev P (call P n) σ c >>= λx=>evs P (call P n) σ cs >>= λxs=>R.ok (x::xs)) _ from h)
 refine wE.one S h λx u H1 hx t1 S1 r1=>⟨S1,(RE.bind' hx).mono λvs hv us H2 t2 s2 r2 t'=>?_⟩
 exact hv (u::us) H2 t' (r1.1.trans s2) ⟨u,us,rfl,(r1.rv S).grow s2,r2⟩
theorem sF:∀{cs:Es} {es:List Ah} {vs:List Vl},chkEs Γ cs es=true->evs P (call P n) σ cs=.ok vs->vs.length=es.length
 | .nil,[],vs,_,h=>by cases(show R.ok []=R.ok vs from h);rfl
 | .nil,_::_,_,h,_=>by cases h
 | .cons _ _,[],_,h,_=>by cases h
 | .cons c cs,e::es,vs,hc,h=>by
  simp only[chkEs,bA] at hc
  have h:(ev P (call P n) σ c >>= λx=>evs P (call P n) σ cs >>= λxs=>R.ok (x::xs))=R.ok vs:=h
  cases q1:ev P (call P n) σ c with
  | ok x=>
   cases q2:evs P (call P n) σ cs with
   | ok xs=>
    rw[q1] at h
    have h:(evs P (call P n) σ cs >>= λxs=>R.ok (x::xs))=R.ok vs:=h
    rw[q2] at h
    cases(show R.ok (x::xs)=R.ok vs from h)
    rw[lC,lC,sF hc.2 q2]
   | exc z=>rw[q1] at h;have h:(evs P (call P n) σ cs >>= λxs=>R.ok (x::xs))=R.ok vs:=h;rw[q2] at h;cases h
   | bad=>rw[q1] at h;have h:(evs P (call P n) σ cs >>= λxs=>R.ok (x::xs))=R.ok vs:=h;rw[q2] at h;cases h
  | exc z=>rw[q1] at h;cases h
  | bad=>rw[q1] at h;cases h
theorem RE.eq{α:Type}{x:R α}{p:α->Prop}(h:RE x p):∃a,x=.ok a/\p a:=by
 cases x with
 | ok a=>exact⟨a,rfl,h⟩
 | exc e=>exact h.elim
 | bad=>exact h.elim
theorem aJj{cs:Es}{es:List Ah}{k:Nat}(ha:PA X es (WA X P n RT Y old σ cs))(hc:chkEs Γ cs es=true)(hl:es.length<=1000):PE X (.Tuple es k pos) (WE X P n RT Y old σ (.tup cs)):=by
 refine(aBP ha).imp λσV H Q t ⟨S,h⟩=>?_
 have h:=RE.bind' (show RE (evs P (call P n) σ cs >>= λvs=>R.ok (zK vs)) _ from h)
 obtain⟨vs,e,hv⟩:=h.eq
 refine⟨S,?_⟩
 show RE (evs P (call P n) σ cs) _
 rw[e]
 intro us H1 t1 s1 r1
 have hn:us.length<=sizeLine:=by rw[<-r1.length,sF hc e,B1];omega
 exact⟨hn,λp hp t'=>(show Wn X RT Y old σ σV H Q (zK vs) from hv) _ _ t' ((Ro.tup hp rfl rfl r1.all).from s1)⟩
theorem aJk{cs:Es}{es:List Ah}(ha:PA X es (WA X P n RT Y old σ cs))(hc:chkEs Γ cs es=true)(hl:es.length<=1000):PE X (.List es pos) (WE X P n RT Y old σ (.lst cs)):=by
 refine(aGg ha).imp λσV H Q t ⟨S,h⟩=>?_
 have h:=RE.bind' (show RE (evs P (call P n) σ cs >>= λvs=>R.ok (gW vs)) _ from h)
 obtain⟨vs,e,hv⟩:=h.eq
 refine⟨S,?_⟩
 show RE (evs P (call P n) σ cs) _
 rw[e]
 intro us H1 t1 s1 r1
 have hn:us.length<=sizeLine:=by rw[<-r1.length,sF hc e,B1];omega
 exact⟨hn,λp hp t'=>(show Wn X RT Y old σ σV H Q (gW vs) from hv) _ _ t' ((Ro.fresh hp t' rfl rfl (S.grow s1 t1) r1.all).from s1)⟩
theorem aEl:∀b:Bi,aCe b=true->BA (jI b)=some (aFu b):=by
 intro b hb
 cases b <;> first|kernel_rfl|cases hb
theorem dQ:∀b:Bi,jI b∈bltNames:=by
 intro b
 cases b <;> decide +kernel
theorem eP:∀b:Bi,jI b ≠ "__name__" := by
 intro b
 cases b <;> decide +kernel
theorem aLv(M:Mc X P Γ n){b:Bi}{cs:Es}{x:Str}{p:BX}{e:Ah}{es:List Ah}(hb:aCe b=true)(hx:jI b=x)(hg:bZ Γ x=true)(ho:bD x=true)(ha:PA X (e::es) (WA X P n RT Y old σ cs))(hp:(e::es).all aK=true) :
 PE X (.Call (.Name x p) (e::es) [] pos) (WE X P n RT Y old σ (.bi b cs)):=by
 subst hx
 have hp':aK e=true/\es.all aK=true:=by simpa using hp
 have body:∀(f:PE X (.Call (.Name (jI b) p) (e::es) [] pos) (tCB (rBi X b) (WA X P n RT Y old σ cs))),PE X (.Call (.Name (jI b) p) (e::es) [] pos) (WE X P n RT Y old σ (.bi b cs)):=λf=>f.imp λσV H Q t ⟨S,h⟩=>by
  have h:=RE.bind' (show RE (evs P (call P n) σ cs >>= λvs=>biD b vs) _ from h)
  refine⟨S,h.mono λvs hv us H1 t1 s1 r1=>?_⟩
  exact aCj hb (S.grow s1 t1) r1 (hv.mono λv hv u H' t r=>hv u H' t (r.from s1))
 refine body ?_
 have r:=aEi M.calm M.room.gd M.units b hb
 have bo:=aEl b hb
 cases b with
 | len=>exact jT r (M.gl hg) (M.md.blt _ (dQ _)) bo ha (eP _) (aJ ho) (aA hp'.1) (bE hp'.2)
 | min=>exact jT r (M.gl hg) (M.md.blt _ (dQ _)) bo ha (eP _) (aJ ho) (aA hp'.1) (bE hp'.2)
 | sum=>exact jT r (M.gl hg) (M.md.blt _ (dQ _)) bo ha (eP _) (aJ ho) (aA hp'.1) (bE hp'.2)
 | all=>exact jT r (M.gl hg) (M.md.blt _ (dQ _)) bo ha (eP _) (aJ ho) (aA hp'.1) (bE hp'.2)
 | list=>exact qL r (M.gl hg) (M.md.blt _ (dQ _)) bo ha (eP _) (aJ ho) (aA hp'.1) (bE hp'.2)
 | tuple=>exact qL r (M.gl hg) (M.md.blt _ (dQ _)) bo ha (eP _) (aJ ho) (aA hp'.1) (bE hp'.2)
 | _=>cases hb
theorem zR{σV:L2.St}{H H1 H':Hp}{vs:List Vl}{r:Rt}{u:V}(S1:Sx X.K RT Y old σ σV H1)(s1:aL H H1)(s':aL H1 H')(h:Rr X.K H1 H' (λb=>Od X.K H1 b/\exV RT Y old σ σV (aT vs) (bS vs) b) r u) :
 Ro X.K RT Y old σ σV H H' (eT vs r) u:=by
 obtain⟨d,fr,pa⟩:=r
 have key:∀b,exV RT Y old σ σV (eT vs (d,fr,pa)).pa (eT vs (d,fr,pa)).al b->(Od X.K H1 b/\exV RT Y old σ σV (aT vs) (bS vs) b)\/(pa=false/\Od X.K H1 b):=by
  intro b z
  have tk:=exV.trk S1 z
  cases pa with
  | true=>exact .inl ⟨tk,z⟩
  | false=>exact .inr ⟨rfl,tk⟩
 have efr:(eT vs (d,fr,pa)).fr=fr:=by unfold eT;split <;> rfl
 have ed:(eT vs (d,fr,pa)).d=d:=by unfold eT;split <;> rfl
 refine⟨s1.trans s',?_⟩
 rw[efr]
 unfold Rr at h
 cases fr with
 | true=>
  rw[if_pos rfl] at h ⊢
  obtain⟨a,xs,ds,e1,e2,e3,e4,rr⟩:=h
  exact⟨a,xs,ds,e1,by rw[ed];exact e2,⟨s1.free e3.1,e3.2⟩,e4,rr.weak λb z=>z.elim (λz=>.inl z) λz=>.inr (key b z)⟩
 | false=>
  rw[if_neg bN] at h ⊢
  unfold Rv
  rw[ed]
  exact Rep.weak h key
theorem aCn{f:Nat}{cs:Es}{σV:L2.St}{H:Hp}{Q:VK}(S:Sx X.K RT Y old σ σV H)(h:RE (ev P (call P n) σ (.call f cs)) (Wn X RT Y old σ σV H Q)) :
 WA X P n RT Y old σ cs σV H λus H1=>spA X.K P n f (us++[]) H1 (λv H'=>Tk X.K H'->Q v H') E0:=by
 have h:=RE.bind' (show RE (evs P (call P n) σ cs >>= λvs=>call P n f (vs.map (·.d)) >>= λr=>R.ok (eT vs r)) _ from h)
 refine⟨S,h.mono λvs hv us H1 t1 s1 r1=>?_⟩
 have S1:=S.grow s1 t1
 refine .inl ⟨vs.map (·.d),λb=>Od X.K H1 b/\exV RT Y old σ σV (aT vs) (bS vs) b,λa z=>z.1,by rw[Ax];exact r1.all.weak λa z=>z.2,(RE.bind' hv).mono λr hr u H' t' s' rr _=>?_⟩
 exact(show Wn X RT Y old σ σV H Q (eT vs r) from hr) u H' t' (zR S1 s1 s' rr)
theorem aGu(M:Mc X P Γ n){f:Nat}{cs:Es}{x:Str}{p:BX}{es:List Ah}(hf:Γ.fns[f]? = some x)(hg:bZ Γ x=true)(ho:bD x=true)(ha:PA X es (WA X P n RT Y old σ cs))(hp:es.all aK=true)(hc:chkEs Γ cs es=true) :
 PE X (.Call (.Name x p) es [] pos) (WE X P n RT Y old σ (.call f cs)):=by
 obtain⟨fa,fd,ps,h1,h2,h3,h4⟩:=M.md.fn f x hf
 cases es with
 | cons e es=>
  have hp':aK e=true/\es.all aK=true:=by simpa using hp
  exact(gC h4 M.room (M.gl hg) h1 h2 h3 .nil mQ ha (aJ ho) (aA hp'.1) (bE hp'.2)).imp λσV H Q t ⟨S,h⟩=>aCn S h
 | nil=>
  cases cs with
  | cons _ _=>cases hc
  | nil=>
   refine(aBR h4 M.room (M.gl hg) h1 h2 h3 .nil mQ (aJ ho)).imp λσV H Q t ⟨S,h⟩=>?_
   exact(aCn S h).2 [] H t (aL.refl H) rfl
theorem sG{i:Nat}{ds:List D}(h:dG σ i=some ds):σ[i]? = some (.dp (some ds)):=by
 unfold dG at h
 split at h
 . rename_i e
   rw[e,h]
 . cases h
theorem Sx.dpv{σV:L2.St}{H:Hp}(S:Sx X.K RT Y old σ σV H){i:Nat}{ds:List D}(e:dG σ i=some ds):∃b,σV[i]? = some (some (.ref b))/\Rep X.K H (λ_=>False) (.lst ds) (.ref b):=by
 obtain⟨N,g,_⟩:=S.lx.dp
 obtain⟨b,xs,g1,g2,_,_,g5⟩:=g i _ (sG e)
 exact⟨b,g1,b,xs,rfl,SqL.of g2,⟨λz=>z,λ_=>g2⟩,(g5 ds rfl).weak λ_ z=>z.elim⟩
theorem zS(M:Mc X P Γ n){f i:Nat}{z:Bool}{a:E}{x y:Str}{p q:BX}{ea:Ah}(hf:Γ.fns[f]? = some x)(hg:bZ Γ x=true)(ho:bD x=true)(hy:aO Γ i y=true)(ha:PE X ea (WE X P n RT Y old σ a))(hp:aK ea=true) :
 PE X (.Call (.Name x p) (if z then [ea,.Name y q] else [.Name y q,ea]) [] pos) (WE X P n RT Y old σ (.callO f z a i)):=by
 obtain⟨fa,fd,ps,h1,h2,h3,h4⟩:=M.md.fn f x hf
 unfold aO at hy
 simp only[bA] at hy
 obtain⟨⟨y1,y2⟩,y3⟩:=hy
 have hv:∀{p},PE X (.Name y p) _:=λ{p}=>lK (by rw[M.N];exact eq_of_beq y1) (M.vis y2) (aJ y3) (eO y3)
 have fin:∀{σV:L2.St} {H H1:Hp} {Q:VK} {x:Vl} {ds ds':List D} {us:List V},Sx X.K RT Y old σ σV H->Sx X.K RT Y old σ σV H1->aL H H1->Reps X.K H1 (λ_=>False) ds' us->(RE (call P n f ds' >>= λr=>R.iff (!r.2.2) (R.ok (Vl.mk r.1 r.2.1 false []))) (Wn X RT Y old σ σV H Q)) ->
  spA X.K P n f us H1 (λv H'=>Tk X.K H'->Q v H') E0:=λ{σV H H1 Q x ds ds' us} S S1 s1 rr hx=>.inl ⟨ds',λ_=>False,λ_ z=>z.elim,rr,(RE.bind' hx).mono λr hr u' H' t' s' rr _=>by
  obtain⟨hc,hw⟩:=RE.iff hr
  have hc:r.2.2=false:=by simpa using hc
  refine(show Wn X RT Y old σ σV H Q ⟨r.1,r.2.1,false,[]⟩ from hw) u' H' t' ⟨s1.trans s',?_⟩
  unfold Rr at rr
  have key:∀c,exV RT Y old σ σV false [] c->False\/r.2.2=false/\Od X.K H1 c:=λc z=>.inr ⟨hc,exV.trk S1 z⟩
  split at rr
  . rename_i hf
    rw[if_pos hf]
    obtain⟨c,xs,ds,e1,e2,e3,e4,rr⟩:=rr
    exact⟨c,xs,ds,e1,e2,⟨s1.free e3.1,e3.2⟩,e4,rr.weak λd z=>z.elim .inl λz=>.inr (key d z)⟩
  . rename_i hf
    rw[if_neg hf]
    exact Rep.weak rr key⟩
 cases z with
 | true=>
  refine(gC h4 M.room (M.gl hg) h1 h2 h3 .nil mQ (bX ha (bX hv dO rfl) (aA hp)) (aJ ho) (aA hp) (bE rfl)).imp λσV H Q t ⟨S,h⟩=>?_
  have h:=RE.bind' (show RE (ev P (call P n) σ a >>= λx=>(match dG σ i with
   | some ds=>call P n f [x.d,.lst ds] >>= λr=>R.iff (!r.2.2) (R.ok (Vl.mk r.1 r.2.1 false []))
   | none=>.bad)) _ from h)
  refine wE.one S h λx u H1 hx t1 S1 r1=>?_
  cases e:dG σ i with
  | none=>rw[e] at hx;exact hx.elim
  | some ds=>
   rw[e] at hx
   obtain⟨b,g1,g2⟩:=S1.dpv e
   exact⟨.ref b,g1,fin (x:=x) (ds:=ds) (ds':=[x.d,.lst ds]) (us:=[u,.ref b]) S S1 r1.1 ⟨u,[.ref b],rfl,Rep.weak (r1.rv S) λ_ z=>z.elim,.ref b,[],rfl,g2,rfl⟩ hx⟩
 | false=>
  refine(gC h4 M.room (M.gl hg) h1 h2 h3 .nil mQ (bX hv (bX ha dO (aA hp)) rfl) (aJ ho) rfl (bE (by simp[hp]))).imp λσV H Q t ⟨S,h⟩=>?_
  have h:=RE.bind' (show RE (ev P (call P n) σ a >>= λx=>(match dG σ i with
   | some ds=>call P n f [.lst ds,x.d] >>= λr=>R.iff (!r.2.2) (R.ok (Vl.mk r.1 r.2.1 false []))
   | none=>.bad)) _ from h)
  cases e:dG σ i with
  | none=>rw[e] at h;obtain⟨_,_,h⟩:=h.eq;exact h.elim
  | some ds=>
   rw[e] at h
   obtain⟨b,g1,g2⟩:=S.dpv e
   refine⟨.ref b,g1,wE.one S h λx u H1 hx t1 S1 r1=>?_⟩
   exact fin (x:=x) (ds:=ds) (ds':=[.lst ds,x.d]) (us:=[.ref b,u]) S S1 r1.1 ⟨.ref b,[u],rfl,g2.grow r1.1,u,[],rfl,Rep.weak (r1.rv S) λ_ z=>z.elim,rfl⟩ hx
theorem zT(M:Mc X P Γ n){i:Nat}{a:E}{y:Str}{q:BX}{ea:Ah}(hy:aO Γ i y=true)(ha:PE X ea (WE X P n RT Y old σ a))(hp:aK ea=true):PT X (.Compare (.Name y q) [.NotEq] [ea] pos) (WT X P n RT Y old σ (.neO i a)):=by
 unfold aO at hy
 simp only[bA] at hy
 obtain⟨⟨y1,y2⟩,y3⟩:=hy
 refine(nL (eM (RT:=λ_=>False) (Y:=λ_=>False) (old:=λ_=>False) M .NotEq) (lK (by rw[M.N];exact eq_of_beq y1) (M.vis y2) (aJ y3) (eO y3)) ha (fS hp)).imp λσV H Q t ⟨S,h⟩=>?_
 have h:=RE.bind' (show RE (ev P (call P n) σ a >>= λx=>(match dG σ i with
  | some ds=>(match bL .NotEq (.lst ds) x.d with
   | some k=>R.ok k
   | none=>.bad)
  | none=>.bad)) _ from h)
 cases e:dG σ i with
 | none=>rw[e] at h;obtain⟨_,_,h⟩:=h.eq;exact h.elim
 | some ds=>
  rw[e] at h
  obtain⟨b,g1,g⟩:=S.dpv e
  refine⟨.ref b,g1,wE.one S h λx u H1 hx t1 S1 r1=>?_⟩
  have hx:RE (match bL .NotEq (.lst ds) x.d with
   | some k=>R.ok k
   | none=>.bad) _:=hx
  split at hx
  . rename_i k hk
    exact⟨σ,σV,⟨.lst ds,false,true,[]⟩,x,k,(g.grow r1.1).weak λc z=>by rcases z with z|z|z <;> first|exact z.1|exact z|exact z.2,(r1.rv S).weak λc z=>by rcases z with z|z|z <;> first|exact z.1.elim|exact z.elim|exact z.2.elim,hk,k,rfl,λt'=>hx _ t' r1.1⟩
  . exact hx.elim
theorem aCo{K:Fg}{H:Hp}{a:Addr}(h:¬ Od K H a):H a=none/\K.lookup a=none:=⟨AF λz=>h λy=>absurd y z,AF λz=>h λ_=>z⟩
theorem aGv(M:Mc X P Γ n){i:Nat}{a:E}{m x:Str}{p ap:BX}{ea:Ah}(hm:m=("get" : Str))(hx:Γ.tbs[i]? = some x)(hg:bZ Γ x=true)(ho:bD x=true)(hl:(ap.endLine==pos.line)=true)
 (ha:PE X ea (WE X P n RT Y old σ a)) (hp:aK ea=true):PE X (.Call (.Attribute (.Name x p) m ap) [ea] [] pos) (WE X P n RT Y old σ (.tget i a)):=by
 subst hm
 obtain⟨b,t,h1,h2,h3⟩:=M.md.tab i x hx
 refine(aEj h3 (M.gl hg) h1 (aJ ho) ha hl (aA hp)).imp λσV H Q tk ⟨S,h⟩=>?_
 have h:=RE.bind' (show RE (ev P (call P n) σ a >>= λx=>(match x.d,P.tabs[i]? with|.str k,some t=>R.ok (Vl.cl ((t.lookup k).getD .non))|_,_=>.bad)) _ from h)
 refine wE.one S h λy u H1 hy t1 S1 r1=>?_
 rw[h2] at hy
 cases hd:y.d with
 | str k=>
  rw[hd] at hy
  have hu:u=.str k:=by
   have z:=r1.rv S
   unfold Rv at z
   rw[hd] at z
   exact z
  exact⟨k,hu,λv hv t'=>(show Wn X RT Y old σ σV H Q (Vl.cl ((t.lookup k).getD .non)) from hy) v H1 t' (Ro.val r1.1 (hv H1))⟩
 | _=>rw[hd] at hy;exact hy.elim
theorem aBa{c:Cl}{cv:Value}{x:Str}(hc:uR c=some cv)(hx:xO Γ c=some x):BA x=some cv/\x∈bltNames/\x ≠ "__name__" := by
 cases c <;> cases hc <;> cases hx <;> exact⟨by kernel_rfl,by decide +kernel,by decide +kernel⟩
theorem aJl(M:Mc X P Γ n){a:E}{c:Cl}{cv:Value}{f x:Str}{pf py:BX}{ea:Ah}(hf:f=("isinstance" : Str))(hg:bZ Γ f=true)(hc:uR c=some cv)(hx:xO Γ c=some x)(hgx:bZ Γ x=true)(hox:bD x=true)
 (ha:PE X ea (WE X P n RT Y old σ a)) (hp:aK ea=true):PE X (.Call (.Name f pf) [ea,.Name x py] [] pos) (WE X P n RT Y old σ (.isi a [c])):=by
 subst hf
 intro pins s σV H Q I hw
 obtain⟨S,h⟩:=hw
 have h:=RE.bind' (show RE (ev P (call P n) σ a >>= λx=>(match isI [c] P x.d with|some k=>R.ok (Vl.cl (.bl k))|none=>.bad)) _ from h)
 obtain⟨b1,b2,b3⟩:=aBa hc hx
 refine Cg (gU I (M.gl hg) (M.md.blt _ (by decide +kernel)) (show BA "isinstance" = some (.builtin "isinstance") by kernel_rfl) ?_ (by decide +kernel) (by decide +kernel))
 refine CP ?_ (aA hp) rfl
 rw[aA hp]
 show Au _ _ (G9 ((false,C3 ea X.env)::Dp pos (AN [.Name x py] X.env))) _ _ s
 refine Dr (thn (ha pins s σV H (λu H1=>∃y k,Rv X.K RT Y old σ σV H1 y u/\isI [c] P y.d=some k/\Q (.bl k) H1) I (wE.one S h λy u H1 hy t1 S1 r1=>?_)) λv s1 ⟨u,H1,I1,ru,y,k,hy,hk,q⟩=>?_)
 . split at hy
   . rename_i k hk
     exact⟨y,k,r1.rv S,hk,(show Wn X RT Y old σ σV H Q (Vl.cl (.bl k)) from hy) _ _ t1 (Ro.cl r1.1 rfl)⟩
   . exact hy.elim
 . show Au _ _ (G9 ((false,C3 (.Name x py) X.env)::Dp pos (AN [] X.env))) _ _ s1
   refine Dr (gU I1 (M.gl hgx) (M.md.blt _ b2) b1 (EU ?_) b3 (aJ hox))
   exact aAZ P I1 ru hy hc hk q
end
section
variable {X:Cx} {P:Pg} {Γ:Ct} {n:Nat} {RT Y old:Addr->Prop} {σ:Sg} {pos:BX}
theorem oI{o o':CmpOp}{eb ec:Ah}(hq:aK ec=true):G3 [o,o'] [eb,ec]=false:=fS hq
theorem aGw(M:Mc X P Γ n){o o':CmpOp}{a b c:E}{ea eb ec:Ah}(ha:PE X ea (WE X P n RT Y old σ a))(hb:PE X eb (WE X P n RT Y old σ b))(hc:PE X ec (WE X P n RT Y old σ c))(hq:aK ec=true) :
 PE X (.Compare ea [o,o'] [eb,ec] pos) (WE X P n RT Y old σ (.cmp2 o o' a b c)):=by
 refine(aBL (eM (RT:=RT) (Y:=Y) (old:=old) M o) (eM (RT:=RT) (Y:=Y) (old:=old) M o') ha hb hc (oI hq)).imp λσV H Q t ⟨S,h⟩=>?_
 have h:=RE.bind' (show RE (ev P (call P n) σ a >>= λx=>ev P (call P n) σ b >>= λy=>(match bL o x.d y.d with
  | some true=>ev P (call P n) σ c >>= λz=>(match bL o' y.d z.d with|some k=>R.ok (Vl.cl (.bl k))|none=>.bad)
  | some false=>R.ok (Vl.cl (.bl false))
  | none=>.bad)) _ from h)
 refine wE.two S (h.mono λx hx=>RE.bind' hx) λx y ux uy H2 hp t2 s2 S2 hx hy=>?_
 split at hp
 . rename_i hk
   refine⟨σ,σV,x,y,true,hx,hy,hk,true,rfl,?_⟩
   rw[if_pos rfl]
   refine wE.one S2 (RE.bind' hp) λz u H3 hz t3 S3 r3=>?_
   split at hz
   . rename_i k' hk'
     exact⟨σ,σV,y,z,k',hy.grow r3.1,r3.rv S2,hk',λt'=>hz _ _ t' (Ro.cl (s2.trans r3.1) rfl)⟩
   . exact hz.elim
 . rename_i hk
   refine⟨σ,σV,x,y,false,hx,hy,hk,false,rfl,?_⟩
   rw[if_neg bN]
   exact λt'=>hp _ _ t' (Ro.cl s2 rfl)
 . exact hp.elim
theorem aGx(M:Mc X P Γ n){o o':CmpOp}{a b c:E}{ea eb ec:Ah}(ha:PE X ea (WE X P n RT Y old σ a))(hb:PE X eb (WE X P n RT Y old σ b))(hc:PE X ec (WE X P n RT Y old σ c))(hq:aK ec=true) :
 PT X (.Compare ea [o,o'] [eb,ec] pos) (WT X P n RT Y old σ (.cmp2 o o' a b c)):=by
 refine(aBM (eM (RT:=RT) (Y:=Y) (old:=old) M o) (eM (RT:=RT) (Y:=Y) (old:=old) M o') ha hb hc (oI hq)).imp λσV H Q t ⟨S,h⟩=>?_
 have h:=RE.bind' (show RE (ev P (call P n) σ a >>= λx=>ev P (call P n) σ b >>= λy=>(match bL o x.d y.d with
  | some true=>ev P (call P n) σ c >>= λz=>(match bL o' y.d z.d with|some k=>R.ok k|none=>.bad)
  | some false=>R.ok false
  | none=>.bad)) _ from h)
 refine wE.two S (h.mono λx hx=>RE.bind' hx) λx y ux uy H2 hp t2 s2 S2 hx hy=>?_
 split at hp
 . rename_i hk
   refine⟨σ,σV,x,y,true,hx,hy,hk,true,rfl,?_⟩
   rw[if_pos rfl]
   refine wE.one S2 (RE.bind' hp) λz u H3 hz t3 S3 r3=>?_
   split at hz
   . rename_i k' hk'
     exact⟨σ,σV,y,z,k',hy.grow r3.1,r3.rv S2,hk',k',rfl,λt'=>hz _ t' (s2.trans r3.1)⟩
   . exact hz.elim
 . rename_i hk
   refine⟨σ,σV,x,y,false,hx,hy,hk,false,rfl,?_⟩
   rw[if_neg bN]
   exact⟨false,rfl,λt'=>hp _ t' s2⟩
 . exact hp.elim
theorem jK{a:E}{ea:Ah}(ha:PT X ea (WT X P n RT Y old σ a)):PT X (.UnaryOp .Not ea pos) (WT X P n RT Y old σ (.nt a)):=by
 refine(aFQ ha).imp λσV H Q t ⟨S,h⟩=>?_
 have h:=RE.bind' (show RE (tst P (call P n) σ a >>= λx=>R.ok (!x)) _ from h)
 exact⟨S,h.mono λk hk H1 t1 s1 t'=>(show ∀H',Tk X.K H'->aL H H'->Q (!k) H' from hk) _ t' s1⟩
theorem aCp{e:Ah}{t t':TT}(h:PW X e t)(f:∀σV H Q,Tk X.K H->t' σV H Q->t σV H λv H'=>Tk X.K H'->Q v H'):PW X e t':=λwh pins s σV H Q I hw=>
 thn (h wh pins s σV H _ I (f σV H Q I.tk hw)) λk s' ⟨H',I',q⟩=>⟨H',I',q I'.tk⟩
theorem aJm{a b:E}{ea eb:Ah}{r:List Ah}(ha:PT X ea (WT X P n RT Y old σ a))(hb:PW X (.BoolOp .And (eb::r) pos) (WT X P n RT Y old σ b)):PW X (.BoolOp .And (ea::eb::r) pos) (WT X P n RT Y old σ (.an a b)):=by
 refine aCp (aFP ha hb) λσV H Q t ⟨S,h⟩=>?_
 have h:=RE.bind' (show RE (tst P (call P n) σ a >>= λx=>if x=true then tst P (call P n) σ b else R.ok false) _ from h)
 refine⟨S,h.mono λk hk H1 t1 s1=>?_⟩
 cases k with
 | true=>rw[if_pos rfl] at hk ⊢;exact⟨S.grow s1 t1,hk.mono λv hv H' t s' _=>hv H' t (s1.trans s')⟩
 | false=>rw[if_neg bN] at hk ⊢;exact λt'=>(show ∀H',Tk X.K H'->aL H H'->Q false H' from hk) _ t' s1
theorem aFw{a b:E}{ea eb:Ah}{r:List Ah}(ha:PT X ea (WT X P n RT Y old σ a))(hb:PW X (.BoolOp .Or (eb::r) pos) (WT X P n RT Y old σ b)):PW X (.BoolOp .Or (ea::eb::r) pos) (WT X P n RT Y old σ (.orr a b)):=by
 refine aCp (aIk ha hb) λσV H Q t ⟨S,h⟩=>?_
 have h:=RE.bind' (show RE (tst P (call P n) σ a >>= λx=>if x=true then R.ok true else tst P (call P n) σ b) _ from h)
 refine⟨S,h.mono λk hk H1 t1 s1=>?_⟩
 cases k with
 | true=>rw[if_pos rfl] at hk ⊢;exact λt'=>(show ∀H',Tk X.K H'->aL H H'->Q true H' from hk) _ t' s1
 | false=>rw[if_neg bN] at hk ⊢;exact⟨S.grow s1 t1,hk.mono λv hv H' t s' _=>hv H' t (s1.trans s')⟩
def wO(X:Cx)(P:Pg)(n:Nat)(RT Y old:Addr->Prop)(σ:Sg)(cs:Es):TO:=λσV H Q=>Sx X.K RT Y old σ σV H/\RE (evs P (call P n) σ cs) λvs=>
 (vs=[]/\∀H',Tk X.K H'->aL H H'->Q none H')\/∃v i,vs=[v]/\v.d=.int i/\∀H',Tk X.K H'->aL H H'->Q (some i) H'
theorem aCq{e:Option Ah}{t t':TO}(h:PO X e t)(f:∀σV H Q,Tk X.K H->t' σV H Q->t σV H λv H'=>Tk X.K H'->Q v H'):PO X e t':=λpins s σV H Q I hw=>
 thn (h pins s σV H _ I (f σV H Q I.tk hw)) λu s' ⟨o,H',I',r,q⟩=>⟨o,H',I',r,q I'.tk⟩
theorem aJn:PO X none (wO X P n RT Y old σ .nil):=aCq aDT λσV H Q t ⟨S,h⟩ t'=>by
 rcases(show([]:List Vl)=[]/\_\/_ from h) with⟨_,q⟩|⟨v,i,e,_⟩
 . exact q H t' (aL.refl H)
 . cases e
theorem aJo{c:E}{e:Ah}(ha:PE X e (WE X P n RT Y old σ c)):PO X (some e) (wO X P n RT Y old σ (.cons c .nil)):=by
 refine aCq (aDU ha) λσV H Q t ⟨S,h⟩=>?_
 have h:=RE.bind' (show RE (ev P (call P n) σ c >>= λx=>evs P (call P n) σ .nil >>= λxs=>R.ok (x::xs)) _ from h)
 refine wE.one S h λx u H1 hx t1 S1 r1=>?_
 rcases(show([x]:List Vl)=[]/\_\/∃v i,([x]:List Vl)=[v]/\_/\_ from hx) with⟨e,_⟩|⟨v,i,e,hd,q⟩
 . cases e
 . cases e
   exact⟨i,(r1.rv S).int hd,λt'=>q _ t' r1.1⟩
theorem aJp{a:E}{lo hi:Es}{ea:Ah}{el eh:Option Ah}{p2:BX}(ha:PE X ea (WE X P n RT Y old σ a))(hl:PO X el (wO X P n RT Y old σ lo))(hh:PO X eh (wO X P n RT Y old σ hi)) :
 PE X (.Subscript ea (.Slice el eh none p2) pos) (WE X P n RT Y old σ (.sli a lo hi)):=by
 refine(aBT (aGs (X:=X)) ha hl hh).imp λσV H Q t ⟨S,h⟩=>?_
 have h:=RE.bind' (show RE (ev P (call P n) σ a >>= λx=>evs P (call P n) σ lo >>= λl=>evs P (call P n) σ hi >>= λh=>(match l,h with
  | [],[]=>eE x none none
  | [l],[]=>(match l.d with|.int l=>R.iff (aH l) (eE x (some l) none)|_=>.bad)
  | [],[h]=>(match h.d with|.int h=>R.iff (aH h) (eE x none (some h))|_=>.bad)
  | [l],[h]=>(match l.d,h.d with|.int l,.int h=>R.iff (aH l&&aH h) (eE x (some l) (some h))|_,_=>.bad)
  | _,_=>.bad)) _ from h)
 refine wE.one S h λx u H1 hx t1 S1 r1=>?_
 have hx:=RE.bind' hx
 refine⟨S1,hx.mono λl hl=>?_⟩
 have hl:=RE.bind' hl
 have up:∀(L:Option Int) (H2:Hp),Tk X.K H2->aL H1 H2->(RE (evs P (call P n) σ hi) λh=>(h=[]/\RE (eE x L none) (Wn X RT Y old σ σV H Q))\/∃v i,h=[v]/\v.d=.int i/\RE (eE x L (some i)) (Wn X RT Y old σ σV H Q)) ->
  wO X P n RT Y old σ hi σV H2 λhv H3=>aBW X.K u L hv H3 (λv H'=>Tk X.K H'->Q v H')\/aBU X.K u L hv H3 (λv H'=>Tk X.K H'->Q v H')\/uQ X.K u L hv H3 (λv H'=>Tk X.K H'->Q v H')\/aCi u L hv H3 (λv H'=>Tk X.K H'->Q v H'):=by
  intro L H2 t2 s2 hh
  refine⟨S1.grow s2 t2,hh.mono λhv hq=>?_⟩
  have fin:∀(U:Option Int) (H3:Hp),Tk X.K H3->aL H2 H3->RE (eE x L U) (Wn X RT Y old σ σV H Q) ->
   aBW X.K u L U H3 (λv H'=>Tk X.K H'->Q v H')\/aBU X.K u L U H3 (λv H'=>Tk X.K H'->Q v H')\/uQ X.K u L U H3 (λv H'=>Tk X.K H'->Q v H')\/aCi u L U H3 (λv H'=>Tk X.K H'->Q v H'):=λU H3 t3 s3 hs=>
   aAV (S1.grow (s2.trans s3) t3) t3 ((r1.rv S).grow (s2.trans s3)) (hs.mono λv hv u H' t r=>hv u H' t (r.from (r1.1.trans (s2.trans s3))))
  rcases hq with⟨e,hs⟩|⟨v,i,e,hd,hs⟩
  . exact .inl ⟨e,λH3 t3 s3=>fin none H3 t3 s3 hs⟩
  . exact .inr ⟨v,i,e,hd,λH3 t3 s3=>fin (some i) H3 t3 s3 hs⟩
 match l,hl with
 | [],hl=>
  refine .inl ⟨rfl,λH2 t2 s2=>up none H2 t2 s2 (hl.mono λh hh=>?_)⟩
  match h,hh with
  | [],hh=>exact .inl ⟨rfl,hh⟩
  | [h],hh=>
   have hh:RE (match h.d with|.int h=>R.iff (aH h) (eE x none (some h))|_=>.bad) _:=hh
   split at hh
   . rename_i i hd
     exact .inr ⟨h,i,rfl,hd,hh.iff.2⟩
   . exact hh.elim
  | _::_::_,hh=>exact hh.elim
 | [l],hl=>
  have hd:∃i,l.d=.int i:=by
   obtain⟨h,_,hh⟩:=hl.eq
   match h,hh with
   | [],hh=>
    have hh:RE (match l.d with|.int l=>R.iff (aH l) (eE x (some l) none)|_=>.bad) _:=hh
    split at hh
    . rename_i i hd;exact⟨i,hd⟩
    . exact hh.elim
   | [h],hh=>
    have hh:RE (match l.d,h.d with|.int l,.int h=>R.iff (aH l&&aH h) (eE x (some l) (some h))|_,_=>.bad) _:=hh
    split at hh
    . rename_i i j hd _;exact⟨i,hd⟩
    . exact hh.elim
   | _::_::_,hh=>exact hh.elim
  obtain⟨i,hd⟩:=hd
  refine .inr ⟨l,i,rfl,hd,λH2 t2 s2=>up (some i) H2 t2 s2 (hl.mono λh hh=>?_)⟩
  match h,hh with
  | [],hh=>
   have hh:RE (match l.d with|.int l=>R.iff (aH l) (eE x (some l) none)|_=>.bad) _:=hh
   rw[hd] at hh
   exact .inl ⟨rfl,hh.iff.2⟩
  | [h],hh=>
   have hh:RE (match l.d,h.d with|.int l,.int h=>R.iff (aH l&&aH h) (eE x (some l) (some h))|_,_=>.bad) _:=hh
   rw[hd] at hh
   split at hh
   . rename_i i' j e1 e2
     cases e1
     exact .inr ⟨h,j,rfl,e2,hh.iff.2⟩
   . exact hh.elim
  | _::_::_,hh=>exact hh.elim
 | _::_::_,hl=>exact(by
     obtain⟨h,_,hh⟩:=hl.eq
     match h,hh with
     | [],hh=>exact hh.elim
     | [_],hh=>exact hh.elim
     | _::_::_,hh=>exact hh.elim)
end
end Hp
end
noncomputable section
namespace L2
open PySem PySem.Spec PyProof.Rows
set_option maxRecDepth 100000
instance:LawfulBEq Key where
 eq_of_beq:=λ{a b} h=>by
  cases a with
  | inl x=>cases b with
   | inl y=>exact congrArg DK (eq_of_beq (show(x==y)=true from h))
   | inr y=>cases h
  | inr x=>cases b with
   | inl y=>cases h
   | inr y=>exact congrArg Bp (eq_of_beq (show(x==y)=true from h))
 rfl:=λ{a}=>by
  cases a with
  | inl x=>exact(beq_self_eq_true x:(x==x)=true)
  | inr x=>exact(beq_self_eq_true x:(x==x)=true)
section
variable {prog:Av} {w:AG} {A:AY} {R:FN->Ae->Prop} {I:Addr} {fp wr:List Addr} {G:Array FJ->Array FJ->Prop} {n:Nat} {P:Nat->Value->Prop} {St:Nat->Ae->Prop}
end
section
variable {prog:Av} {w:AG} {A:AY} {E:Value->Ae->Prop} {s:Ae}
end
end L2
end
noncomputable section
namespace Hp
open PySem PySem.Spec PyProof.Rows L2
section
variable {X:Cx} {P:Pg} {Γ:Ct} {n:Nat} {RT Y old:Addr->Prop} {σ:Sg} {pos:BX} {K:Fg} {H:Hp}
end
end Hp
end
noncomputable section
namespace L2
open PySem PySem.Spec PyProof.Rows
section
variable {X:Cx} {pins:List (Addr×Obj)} {σ:St} {H:Hp} {s:Ae} {h':Heap}
theorem Inv.turnsNew{its:List Addr}{T:Addr}{o:HO}{t':Nat}(I:Inv X pins σ H s)(f:∀b∈its,jS X pins H b)(k:∀b o,b∉its->s.heap.get? b=some o->h'.get? b=some o)(there:∀b∈its,∃o,h'.get? b=some o)
 (hT:s.heap.objs.size<=T) (new:dZ X.prog X.w (upd H T o) h' T o):Inv X pins σ (upd H T o) { s with heap:=h',toks:=t' }:=by
 have nit:∀b u,H b=some u->b∉its:=λb u e z=>by rw[(f b z).1] at e;cases e
 have hn:H T=none:=I.hok.fresh hT
 have neT:∀b o,s.heap.get? b=some o->b≠T:=λb o e=>A6 (A1 (An e) hT)
 refine I.step (g':=s.gens) (d':=s.drawn) (ch:=its) (λb hb=>?_) (λb o _ _ hc e _=>k b o hc e) (λb o _ _ hc e _=>⟨o.slots,k b o hc e⟩) (λb o _ e n=>by rw[aN (neT b o e)];exact n)
  (λb o hc e=>⟨o,k b o hc e⟩) (λb xs e=>by rw[aN (bB e hn)];exact e) (λb o u e=>by rw[aN (bB e hn)];exact e) (λb ps e=>⟨#[],by rw[aN (bB e hn),e];simp⟩) (λm hm=>?_) (λb u e=>?_) I.bare
 . obtain⟨_,f1,f2,f3,f4,f5⟩:=f b hb
   exact⟨f3,f1,f4,f5⟩
 . obtain⟨o,es,ep,ho,r⟩:=hm
   exact⟨o,es,ep,k _ o (λz=>(f _ z).2.1 rfl) ho,r⟩
 . by_cases hb:b=T
   . subst hb
     rw[aW] at e
     cases e
     exact new
   . rw[aN hb] at e
     refine(I.hok b u e).stay (λc v hc q=>k c v ?_ q) (λc q=>by rw[aN (bB q hn)];exact q) λc xs q=>by rw[aN (bB q hn)];exact q
     rcases hc with z|z
     . rw[z];exact nit b u e
     . exact nit c _ z
theorem Inv.turns{its:List Addr}{t':Nat}(I:Inv X pins σ H s)(f:∀b∈its,jS X pins H b)(k:∀b o,b∉its->s.heap.get? b=some o->h'.get? b=some o):Inv X pins σ H { s with heap:=h',toks:=t' }:=by
 have nit:∀b u,H b=some u->b∉its:=λb u e z=>by rw[(f b z).1] at e;cases e
 refine I.step (g':=s.gens) (d':=s.drawn) (ch:=its) (λb hb=>?_) (λb o _ _ hc e _=>k b o hc e) (λb o _ _ hc e _=>⟨o.slots,k b o hc e⟩) (λb o _ e n=>n)
  (λb o hc e=>⟨o,k b o hc e⟩) (λb xs e=>e) (λb o u e=>e) (λb ps e=>⟨#[],by rw[e];simp⟩) (λm hm=>?_) (λb u e=>?_) I.bare
 . obtain⟨_,f1,f2,f3,f4,f5⟩:=f b hb
   exact⟨f3,f1,f4,f5⟩
 . obtain⟨o,es,ep,ho,r⟩:=hm
   exact⟨o,es,ep,k _ o (λz=>(f _ z).2.1 rfl) ho,r⟩
 . refine(I.hok b u e).stay (λc v hc q=>k c v ?_ q) (λc q=>q) λc xs q=>q
   rcases hc with z|z
   . rw[z];exact nit b u e
   . exact nit c _ z
theorem Inv.newK(I:Inv X pins σ H s):X.K.lookup s.heap.objs.size=none:=by
 cases q:X.K.lookup s.heap.objs.size with
 | none=>rfl
 | some o=>exact absurd (An (I.bk _ o (I.ok.mod.kin _ o q))) (AM _)
def Sq(k:Bool)(K:Ak)(H:Hp)(a:Addr)(xs:List V):Prop:=match k with
 | true=>SqL K H a xs
 | false=>SqT K H a xs
def dR(k:Bool)(h:Heap)(a:Addr)(its:Array Value):Prop:=match k with
 | true=>h.IsList a its
 | false=>h.IsTuple a its
def cI(k:Bool)(h:Heap)(it a:Addr)(i:Nat):Prop:=match k with
 | true=>h.IsListIter it a i
 | false=>h.IsTupleIter it a i
theorem dR.at{k:Bool}{h:Heap}{a:Addr}{its:Array Value}(q:dR k h a its)(e:∀o,h.get? a=some o->h'.get? a=some o):dR k h' a its:=by
 cases k with
 | true=>exact Heap.IsList.at q e
 | false=>exact Heap.IsTuple.at q e
theorem cI.at{k:Bool}{h:Heap}{a it:Addr}{i:Nat}(q:cI k h it a i)(e:∀o,h.get? it=some o->h'.get? it=some o):cI k h' it a i:=by
 cases k with
 | true=>exact Heap.IsListIter.at q e
 | false=>exact Heap.IsTupleIter.at q e
theorem cI.obj{k:Bool}{h:Heap}{a it:Addr}{i:Nat}(q:cI k h it a i):∃o,h.get? it=some o/\∀v,o.data≠.cell v:=by
 cases k with
 | true=>obtain⟨o,e,c,d⟩:=q;exact⟨o,e,λv z=>by rw[d] at z;cases z⟩
 | false=>obtain⟨o,e,c,d⟩:=q;exact⟨o,e,λv z=>by rw[d] at z;cases z⟩
theorem Inv.sq{k:Bool}{a:Addr}{xs:List V}(I:Inv X pins σ H s)(h:Sq k X.K H a xs):∃its:List Value,aV xs its/\dR k s.heap a its.toArray/\xs.length<=sizeLine:=by
 cases k with
 | true=>obtain⟨its,r,p,z⟩:=I.list h;exact⟨its,r,p.isList,z⟩
 | false=>obtain⟨its,r,p,z⟩:=I.tuple h;exact⟨its,r,p,z⟩
theorem Inv.sq_inj{k:Bool}{a:Addr}{xs ys:List V}(I:Inv X pins σ H s)(h:Sq k X.K H a xs)(h':Sq k X.K H a ys):xs=ys:=by
 cases k with
 | true=>exact I.list_inj h h'
 | false=>exact I.tuple_inj h h'
theorem Sq.there{k:Bool}{K:Ak}{a:Addr}{xs:List V}(h:Sq k K H a xs):H a≠none\/∃o,K.lookup a=some o:=by
 cases k with
 | true=>
  rcases h with(h|⟨o,h⟩)|⟨o,its,n,q,_⟩
  . exact .inl (by rw[h];simp)
  . exact .inl (by rw[h];simp)
  . exact .inr ⟨_,q⟩
 | false=>
  rcases h with(h|⟨o,h⟩)|⟨o,its,n,q,_⟩
  . exact .inl (by rw[h];simp)
  . exact .inl (by rw[h];simp)
  . exact .inr ⟨_,q⟩
theorem Inv.sqNe{k:Bool}{a b:Addr}{xs:List V}(I:Inv X pins σ H s)(h:Sq k X.K H a xs)(f:jS X pins H b):a≠b:=by
 intro e
 subst e
 rcases h.there with z|⟨o,z⟩
 . exact z f.1
 . have hb:=I.ok.mod.kin a o z
   rcases f.2.2.2.1 with q|q
   . exact I.ok.noex a o hb q
   . exact absurd (A1 (An hb) (AW I.ok.bsz q)) (AM _)
end
section
variable {prog:Av} {w:AG} {A:AY} {E:Value->Ae->Prop} {s:Ae}
theorem kA{it l:Addr}{i:Nat}{items}{x:Value}{Q:Value->Ae->Prop}(hit:s.heap.IsTupleIter it l i)
 (hl:s.heap.IsTuple l items) (hx:items[i]? = some x)
 (hQ:∀h',h'.IsTupleIter it l (i+1)->Bw it s.heap h'->Q x { s with heap:=h' }) :
 Au (A3 prog w) A (A8 (.ref it)) Q E s:=by
 obtain⟨o,ho,hc,hd⟩:=id hit
 obtain⟨ol,hol,_,nl,hdl⟩:=hl
 unfold A8
 refine Aa (AU (name:=Ci "__next__") hit.typeIs BH
  (Bu BH hit.typeIs Dj ?_ (Df _)))
 show Au _ _ (Er (.ref it) 0 >>= _) _ _ s
 refine Aa (AL ho hd (x:=.ref l) rfl ?_)
 show Au _ _ (if (CO l==CM)=true then _ else _) _ _ s
 rw[if_neg (show ¬ ((CO l==CM)=true) from bN)]
 show Au _ _ (Er (.ref it) 1 >>= _) _ _ s
 refine Aa (AL ho hd (x:=.int i 0) rfl ?_)
 show Au _ _ (G7 (.ref l) >>= _) _ _ s
 refine Aa (BI hol hdl ?_)
 simp only[Cw,hx]
 refine Aa (Gc ho hd (by simp) (Ar ⟨x,rfl,Ar (hQ _ ?_ (E2 ..))⟩))
 exact⟨_,Ei _ ho (Obj.isFreed_of_fields (EJ hd _)),(Obj.cls_mapFields ..).trans hc,by
  rw[EJ hd];simp[Em]⟩
theorem lQ{it l:Addr}{i:Nat}{items}{Q:Value->Ae->Prop}(hh:A.handled=none)
 (hit:s.heap.IsTupleIter it l i) (hl:s.heap.IsTuple l items) (hx:items[i]? = none)
 (hE:∀h' e,F7 it s.heap h'->(∃o,h'.get? e=some o/\o.cls=.type "StopIteration")->E (.ref e) { s with heap:=h' }) :
 Au (A3 prog w) A (A8 (.ref it)) Q E s:=by
 obtain⟨o,ho,hc,hd⟩:=id hit
 obtain⟨ol,hol,_,nl,hdl⟩:=hl
 unfold A8
 refine Aa (AU (name:=Ci "__next__") hit.typeIs BH
  (Bu BH hit.typeIs Dj ?_ (Df _)))
 show Au _ _ (Er (.ref it) 0 >>= _) _ _ s
 refine Aa (AL ho hd (x:=.ref l) rfl ?_)
 show Au _ _ (if (CO l==CM)=true then _ else _) _ _ s
 rw[if_neg (show ¬ ((CO l==CM)=true) from bN)]
 show Au _ _ (Er (.ref it) 1 >>= _) _ _ s
 refine Aa (AL ho hd (x:=.int i 0) rfl ?_)
 show Au _ _ (G7 (.ref l) >>= _) _ _ s
 refine Aa (BI hol hdl ?_)
 simp only[Cw,hx]
 refine Aa (DY (Aa (Gc ho hd (by simp) ?_)))
 show Au _ _ (newExc (.type "StopIteration") [] >>= _) _ _ _
 refine Aa ?_
 simp only[newExc,newTuple]
 refine Aa (B6 ?_ (by size_fits))
 refine Aa (m:=Gd _ _) (wpAny_of_eq (a:=CM) (by first|rfl|(simp only[Gd];rfl)) ?_)
 refine B6 ?_ (by size_fits)
 simp only[raiseNew]
 refine Aa (wpAny_handled ?_)
 first|rw[show A.in1.handled=none from hh]|rw[hh]
 refine Aa (Ar (wpAny_throw ?_))
 exact hE _ _ (((E2 ..).extBut.push _).push _) ⟨_,As _ rfl,rfl⟩
theorem fC{k:Bool}{it l:Addr}{i:Nat}{items:Array Value}{x:Value}{Q:Value->Ae->Prop}(hit:cI k s.heap it l i)(hl:dR k s.heap l items)(hx:items[i]? = some x)
 (hQ:∀h',cI k h' it l (i+1)->Bw it s.heap h'->Q x { s with heap:=h' }):Au (A3 prog w) A (A8 (.ref it)) Q E s:=by
 cases k with
 | true=>exact wpAny_nextOf_list_item hit hl hx hQ
 | false=>exact kA hit hl hx hQ
theorem jL{k:Bool}{it l:Addr}{i:Nat}{items:Array Value}{Q:Value->Ae->Prop}(hh:A.handled=none)(hit:cI k s.heap it l i)(hl:dR k s.heap l items)(hx:items[i]? = none)
 (hE:∀h' e,F7 it s.heap h'->(∃o,h'.get? e=some o/\o.cls=.type "StopIteration")->E (.ref e) { s with heap:=h' }):Au (A3 prog w) A (A8 (.ref it)) Q E s:=by
 cases k with
 | true=>exact wpAny_nextOf_list_end hh hit hl hx hE
 | false=>exact lQ hh hit hl hx hE
theorem aBb{ka kb:Bool}{z TI TO i1 i2 l1 l2:Addr}{k1 k2:Nat}{xs ys:Array Value}{x y a b:Value}{Q:Value->Ae->Prop}(D:Fe z TI TO i1 i2 l1 l2)
 (hz:Dw s.heap z TI TO .none) (hTI:BC s.heap TI (.ref i1) (.ref i2)) (hTO:BC s.heap TO a b)
 (h1:cI ka s.heap i1 l1 k1) (h2:cI kb s.heap i2 l2 k2) (hl1:dR ka s.heap l1 xs) (hl2:dR kb s.heap l2 ys) (hx:xs[k1]? = some x) (hy:ys[k2]? = some y)
 (hQ:∀h',Dw h' z TI TO (Em s.heap.objs.size)->BC h' TO x y->cI ka h' i1 l1 (k1+1)->cI kb h' i2 l2 (k2+1)->BC h' s.heap.objs.size x y->h'.objs.size=s.heap.objs.size+1 ->
  (∀c o,c≠z->c≠TO->c≠i1->c≠i2->s.heap.get? c=some o->h'.get? c=some o)->Q (.ref s.heap.objs.size) { s with heap:=h' }) :
 Au (A3 prog w) A (DM.«zip.__next__» ⟨[.ref z],[]⟩) (λfin s'=>∃v,fin=.done (.ret v)/\Q v s') E s:=by
 show Au _ _ (Er (.ref z) 2 >>= _) _ _ _
 refine Aa (AL hz rfl (x:=.bool false) rfl ?_)
 show Au _ _ (Er (.ref z) 3 >>= _) _ _ _
 refine Aa (AL hz rfl (x:=.ref TI) rfl ?_)
 refine Aa (BI hTI rfl ?_)
 show Au _ _ (AI (.ref z) >>= _) _ _ _
 refine Aa ?_
 unfold AI
 refine Aa (AL hz rfl (x:=.none) rfl (Ar ?_))
 simp only[if_true]
 refine Aa (DY ?_)
 refine Aa (AL hz rfl (x:=.ref TO) rfl ?_)
 refine Aa (AQ hz (by simp) λh₁ hz₁ hs₁=>?_)
 replace hz₁:Dw h₁ z TI TO .ellipsis:=hz₁
 refine Aa ?_
 simp only[Ft,FA,Ef,Et]
 refine Aa (Aa (D7 ?_))
 show Au _ _ (A8 (.ref i1) >>= _) _ _ _
 refine Aa (fC (h1.at λo e=>hs₁.extBut _ _ D.i1z e) (hl1.at λo e=>hs₁.extBut _ _ D.l1z e) hx λh₂ h1₂ hs₂=>Ar ?_)
 have hTO₂:BC h₂ TO a b:=hs₂.extBut _ _ D.TOi1 (hs₁.extBut _ _ D.TOz hTO)
 refine Aa (BI hTO₂ rfl ?_)
 refine Aa (CZ hTO₂ λh₃ hTO₃ hs₃=>?_)
 replace hTO₃:BC h₃ TO x b:=hTO₃
 refine Aa (Eu (Ar ?_))
 refine Aa (Aa (D7 ?_))
 show Au _ _ (A8 (.ref i2) >>= _) _ _ _
 refine Aa (fC (h2.at λo e=>hs₃.extBut _ _ D.TOi2.symm (hs₂.extBut _ _ D.i12.symm (hs₁.extBut _ _ D.i2z e)))
  (hl2.at λo e=>hs₃.extBut _ _ D.l2TO (hs₂.extBut _ _ D.l2i1 (hs₁.extBut _ _ D.l2z e))) hy λh₄ h2₄ hs₄=>Ar ?_)
 have hTO₄:BC h₄ TO x b:=hs₄.extBut _ _ D.TOi2 hTO₃
 refine Aa (BI hTO₄ rfl ?_)
 refine Aa (CZ hTO₄ λh₅ hTO₅ hs₅=>?_)
 replace hTO₅:BC h₅ TO x y:=hTO₅
 refine Aa (Eu (Ar (Ar ?_)))
 refine Aa (BI hTO₅ rfl ?_)
 refine Aa (Ge ?_)
 have hsz:h₅.objs.size=s.heap.objs.size:=by rw[hs₅.1,hs₄.1,hs₃.1,hs₂.1,hs₁.1]
 have hz₅:Dw h₅ z TI TO .ellipsis:=hs₅.extBut _ _ D.TOz.symm (hs₄.extBut _ _ D.i2z.symm (hs₃.extBut _ _ D.TOz.symm (hs₂.extBut _ _ D.i1z.symm hz₁)))
 have hk₅:∀c o,c≠z->c≠TO->c≠i1->c≠i2->s.heap.get? c=some o->h₅.get? c=some o:=λc o c1 c2 c3 c4 e=>
  hs₅.extBut _ _ c2 (hs₄.extBut _ _ c4 (hs₃.extBut _ _ c2 (hs₂.extBut _ _ c3 (hs₁.extBut _ _ c1 e))))
 have h1₅:cI ka h₅ i1 l1 (k1+1):=h1₂.at λo e=>hs₅.extBut _ _ D.TOi1.symm (hs₄.extBut _ _ D.i12 (hs₃.extBut _ _ D.TOi1.symm e))
 have h2₅:cI kb h₅ i2 l2 (k2+1):=h2₄.at λo e=>hs₅.extBut _ _ D.TOi2.symm e
 have hzlt:z<h₅.objs.size:=An hz₅
 have hTOlt:TO<h₅.objs.size:=An hTO₅
 show Au _ _ (Bh (.ref z) (.ref h₅.objs.size) >>= _) _ _ _
 refine Aa ?_
 unfold Bh
 have hz₆:Dw (h₅.push { cls:=.type "tuple",data:=.seq #[x,y] }) z TI TO .ellipsis:=Ab _ hz₅
 refine Aa (AQ hz₆ (by simp) λh₇ hz₇ hs₇=>?_)
 replace hz₇:Dw h₇ z TI TO (Em h₅.objs.size):=hz₇
 refine AQ hz₇ (by simp) λh₈ hz₈ hs₈=>?_
 replace hz₈:Dw h₈ z TI TO (Em h₅.objs.size):=hz₈
 have up:∀c o,c≠z->h₅.get? c=some o->h₈.get? c=some o:=λc o c1 e=>hs₈.extBut _ _ c1 (hs₇.extBut _ _ c1 (Ab _ e))
 have hT₈:BC h₈ h₅.objs.size x y:=hs₈.extBut _ _ (BB hzlt) (hs₇.extBut _ _ (BB hzlt) (As _ rfl))
 have hz8:h₈.objs.size=h₅.objs.size+1:=by rw[hs₈.1,hs₇.1,Be]
 rw[hsz] at hz₈ hT₈ hz8
 refine Ar ⟨_,rfl,?_⟩
 show Q (.ref h₅.objs.size) _
 rw[hsz]
 exact hQ h₈ hz₈ (up _ _ D.TOz hTO₅) (h1₅.at λo e=>up _ o D.i1z e) (h2₅.at λo e=>up _ o D.i2z e) hT₈ hz8 λc o c1 c2 c3 c4 e=>up c o c1 (hk₅ c o c1 c2 c3 c4 e)
theorem aCr{ka kb:Bool}{z TI TO i1 i2 l1 l2:Addr}{k1 k2:Nat}{xs ys:Array Value}{a b:Value}{Q:Fin->Ae->Prop}(hh:A.handled=none)(D:Fe z TI TO i1 i2 l1 l2)
 (hz:Dw s.heap z TI TO .none) (hTI:BC s.heap TI (.ref i1) (.ref i2)) (hTO:BC s.heap TO a b)
 (h1:cI ka s.heap i1 l1 k1) (h2:cI kb s.heap i2 l2 k2) (hl1:dR ka s.heap l1 xs) (hl2:dR kb s.heap l2 ys) (hend:xs[k1]? = none\/ys[k2]? = none)
 (hE:∀h' e,(∀c o,c≠z->c≠TO->c≠i1->c≠i2->s.heap.get? c=some o->h'.get? c=some o)->(∃o,h'.get? e=some o/\o.cls=.type "StopIteration")->E (.ref e) { s with heap:=h' }) :
 Au (A3 prog w) A (DM.«zip.__next__» ⟨[.ref z],[]⟩) Q E s:=by
 show Au _ _ (Er (.ref z) 2 >>= _) _ _ _
 refine Aa (AL hz rfl (x:=.bool false) rfl ?_)
 show Au _ _ (Er (.ref z) 3 >>= _) _ _ _
 refine Aa (AL hz rfl (x:=.ref TI) rfl ?_)
 refine Aa (BI hTI rfl ?_)
 show Au _ _ (AI (.ref z) >>= _) _ _ _
 refine Aa ?_
 unfold AI
 refine Aa (AL hz rfl (x:=.none) rfl (Ar ?_))
 simp only[if_true]
 refine Aa (DY ?_)
 refine Aa (AL hz rfl (x:=.ref TO) rfl ?_)
 refine Aa (AQ hz (by simp) λh₁ hz₁ hs₁=>?_)
 replace hz₁:Dw h₁ z TI TO .ellipsis:=hz₁
 refine Aa ?_
 simp only[Ft,FA,Ef,Et]
 refine Aa (Aa (D7 ?_))
 show Au _ _ (A8 (.ref i1) >>= _) _ _ _
 cases hx:xs[k1]? with
 | none=>
  refine Aa (jL hh (h1.at λo e=>hs₁.extBut _ _ D.i1z e) (hl1.at λo e=>hs₁.extBut _ _ D.l1z e) hx λh₂ e hs₂ he=>?_)
  obtain⟨oe,hoe,hce⟩:=he
  have hz₂:Dw h₂ z TI TO .ellipsis:=hs₂ _ _ D.i1z.symm hz₁
  have hez:e≠z:=λx=>by subst x;rw[hz₂] at hoe;cases hoe;simp at hce
  refine AQ hz₂ (by simp) λh₃ _ hs₃=>hE h₃ e (λc o c1 _ c3 _ x=>hs₃.extBut _ _ c1 (hs₂ _ _ c3 (hs₁.extBut _ _ c1 x))) ⟨oe,hs₃.extBut _ _ hez hoe,hce⟩
 | some x=>
  have hy:ys[k2]? = none:=by rcases hend with h|h;rw[hx] at h;cases h;exact h
  refine Aa (fC (h1.at λo e=>hs₁.extBut _ _ D.i1z e) (hl1.at λo e=>hs₁.extBut _ _ D.l1z e) hx λh₂ h1₂ hs₂=>Ar ?_)
  have hTO₂:BC h₂ TO a b:=hs₂.extBut _ _ D.TOi1 (hs₁.extBut _ _ D.TOz hTO)
  refine Aa (BI hTO₂ rfl ?_)
  refine Aa (CZ hTO₂ λh₃ hTO₃ hs₃=>?_)
  refine Aa (Eu (Ar ?_))
  refine Aa (Aa (D7 ?_))
  show Au _ _ (A8 (.ref i2) >>= _) _ _ _
  refine Aa (jL hh (h2.at λo e=>hs₃.extBut _ _ D.TOi2.symm (hs₂.extBut _ _ D.i12.symm (hs₁.extBut _ _ D.i2z e)))
   (hl2.at λo e=>hs₃.extBut _ _ D.l2TO (hs₂.extBut _ _ D.l2i1 (hs₁.extBut _ _ D.l2z e))) hy λh₄ e hs₄ he=>?_)
  obtain⟨oe,hoe,hce⟩:=he
  have hz₄:Dw h₄ z TI TO .ellipsis:=hs₄ _ _ D.i2z.symm (hs₃.extBut _ _ D.TOz.symm (hs₂.extBut _ _ D.i1z.symm hz₁))
  have hez:e≠z:=λx=>by subst x;rw[hz₄] at hoe;cases hoe;simp at hce
  refine AQ hz₄ (by simp) λh₅ _ hs₅=>hE h₅ e (λc o c1 c2 c3 c4 x=>hs₅.extBut _ _ c1 (hs₄ _ _ c4 (hs₃.extBut _ _ c2 (hs₂.extBut _ _ c3 (hs₁.extBut _ _ c1 x))))) ⟨oe,hs₅.extBut _ _ hez hoe,hce⟩
theorem nF{ka kb:Bool}{z TI TO i1 i2 l1 l2:Addr}{k1 k2:Nat}{xs ys:Array Value}{x y a b:Value}{Q:Option Value->Ae->Prop}(D:Fe z TI TO i1 i2 l1 l2)
 (hz:Dw s.heap z TI TO .none) (hTI:BC s.heap TI (.ref i1) (.ref i2)) (hTO:BC s.heap TO a b)
 (h1:cI ka s.heap i1 l1 k1) (h2:cI kb s.heap i2 l2 k2) (hl1:dR ka s.heap l1 xs) (hl2:dR kb s.heap l2 ys) (hx:xs[k1]? = some x) (hy:ys[k2]? = some y)
 (hQ:∀h',Dw h' z TI TO (Em s.heap.objs.size)->BC h' TO x y->cI ka h' i1 l1 (k1+1)->cI kb h' i2 l2 (k2+1)->BC h' s.heap.objs.size x y->h'.objs.size=s.heap.objs.size+1 ->
  (∀c o,c≠z->c≠TO->c≠i1->c≠i2->s.heap.get? c=some o->h'.get? c=some o)->Q (some (.ref s.heap.objs.size)) { s with heap:=h' }) :
 Au (A3 prog w) A (D5 (.ref z)) Q E s:=by
 have hT:s.TypeIs (.ref z) "zip" := ⟨_,hz,rfl⟩
 unfold D5
 exact Aa (D8 (AU (name:=Ci "__next__") hT Dg
  (Bu Dg hT Fu
   (aBb D hz hTI hTO h1 h2 hl1 hl2 hx hy λh' a1 a2 a3 a4 a5 a6 a7=>Ar (hQ h' a1 a2 a3 a4 a5 a6 a7)) (Ff _))))
theorem oJ{ka kb:Bool}{z TI TO i1 i2 l1 l2:Addr}{k1 k2:Nat}{xs ys:Array Value}{a b:Value}{Q:Option Value->Ae->Prop}(hh:A.handled=none)(D:Fe z TI TO i1 i2 l1 l2)
 (hz:Dw s.heap z TI TO .none) (hTI:BC s.heap TI (.ref i1) (.ref i2)) (hTO:BC s.heap TO a b)
 (h1:cI ka s.heap i1 l1 k1) (h2:cI kb s.heap i2 l2 k2) (hl1:dR ka s.heap l1 xs) (hl2:dR kb s.heap l2 ys) (hend:xs[k1]? = none\/ys[k2]? = none)
 (hQ:∀h',(∀c o,c≠z->c≠TO->c≠i1->c≠i2->s.heap.get? c=some o->h'.get? c=some o)->Q none { s with heap:=h' }):Au (A3 prog w) A (D5 (.ref z)) Q E s:=by
 have hT:s.TypeIs (.ref z) "zip" := ⟨_,hz,rfl⟩
 unfold D5
 refine Aa (D8 (AU (name:=Ci "__next__") hT Dg
  (Bu Dg hT Fu (aCr hh D hz hTI hTO h1 h2 hl1 hl2 hend λh' e hk he=>?_) (Ff _))))
 obtain⟨o,ho,hc⟩:=he
 refine Aa (Fv (T:= "StopIteration") (b:=true) ⟨o,ho,hc⟩ Gf ?_)
 exact Ar (hQ _ hk)
end
def gP(k:Bool)(l:Addr):Obj:=match k with
 | true=>{ cls:=.type "list_iterator",data:=.fields #[.ref l,.int 0 0] }
 | false=>{ cls:=.type "tuple_iterator",data:=.fields #[.ref l,.int 0 0] }
abbrev zH1(k:Bool)(h:Heap)(l1:Addr):Heap:=h.push (gP k l1)
abbrev zH2(ka kb:Bool)(h:Heap)(l1 l2:Addr):Heap:=(zH1 ka h l1).push (gP kb l2)
abbrev zH3(ka kb:Bool)(h:Heap)(l1 l2:Addr):Heap:=(zH2 ka kb h l1 l2).push { cls:=.type "tuple",data:=.seq #[.ref h.objs.size,.ref (zH1 ka h l1).objs.size] }
abbrev zH4(ka kb:Bool)(h:Heap)(l1 l2:Addr):Heap:=(zH3 ka kb h l1 l2).push { cls:=.type "tuple",data:=.seq #[.none,.none] }
abbrev zH5(ka kb:Bool)(h:Heap)(l1 l2:Addr):Heap:=(zH4 ka kb h l1 l2).push { cls:=.type "zip",data:=.fields #[.none,.bool false,.bool false,.ref (zH2 ka kb h l1 l2).objs.size,.ref (zH3 ka kb h l1 l2).objs.size] }
theorem iO{prog:Av}{w:AG}{A:AY}{E:Value->Ae->Prop}{s:Ae}{k:Bool}{l:Addr}{items:Array Value}{Q:Value->Ae->Prop}(hl:dR k s.heap l items)
 (hQ:Q (.ref s.heap.objs.size) { s with heap:=s.heap.push (gP k l) }):Au (A3 prog w) A (GA (.ref l)) Q E s:=by
 cases k with
 | true=>exact Cv hl hQ
 | false=>exact EK hl hQ
theorem xU(ka kb:Bool)(l1 l2:Addr)(xs ys:Array Value) :
 HB (DM.«zip.__new__» ⟨[.type "zip",.ref l1,.ref l2],[]⟩) (λ_ R s=>dR ka s.heap l1 xs/\dR kb s.heap l2 ys /\
  R (.ok (.ret (.ref (zH4 ka kb s.heap l1 l2).objs.size))) { s with heap:=zH5 ka kb s.heap l1 l2 }):=
 .of_wp λprog w A R s h=>by
  obtain⟨hp,g,d,tk,os⟩:=s;obtain⟨hl1,hl2,h⟩:=h
  have hsub:=sub_zip
  have hL1:dR ka (Shared.heap ⟨hp,g,d,tk,os⟩) l1 xs:=hl1
  have hL2:dR kb (Shared.heap ⟨hp.push (gP ka l1),g,d,tk,os⟩) l2 ys:=hl2.at λo e=>Ab _ e
  wp_walk using iO hL1,iO hL2
  exact⟨_,rfl,h⟩
theorem oK{k:Bool}{h:Heap}{it a:Addr}(e:h.get? it=some (gP k a)):cI k h it a 0:=by
 cases k with
 | true=>exact⟨_,e,rfl,rfl⟩
 | false=>exact⟨_,e,rfl,rfl⟩
theorem aBc{prog:Av}{w:AG}{A:AY}{E:Value->Ae->Prop}{s:Ae}{ka kb:Bool}{l1 l2:Addr}{xs ys:Array Value}{Q:Value->Ae->Prop}(hl1:dR ka s.heap l1 xs)(hl2:dR kb s.heap l2 ys)
 (h:∀h',Dw h' (s.heap.objs.size+4) (s.heap.objs.size+2) (s.heap.objs.size+3) .none->BC h' (s.heap.objs.size+2) (.ref s.heap.objs.size) (.ref (s.heap.objs.size+1)) ->
  BC h' (s.heap.objs.size+3) .none .none->cI ka h' s.heap.objs.size l1 0->cI kb h' (s.heap.objs.size+1) l2 0->h'.objs.size=s.heap.objs.size+5 ->
  (∀c o,s.heap.get? c=some o->h'.get? c=some o)->Q (.ref (s.heap.objs.size+4)) { s with heap:=h' }) :
 Au (A3 prog w) A (call (.type "zip") [.ref l1,.ref l2]) Q E s:=by
 refine GG F.called_zip (by decide) (F.typeCall_zip_2 _ _) (F.newCall_zip_2 _ _) (λobj=>F.args_object_init_3 obj _ _) F.entry_zip_new
  (xU ka kb l1 l2 xs ys) ⟨hl1,hl2,?_⟩
 have z1:(zH1 ka s.heap l1).objs.size=s.heap.objs.size+1:=Be ..
 have z2:(zH2 ka kb s.heap l1 l2).objs.size=s.heap.objs.size+2:=by rw[Be,z1]
 have z3:(zH3 ka kb s.heap l1 l2).objs.size=s.heap.objs.size+3:=by rw[Be,z2]
 have z4:(zH4 ka kb s.heap l1 l2).objs.size=s.heap.objs.size+4:=by rw[Be,z3]
 have z5:(zH5 ka kb s.heap l1 l2).objs.size=s.heap.objs.size+5:=by rw[Be,z4]
 have nf:∀k l,(gP k l).isFreed=false:=by intro k l;cases k <;> rfl
 have g5:(zH5 ka kb s.heap l1 l2).get? (zH4 ka kb s.heap l1 l2).objs.size=some _:=As _ rfl
 have g4:(zH5 ka kb s.heap l1 l2).get? (zH3 ka kb s.heap l1 l2).objs.size=some _:=Ab _ (As _ rfl)
 have g3:(zH5 ka kb s.heap l1 l2).get? (zH2 ka kb s.heap l1 l2).objs.size=some _:=Ab _ (Ab _ (As _ rfl))
 have g2:(zH5 ka kb s.heap l1 l2).get? (zH1 ka s.heap l1).objs.size=some _:=Ab _ (Ab _ (Ab _ (As _ (nf _ _))))
 have g1:(zH5 ka kb s.heap l1 l2).get? s.heap.objs.size=some _:=Ab _ (Ab _ (Ab _ (Ab _ (As _ (nf _ _)))))
 show _/\_
 rw[z2,z3,z4] at g5
 rw[z1,z2] at g3
 rw[z3] at g4
 rw[z1] at g2
 rw[z4]
 exact⟨⟨_,g5,rfl⟩,h _ g5 g3 g4 (oK g1) (oK g2) z5 λc o x=>
  Ab _ (Ab _ (Ab _ (Ab _ (Ab _ x))))⟩
def Itz(K:Ak)(ka kb:Bool)(a b:Addr):It:=
 ⟨λi H=>∃xs ys x y,Sq ka K H a xs/\Sq kb K H b ys/\xs[i]? = some x/\ys[i]? = some y,
  λi H v H'=>∃p x y,v=.ref p/\H p=none/\K.lookup p=none/\H'=upd H p (.tup [x,y])/\∀xs ys,Sq ka K H a xs->Sq kb K H b ys->xs[i]? = some x/\ys[i]? = some y,
  λi H=>∃xs ys,Sq ka K H a xs/\Sq kb K H b ys/\(xs.length<=i\/ys.length<=i)⟩
structure aEm (z TI TO i1 i2:Addr):Prop where
 TIz:TI≠z
 TOz:TO≠z
 i1z:i1≠z
 i2z:i2≠z
 TITO:TI≠TO
 TIi1:TI≠i1
 TIi2:TI≠i2
 TOi1:TO≠i1
 TOi2:TO≠i2
 i12:i1≠i2
theorem aEm.apart{X:Cx}{pins:List (Addr×Obj)}{σ:St}{H:Hp}{s:Ae}{ka kb:Bool}{a b z TI TO i1 i2:Addr}{xs ys:List V}(F:aEm z TI TO i1 i2)(I:Inv X pins σ H s)(f:∀c∈[z,TI,TO,i1,i2],jS X pins H c)
 (ha:Sq ka X.K H a xs) (hb:Sq kb X.K H b ys):Fe z TI TO i1 i2 a b:=
 ⟨F.TIz,F.TOz,F.i1z,F.i2z,F.TITO,F.TIi1,F.TIi2,F.TOi1,F.TOi2,F.i12,I.sqNe ha (f z (by simp)),I.sqNe ha (f TO (by simp)),I.sqNe ha (f i1 (by simp)),I.sqNe ha (f i2 (by simp)),
  I.sqNe hb (f z (by simp)),I.sqNe hb (f TO (by simp)),I.sqNe hb (f i1 (by simp)),I.sqNe hb (f i2 (by simp))⟩
theorem aCs{P:Av}{w:AG}{K:Ak}{ka kb:Bool}{elts:List Ah}{tk:Nat}{tp:BX}{z TI TO i1 i2 a b:Addr}(F:aEm z TI TO i1 i2) :
 tZ P w K (.Tuple elts tk tp) (Itz K ka kb a b) [z,TI,TO,i1,i2] z (λi h=>Dw h z TI TO .none/\BC h TI (.ref i1) (.ref i2)/\(∃u v,BC h TO u v)/\cI ka h i1 a i/\cI kb h i2 b i) where
 mem:=by simp
 obj:=λi h st c hc=>by
  obtain⟨hz,hTI,⟨u,v,hTO⟩,h1,h2⟩:=st
  have hc':c=z\/c=TI\/c=TO\/c=i1\/c=i2:=by simpa using hc
  rcases hc' with rfl|rfl|rfl|rfl|rfl
  . exact⟨_,hz,λv z=>by cases(show F3 _=Ew v from z)⟩
  . exact⟨_,hTI,λv z=>by cases(show FY _ _=Ew v from z)⟩
  . exact⟨_,hTO,λv z=>by cases(show FY _ _=Ew v from z)⟩
  . exact h1.obj
  . exact h2.obj
 keep:=λi h h' st k=>by
  obtain⟨hz,hTI,⟨u,v,hTO⟩,h1,h2⟩:=st
  exact⟨k z (by simp) _ hz,k TI (by simp) _ hTI,⟨u,v,k TO (by simp) _ hTO⟩,h1.at λo e=>k i1 (by simp) o e,h2.at λo e=>k i2 (by simp) o e⟩
 item:=by
  intro X hP hw hK hc i pins s σ H E I hf st hg
  subst hP hw hK
  obtain⟨hz,hTI,⟨u,v,hTO⟩,h1,h2⟩:=st
  obtain⟨xs,ys,x,y,ha,hb,hx,hy⟩:=hg
  obtain⟨as,ra,pa,_⟩:=I.sq ha
  obtain⟨bs,rb,pb,_⟩:=I.sq hb
  obtain⟨ux,hux,rx⟩:=ra.get hx
  obtain⟨uy,huy,ry⟩:=rb.get hy
  have D:=F.apart I hf ha hb
  refine nF D hz hTI hTO h1 h2 pa pb (x:=ux) (y:=uy) (by simpa using hux) (by simpa using huy) λh' a1 a2 a3 a4 a5 a6 hk=>?_
  refine⟨_,rfl,wpAny_letOwnedTupleGo_zip (s:={ s with heap:=h' }) a1 λh'' hz' hs'=>?_⟩
  have hTne:s.heap.objs.size≠z:=BB (An hz)
  have hk2:∀c o,c∉[z,TI,TO,i1,i2]->s.heap.get? c=some o->h''.get? c=some o:=λc o hc e=>by
   have hc':c≠z/\c≠TI/\c≠TO/\c≠i1/\c≠i2:=by simpa using hc
   exact hs'.extBut _ _ hc'.1 (hk c o hc'.1 hc'.2.2.1 hc'.2.2.2.1 hc'.2.2.2.2 e)
  have tI:BC h'' TI (.ref i1) (.ref i2):=hs'.extBut _ _ F.TIz (hk _ _ F.TIz F.TITO F.TIi1 F.TIi2 hTI)
  have tO:BC h'' TO ux uy:=hs'.extBut _ _ F.TOz a2
  have t1:cI ka h'' i1 a (i+1):=a3.at λo e=>hs'.extBut _ _ F.i1z e
  have t2:cI kb h'' i2 b (i+1):=a4.at λo e=>hs'.extBut _ _ F.i2z e
  have tT:BC h'' s.heap.objs.size ux uy:=hs'.extBut _ _ hTne a5
  have hn:H s.heap.objs.size=none:=I.fresh
  have I1:Inv X pins σ (upd H s.heap.objs.size (.tup [x,y])) { s with heap:=h'' }:=by
   refine I.turnsNew (t':=s.toks) hf hk2 (λc hc=>?_) (Aj _) ⟨by show 2<=sizeLine;rw[B1];decide,[ux,uy],.cons rx (.cons ry .nil),_,tT,rfl,_,rfl⟩
   have hc':c=z\/c=TI\/c=TO\/c=i1\/c=i2:=by simpa using hc
   rcases hc' with rfl|rfl|rfl|rfl|rfl
   . exact⟨_,hz'⟩
   . exact⟨_,tI⟩
   . exact⟨_,tO⟩
   . obtain⟨o,e,_⟩:=t1.obj;exact⟨o,e⟩
   . obtain⟨o,e,_⟩:=t2.obj;exact⟨o,e⟩
  refine⟨.ref s.heap.objs.size,_,I1,rfl,⟨_,x,y,rfl,hn,I.newK,rfl,λxs' ys' ha' hb'=>?_⟩,⟨hz',tI,⟨_,_,tO⟩,t1,t2⟩,λc hc=>?_⟩
  . rw[I.sq_inj ha' ha,I.sq_inj hb' hb]
    exact⟨hx,hy⟩
  . rw[aN (A6 ?_)]
    . exact(hf c hc).1
    . obtain⟨o,e,_⟩:∃o,s.heap.get? c=some o/\True:=by
       have hc':c=z\/c=TI\/c=TO\/c=i1\/c=i2:=by simpa using hc
       rcases hc' with rfl|rfl|rfl|rfl|rfl
       . exact⟨_,hz,trivial⟩
       . exact⟨_,hTI,trivial⟩
       . exact⟨_,hTO,trivial⟩
       . obtain⟨o,e,_⟩:=h1.obj;exact⟨o,e,trivial⟩
       . obtain⟨o,e,_⟩:=h2.obj;exact⟨o,e,trivial⟩
      exact An e
 done:=by
  intro X hP hw hK hc i pins s σ H E I hf st hg
  subst hP hw hK
  obtain⟨hz,hTI,⟨u,v,hTO⟩,h1,h2⟩:=st
  obtain⟨xs,ys,ha,hb,hend⟩:=hg
  obtain⟨as,ra,pa,_⟩:=I.sq ha
  obtain⟨bs,rb,pb,_⟩:=I.sq hb
  have la:=ra.length
  have lb:=rb.length
  refine oJ (I.ok.hd hc) (F.apart I hf ha hb) hz hTI hTO h1 h2 pa pb ?_ λh' hk=>⟨rfl,I.turns (t':=s.toks) hf λc o hc e=>?_⟩
  . rcases hend with q|q
    . exact .inl (by simp;omega)
    . exact .inr (by simp;omega)
  . have hc':c≠z/\c≠TI/\c≠TO/\c≠i1/\c≠i2:=by simpa using hc
    exact hk c o hc'.1 hc'.2.2.1 hc'.2.2.2.1 hc'.2.2.2.2 e
 self:=λ_ _ _ _ _ st h=>Fw st.1 h
def aLw(K:Ak)(ta:TA):TI:=λσ H R=>ta σ H λvs H1=>∃(ka kb:Bool) (a b:Addr) (xs ys:List V),vs=[.ref a,.ref b]/\Sq ka K H1 a xs/\Sq kb K H1 b ys/\R (Itz K ka kb a b) H1
theorem aCt:BA "zip" = some (.type "zip"):=by kernel_rfl
theorem aCu(n:Nat):aEm (n+4) (n+2) (n+3) n (n+1) where
 TIz:=by simp
 TOz:=by simp
 i1z:=by simp
 i2z:=by simp
 TITO:=by simp
 TIi1:=by simp
 TIi2:=by simp
 TOi1:=by simp
 TOi2:=by simp
 i12:=by simp
theorem aGy{X:Cx}{a b:Ah}{ta:TA}{p pos:BX}{elts:List Ah}{tk:Nat}{tp:BX}(hg:Gl X "zip")(hm:X.mg "zip" = none)(ha:PA X [a,b] ta)(hs:AN [a,b] X.env=[(false,C3 a X.env),(false,C3 b X.env)])(hs2:AN [b] X.env=[(false,C3 b X.env)]) :
 PI X (.Tuple elts tk tp) (.Call (.Name "zip" p) [a,b] [] pos) (aLw X.K ta):=by
 intro pins s σ H R I h
 refine Hz (gU I hg hm aCt (Bn (thn (ha pos pins s σ H _ I h) λus s1 ⟨vs,H1,I1,r1,q1⟩=>?_) (by rw[hs,hs2]) (by rw[hs2];rfl)))
 obtain⟨ka,kb,a1,b1,xs,ys,e,q1,q2,q⟩:=q1
 subst e
 cases r1 with
 | cons r rr=>
  cases rr with
  | cons r' rr=>
   cases rr
   cases r
   cases r'
   obtain⟨as,ra,pa,_⟩:=I1.sq q1
   obtain⟨bs,rb,pb,_⟩:=I1.sq q2
   refine aBc pa pb λh' hz hTI hTO h1 h2 hsz hk=>Fw (s:={ s1 with heap:=h' }) hz ?_
   refine⟨s1.heap.objs.size+4,_,_,_,H1,rfl,I1.kept (t':=s1.toks) hk,aCs (aCu _),⟨hz,hTI,⟨_,_,hTO⟩,h1,h2⟩,λc hc=>?_,q⟩
   have hc':c=s1.heap.objs.size+4\/c=s1.heap.objs.size+2\/c=s1.heap.objs.size+3\/c=s1.heap.objs.size\/c=s1.heap.objs.size+1:=by simpa using hc
   have hle:s1.heap.objs.size<=c:=by rcases hc' with rfl|rfl|rfl|rfl|rfl <;> omega
   exact I1.fpOk hle (I1.hok.fresh hle)
def Its(x:Str):It:=⟨λi _=>i<x.cps.size,λi H v H'=>H'=H/\∃c,x.cps[i]? = some c/\v=.str ⟨#[c]⟩,λi _=>x.cps.size<=i⟩
theorem uV{P:Av}{w:AG}{K:Ak}{tg:Ah}{it:Addr}{x:Str}{t:Tok}{ty:String}(hn:["enumerate", "zip", "dict_itemiterator", "dict_reverseitemiterator", "odict_iterator", "itertools.zip_longest", "itertools.pairwise"].contains ty=false)
 (W:∀A':AY,A'.handled=none->Walks P w A' it [it] [it] x.cps.size (SignAt x) (λi h=>h.IsStrIter it ty x t i))
 (S:∀(A:AY) (i:Nat) (s:Ae) (Q:Value->Ae->Prop) (E:Value->Ae->Prop),s.heap.IsStrIter it ty x t i->Q (.ref it) s->Au (A3 P w) A (GA (.ref it)) Q E s):tZ P w K tg (Its x) [it] it (λi h=>i<=x.cps.size/\h.IsStrIter it ty x t i) where
 mem:=by simp
 obj:=λi h st b hb=>by
  have e:b=it:=by simpa using hb
  subst e
  obtain⟨_,o,e,c,d⟩:=st
  exact⟨o,e,λv z=>by rw[d] at z;cases z⟩
 keep:=λi h h' st k=>by
  obtain⟨hi,o,e,c,d⟩:=st
  exact⟨hi,o,k it (by simp) o e,c,d⟩
 item:=by
  intro X hP hw hK hc i pins s σ H E I hf st hg
  subst hP hw hK
  obtain⟨f0,f1,f2,f3,f4,f5⟩:=hf it (by simp)
  refine(W X.A (I.ok.hd hc)).item i s _ _ hg st.2 λv h' tk hv st' kk=>?_
  obtain⟨c,u,hcc,rfl⟩:=hv
  have I1:Inv X pins σ H { s with heap:=h',toks:=tk }:=I.turned (λb o hb e=>kk b o (by simpa using hb) e) f0 f1 f3 f4 f5
  obtain⟨o,e,oc,od⟩:=id st'
  exact⟨_,rfl,nX (s:={ s with heap:=h',toks:=tk }) e oc od hn ⟨.str ⟨#[c]⟩,H,I1,⟨u,rfl⟩,⟨rfl,c,hcc,rfl⟩,⟨hg,st'⟩,λb hb=>(hf b hb).1⟩⟩
 done:=by
  intro X hP hw hK hc i pins s σ H E I hf st hg
  subst hP hw hK
  obtain⟨f0,f1,f2,f3,f4,f5⟩:=hf it (by simp)
  have e:i=x.cps.size:=Nat.le_antisymm st.1 hg
  subst e
  exact(W X.A (I.ok.hd hc)).done s _ _ st.2 λh' tk eb=>⟨rfl,I.turned (λb o hb e=>eb b o (by simpa using hb) e) f0 f1 f3 f4 f5⟩
 self:=λA i s Q E st h=>S A i s Q E st.2 h
theorem aGz{X:Cx}{tg l:Ah}{tl:TE}(hl:PE X l tl):PI X tg l (λσ H R=>tl σ H λx H1=>(∃a,x=.ref a/\(((∃xs,SqL X.K H1 a xs)/\R (Itl X.K a) H1)\/((∃xs,SqT X.K H1 a xs)/\R (Itt X.K a) H1)))\/∃z,x=.str z/\R (Its z) H1):=by
 intro pins s σ H R I h
 refine thn (hl pins s σ H _ I h) λv s1 ⟨x,H1,I1,r1,q1⟩=>?_
 rcases q1 with⟨a,e,q⟩|⟨z,e,q⟩
 . subst e
   cases r1
   rcases q with⟨⟨xs,hq⟩,q⟩|⟨⟨xs,hq⟩,q⟩
   . obtain⟨its,rv,p,hz⟩:=I1.list hq
     refine Cv p.isList ?_
     refine⟨s1.heap.objs.size,[s1.heap.objs.size],_,_,H1,rfl,I1.kept (t':=s1.toks) λb o e=>Ab _ e,qD a _,⟨_,As _ rfl,rfl,rfl⟩,λb hb=>?_,q⟩
     have e:b=s1.heap.objs.size:=by simpa using hb
     subst e
     exact I1.fpOk (Aj _) (I1.hok.fresh (Aj _))
   . obtain⟨its,rv,p,hz⟩:=I1.tuple hq
     refine EK (show s1.heap.IsTuple a its.toArray from p) ?_
     refine⟨s1.heap.objs.size,[s1.heap.objs.size],_,_,H1,rfl,I1.kept (t':=s1.toks) λb o e=>Ab _ e,wZ a _,⟨_,As _ rfl,rfl,rfl⟩,λb hb=>?_,q⟩
     have e:b=s1.heap.objs.size:=by simpa using hb
     subst e
     exact I1.fpOk (Aj _) (I1.hok.fresh (Aj _))
 . subst e
   obtain⟨t,rfl⟩:=r1
   cases ha:z.cps.all (·<128) with
   | false=>
    refine wpAny_pyIter_wide ha ⟨s1.heap.objs.size,[s1.heap.objs.size],_,_,H1,rfl,I1.kept (t':=s1.toks) λb o e=>Ab _ e,uV (ty:= "str_iterator") (x:=z) (t:=t) (by decide) (λA' hA=>Walks.strWide hA _ z t) (λA i s Q E st h=>wpAny_pyIter_striter_wide st h),⟨BD _,_,As _ rfl,rfl,rfl⟩,λb hb=>?_,q⟩
    have e:b=s1.heap.objs.size:=by simpa using hb
    subst e
    exact I1.fpOk (Aj _) (I1.hok.fresh (Aj _))
   | true=>
    refine wpAny_pyIter_ascii ha ⟨s1.heap.objs.size,[s1.heap.objs.size],_,_,H1,rfl,I1.kept (t':=s1.toks) λb o e=>Ab _ e,uV (ty:= "str_ascii_iterator") (x:=z) (t:=t) (by decide) (λA' hA=>Walks.strAscii hA _ z t) (λA i s Q E st h=>wpAny_pyIter_striter_ascii st h),⟨BD _,_,As _ rfl,rfl,rfl⟩,λb hb=>?_,q⟩
    have e:b=s1.heap.objs.size:=by simpa using hb
    subst e
    exact I1.fpOk (Aj _) (I1.hok.fresh (Aj _))
section
variable {prog:Av} {w:AG} {A:AY} {E:Value->Ae->Prop} {s:Ae}
theorem aCv{k:Bool}{e it l:Addr}{i:Nat}{xs:Array Value}{x old:Value}{Q:Value->Ae->Prop}(he:Ea s.heap e it i old)(hit:cI k s.heap it l i)(hl:dR k s.heap l xs)(hx:xs[i]? = some x)(hne:e≠it)
 (hQ:∀h',Fx h' e it ((i:Int)+1) x s.heap.objs.size->cI k h' it l (i+1)->h'.get? s.heap.objs.size=some { cls:=.type "tuple",data:=.seq #[.int i s.toks,x] }->h'.objs.size=s.heap.objs.size+1 ->
  (∀b o,b≠e->b≠it->s.heap.get? b=some o->h'.get? b=some o)->Q (.ref s.heap.objs.size) { s with heap:=h',toks:=s.toks+1 }) :
 Au (A3 prog w) A (DM.«enumerate.__next__» ⟨[.ref e],[]⟩) (λfin s'=>∃v,fin=.done (.ret v)/\Q v s') E s:=by
 obtain⟨hp,g,d,tk,os⟩:=s
 refine Aa (m:=Er (.ref e) 2) (AL he rfl (x:=.ref it) rfl (Aa (fC hit hl hx λh1 i1 s1=>?_)))
 have s1:Bw it hp h1:=s1
 have e1:Ea h1 e it i old:=(s1.2 e hne).trans he
 refine Aa (m:=Er (.ref e) 3) (AL e1 rfl (x:=Em i) rfl (Aa (m:=Er (.ref e) 4) (AL e1 rfl (x:=.none) rfl (Aa (m:=mkInt i) (wpAny_mkInt ?_)))))
 refine Aa (m:=setField (.ref e) 3 (Em ((i:Int)+1))) (s:=⟨h1,g,d,tk+1,os⟩) (AQ e1 (by simp) λh2 e2 s2=>?_)
 have s2:Bw e h1 h2:=s2
 have e2:Ea h2 e it ((i:Int)+1) old:=e2
 refine Aa (m:=setField (.ref e) 4 .none) (s:=⟨h2,g,d,tk+1,os⟩) (AQ e2 (by simp) λh3 e3 s3=>?_)
 have s3:Bw e h2 h3:=s3
 have e3:Ea h3 e it ((i:Int)+1) old:=e3
 refine Aa (m:=newTuple [.int i tk,x]) (s:=⟨h3,g,d,tk+1,os⟩) (Ge ?_)
 have e4:Ea (h3.push { cls:=.type "tuple",data:=.seq #[.int i tk,x] }) e it ((i:Int)+1) old:=Ab _ e3
 generalize q4:h3.push { cls:=.type "tuple",data:=.seq #[.int i tk,x] }=h4 at e4
 have z3:h3.objs.size=hp.objs.size:=by rw[s3.1,s2.1,s1.1]
 have lt:e<hp.objs.size:=An he
 have t4:h4.get? hp.objs.size=some { cls:=.type "tuple",data:=.seq #[.int i tk,x] }:=by rw[<-q4,<-z3];exact As _ rfl
 have z4:h4.objs.size=hp.objs.size+1:=by rw[<-q4,Be,z3]
 have k4:∀b o,b≠e->b≠it->hp.get? b=some o->h4.get? b=some o:=λb o n1 n2 hb=>by
  rw[<-q4];exact Ab _ (s3.extBut b o n1 (s2.extBut b o n1 (s1.extBut b o n2 hb)))
 have i4:cI k h4 it l (i+1):=i1.at λo ho=>by rw[<-q4];exact Ab _ (s3.extBut _ _ hne.symm (s2.extBut _ _ hne.symm ho))
 rw[z3]
 refine Aa (m:=AI (.ref e)) (s:=⟨h4,g,d,tk+1,os⟩) ?_
 unfold AI
 refine Aa (AL e4 rfl (x:=.none) rfl (Ar ?_))
 simp only[if_true]
 refine Aa (DY (Aa (AL e4 rfl (x:=old) rfl (Aa (AQ e4 (by simp) λh5 e5 s5=>?_)))))
 have s5:Bw e h4 h5:=s5
 have e5:Ea h5 e it ((i:Int)+1) x:=e5
 refine Aa (m:=Bh (.ref e) (.ref hp.objs.size)) (s:=⟨h5,g,d,tk+1,os⟩) ?_
 unfold Bh
 refine Aa (AQ e5 (by simp) λh6 e6 s6=>?_)
 have s6:Bw e h5 h6:=s6
 have e6:Fx h6 e it ((i:Int)+1) x hp.objs.size:=e6
 refine AQ e6 (by simp) λh7 e7 s7=>?_
 have s7:Bw e h6 h7:=s7
 have e7:Fx h7 e it ((i:Int)+1) x hp.objs.size:=e7
 have up:∀b o,b≠e->h4.get? b=some o->h7.get? b=some o:=λb o n hb=>s7.extBut _ _ n (s6.extBut _ _ n (s5.extBut _ _ n hb))
 exact Aa (Eu (Ar ⟨_,rfl,hQ h7 e7 (i4.at λo ho=>up _ _ hne.symm ho) (up _ _ (BB lt) t4) (by rw[s7.1,s6.1,s5.1,z4]) λb o n1 n2 hb=>up b o n1 (k4 b o n1 n2 hb)⟩))
theorem uW{k:Bool}{e it l:Addr}{i:Nat}{xs:Array Value}{x old:Value}{Q:Option Value->Ae->Prop}(he:Ea s.heap e it i old)(hit:cI k s.heap it l i)(hl:dR k s.heap l xs)(hx:xs[i]? = some x)(hne:e≠it)
 (hQ:∀h',Fx h' e it ((i:Int)+1) x s.heap.objs.size->cI k h' it l (i+1)->h'.get? s.heap.objs.size=some { cls:=.type "tuple",data:=.seq #[.int i s.toks,x] }->h'.objs.size=s.heap.objs.size+1 ->
  (∀b o,b≠e->b≠it->s.heap.get? b=some o->h'.get? b=some o)->Q (some (.ref s.heap.objs.size)) { s with heap:=h',toks:=s.toks+1 }):Au (A3 prog w) A (D5 (.ref e)) Q E s:=by
 have T:s.TypeIs (.ref e) "enumerate" := ⟨_,he,rfl⟩
 unfold D5
 exact Aa (D8 (AU (name:=Ci "__next__") T Cr (Bu Cr T Eb (aCv he hit hl hx hne λh' a b c d k=>Ar (hQ h' a b c d k)) (DF _))))
theorem xV{k:Bool}{e it l:Addr}{i:Nat}{xs:Array Value}{old:Value}{Q:Option Value->Ae->Prop}(hh:A.handled=none)(he:Ea s.heap e it i old)(hit:cI k s.heap it l i)(hl:dR k s.heap l xs)(hx:xs[i]? = none)
 (hQ:∀h',F7 it s.heap h'->Q none { s with heap:=h' }):Au (A3 prog w) A (D5 (.ref e)) Q E s:=by
 have T:s.TypeIs (.ref e) "enumerate" := ⟨_,he,rfl⟩
 unfold D5
 refine Aa (D8 (AU (name:=Ci "__next__") T Cr (Bu Cr T Eb ?_ (DF _))))
 refine Aa (m:=Er (.ref e) 2) (AL he rfl (x:=.ref it) rfl (Aa (jL hh hit hl hx λh' x g ⟨o,ho,hc⟩=>?_)))
 exact Aa (Fv (T:= "StopIteration") (b:=true) ⟨o,ho,hc⟩ Gf (Ar (hQ _ g)))
end
def aCw(it:Addr):Obj:={ cls:=.type "enumerate",data:=.fields #[.none,.bool false,.ref it,Em 0,.none,.none] }
theorem aBd(k:Bool)(l:Addr)(xs:Array Value)(ol:Obj):HB (DM.«enumerate.__new__» ⟨[.type "enumerate",.ref l],[]⟩) (λ_ R s=>s.heap.get? l=some ol/\dR k s.heap l xs /\
 R (.ok (.ret (.ref (s.heap.push (gP k l)).objs.size))) { s with heap:=(s.heap.push (gP k l)).push (aCw s.heap.objs.size) }):=
 .of_wp λprog w A R s h=>by
  obtain⟨hp,g,d,tk,os⟩:=s;obtain⟨ho,hl,h⟩:=h
  have hsub:=sub_enumerate
  have hL:dR k (Shared.heap ⟨hp,g,d,tk,os⟩) l xs:=hl
  wp_walk using Cb ho
  refine wpAny_stack_any λst=>Ar ?_
  split
  . rename_i c _ _ _ _ _
    cases(c==FH "enumerate") <;> (wp_walk using Cb ho,iO hL;exact⟨_,rfl,h⟩)
  . wp_walk using Cb ho,iO hL
    exact⟨_,rfl,h⟩
theorem aCx{prog:Av}{w:AG}{A:AY}{E:Value->Ae->Prop}{s:Ae}{k:Bool}{l:Addr}{xs:Array Value}{Q:Value->Ae->Prop}(hl:dR k s.heap l xs)
 (h:∀h',Ea h' (s.heap.objs.size+1) s.heap.objs.size 0 .none->cI k h' s.heap.objs.size l 0->(∀b o,s.heap.get? b=some o->h'.get? b=some o)->Q (.ref (s.heap.objs.size+1)) { s with heap:=h' }) :
 Au (A3 prog w) A (call (.type "enumerate") [.ref l]) Q E s:=by
 obtain⟨ol,ho⟩:∃ol,s.heap.get? l=some ol:=by
  cases k with
  | true=>obtain⟨o,e,_⟩:=hl;exact⟨o,e⟩
  | false=>obtain⟨o,e,_⟩:=hl;exact⟨o,e⟩
 refine GG F.called_enumerate (by decide) (F.typeCall_enumerate_1 _) (F.newCall_enumerate_1 _) (λobj=>F.args_object_init_2 obj _) F.entry_enumerate_new (aBd k l xs ol) ⟨ho,hl,?_⟩
 have z:(s.heap.push (gP k l)).objs.size=s.heap.objs.size+1:=Be ..
 have nf:(gP k l).isFreed=false:=by cases k <;> rfl
 have g2:((s.heap.push (gP k l)).push (aCw s.heap.objs.size)).get? (s.heap.push (gP k l)).objs.size=some (aCw s.heap.objs.size):=As _ rfl
 show _/\_
 rw[z] at g2 ⊢
 exact⟨⟨_,g2,rfl⟩,h _ g2 (oK (Ab _ (As _ nf))) λb o x=>Ab _ (Ab _ x)⟩
def Ite(K:Ak)(k:Bool)(a:Addr):It:=
 ⟨λi H=>∃xs x,Sq k K H a xs/\xs[i]? = some x,
  λi H v H'=>∃p x,v=.ref p/\H p=none/\K.lookup p=none/\H'=upd H p (.tup [.int i,x])/\∀xs,Sq k K H a xs->xs[i]? = some x,
  λi H=>∃xs,Sq k K H a xs/\xs.length<=i⟩
theorem aEn{P:Av}{w:AG}{K:Ak}{k:Bool}{elts:List Ah}{tk:Nat}{tp:BX}{e it a:Addr}(ne:e≠it) :
 tZ P w K (.Tuple elts tk tp) (Ite K k a) [e,it] e (λi h=>(∃old,Ea h e it i old)/\cI k h it a i) where
 mem:=by simp
 obj:=λi h st c hc=>by
  obtain⟨⟨old,he⟩,h1⟩:=st
  have hc':c=e\/c=it:=by simpa using hc
  rcases hc' with rfl|rfl
  . exact⟨_,he,λv z=>by cases(show F3 _=Ew v from z)⟩
  . exact h1.obj
 keep:=λi h h' st kp=>by
  obtain⟨⟨old,he⟩,h1⟩:=st
  exact⟨⟨old,kp e (by simp) _ he⟩,h1.at λo q=>kp it (by simp) o q⟩
 item:=by
  intro X hP hw hK hc i pins s σ H E I hf st hg
  subst hP hw hK
  obtain⟨⟨old,he⟩,h1⟩:=st
  obtain⟨xs,x,ha,hx⟩:=hg
  obtain⟨as,ra,pa,_⟩:=I.sq ha
  obtain⟨ux,hux,rx⟩:=ra.get hx
  refine uW he h1 pa (x:=ux) (by simpa using hux) ne λh' a1 a2 a3 a4 hk=>?_
  refine⟨_,rfl,wpAny_letOwnedTupleGo_enum (s:={ s with heap:=h',toks:=s.toks+1 }) a1 λh'' e' hs'=>?_⟩
  have lt:s.heap.objs.size≠e:=BB (An he)
  have hk2:∀c o,c∉[e,it]->s.heap.get? c=some o->h''.get? c=some o:=λc o hc q=>by
   have hc':c≠e/\c≠it:=by simpa using hc
   exact hs'.extBut _ _ hc'.1 (hk c o hc'.1 hc'.2 q)
  have t1:cI k h'' it a (i+1):=a2.at λo q=>hs'.extBut _ _ ne.symm q
  have tT:h''.get? s.heap.objs.size=some { cls:=.type "tuple",data:=.seq #[.int i s.toks,ux] }:=hs'.extBut _ _ lt a3
  have hn:H s.heap.objs.size=none:=I.fresh
  have I1:Inv X pins σ (upd H s.heap.objs.size (.tup [.int i,x])) { s with heap:=h'',toks:=s.toks+1 }:=by
   refine I.turnsNew (t':=s.toks+1) hf hk2 (λc hc=>?_) (Aj _) ⟨by show 2<=sizeLine;rw[B1];decide,[.int i s.toks,ux],.cons ⟨_,rfl⟩ (.cons rx .nil),_,tT,rfl,_,rfl⟩
   have hc':c=e\/c=it:=by simpa using hc
   rcases hc' with rfl|rfl
   . exact⟨_,e'⟩
   . obtain⟨o,q,_⟩:=t1.obj;exact⟨o,q⟩
  refine⟨.ref s.heap.objs.size,_,I1,rfl,⟨_,x,rfl,hn,I.newK,rfl,λxs' ha'=>?_⟩,⟨⟨_,e'⟩,t1⟩,λc hc=>?_⟩
  . rw[I.sq_inj ha' ha]
    exact hx
  . rw[aN (A6 ?_)]
    . exact(hf c hc).1
    . have hc':c=e\/c=it:=by simpa using hc
      rcases hc' with rfl|rfl
      . exact An he
      . obtain⟨o,q,_⟩:=h1.obj;exact An q
 done:=by
  intro X hP hw hK hc i pins s σ H E I hf st hg
  subst hP hw hK
  obtain⟨⟨old,he⟩,h1⟩:=st
  obtain⟨xs,ha,hend⟩:=hg
  obtain⟨as,ra,pa,_⟩:=I.sq ha
  have la:=ra.length
  refine xV (I.ok.hd hc) he h1 pa (by simp;omega) λh' hk=>⟨rfl,I.turns (t':=s.toks) hf λc o hc q=>hk c o ?_ q⟩
  have hc':c≠e/\c≠it:=by simpa using hc
  exact hc'.2
 self:=λ_ _ _ _ _ st h=>let ⟨_,q⟩:=st.1;Fh q h
def iEn(K:Ak)(ta:TA):TI:=λσ H R=>ta σ H λvs H1=>∃(k:Bool) (a:Addr) (xs:List V),vs=[.ref a]/\Sq k K H1 a xs/\R (Ite K k a) H1
theorem aBe:BA "enumerate" = some (.type "enumerate"):=by kernel_rfl
theorem aEo{X:Cx}{a:Ah}{ta:TA}{p pos:BX}{elts:List Ah}{tk:Nat}{tp:BX}(hg:Gl X "enumerate")(hm:X.mg "enumerate" = none)(ha:PA X [a] ta)(hs:AN [a] X.env=[(false,C3 a X.env)]) :
 PI X (.Tuple elts tk tp) (.Call (.Name "enumerate" p) [a] [] pos) (iEn X.K ta):=by
 intro pins s σ H R I h
 refine Hz (gU I hg hm aBe (Bn (thn (ha pos pins s σ H _ I h) λus s1 ⟨vs,H1,I1,r1,q1⟩=>?_) (by rw[hs];rfl) rfl))
 obtain⟨k,a1,xs,e,q1,q⟩:=q1
 subst e
 cases r1 with
 | cons r rr=>
  cases rr
  cases r
  obtain⟨as,ra,pa,_⟩:=I1.sq q1
  refine aCx pa λh' he h1 hk=>Fh (s:={ s1 with heap:=h' }) he ?_
  refine⟨s1.heap.objs.size+1,_,_,_,H1,rfl,I1.kept (t':=s1.toks) hk,aEn (Nat.succ_ne_self _),⟨⟨_,he⟩,h1⟩,λc hc=>?_,q⟩
  have hc':c=s1.heap.objs.size+1\/c=s1.heap.objs.size:=by simpa using hc
  have hle:s1.heap.objs.size<=c:=by rcases hc' with rfl|rfl <;> omega
  exact I1.fpOk hle (I1.hok.fresh hle)
end L2
end
noncomputable section
namespace Hp
open PySem PySem.Spec PyProof.Rows L2
theorem Kp.refl(R:Addr->Prop)(H:Hp):Kp R H H:=λ_ _ h _=>h
theorem Kp.same{R:Addr->Prop}{H H':Hp}(s:aL H H'):Kp R H H':=λa o h _=>s a o h
theorem Kp.trans{R:Addr->Prop}{H H1 H2:Hp}(a:Kp R H H1)(b:Kp R H1 H2):Kp R H H2:=λc o h n=>b c o (a c o h n) n
section
variable {K:Fg} {RT Y old R:Addr->Prop} {σ:Sg} {σV:L2.St} {H H':Hp}
theorem Kp.seqL(k:Kp R H H'){a:Addr}{xs:List V}(n:¬ R a)(h:SqL K H a xs):SqL K H' a xs:=by
 rcases h with(h|⟨o,h⟩)|h
 . exact .inl (.inl (k _ _ h n))
 . exact .inl (.inr ⟨o,k _ _ h n⟩)
 . exact .inr h
theorem Kp.seqT(k:Kp R H H')(hR:∀a,R a->∃ys,H a=some (.lst ys)){a:Addr}{xs:List V}(h:SqT K H a xs):SqT K H' a xs:=by
 rcases h with(h|⟨o,h⟩)|h
 . refine .inl (.inl (k _ _ h λz=>?_))
   obtain⟨ys,e⟩:=hR a z
   rw[h] at e;cases e
 . refine .inl (.inr ⟨o,k _ _ h λz=>?_⟩)
   obtain⟨ys,e⟩:=hR a z
   rw[h] at e;cases e
 . exact .inr h
theorem Reps.kp{ex:Addr->Prop}{ds:List D}{xs:List V}(r:Reps K H ex ds xs)(k:Kp R H H')(hR:∀a,R a->∃ys,H a=some (.lst ys))(hx:∀a,R a->ex a):Reps K H' ex ds xs:=
 r.keep λa o e hl=>k a o e λz=>by
  obtain⟨ys,e'⟩:=hR a z
  rw[e] at e'
  cases e'
  exact hl ys rfl (hx a z)
theorem Rep.kp{ex:Addr->Prop}{d:D}{x:V}(r:Rep K H ex d x)(k:Kp R H H')(hR:∀a,R a->∃ys,H a=some (.lst ys))(hx:∀a,R a->ex a):Rep K H' ex d x:=
 r.keep λa o e hl=>k a o e λz=>by
  obtain⟨ys,e'⟩:=hR a z
  rw[e] at e'
  cases e'
  exact hl ys rfl (hx a z)
def rtF(RT:Addr->Prop)(σ:Sg)(σV:L2.St)(al:List Nat)(a:Addr):Prop:=RT a/\¬ alR σ σV al a
theorem dS:∀(al:List Nat) (σ:Sg) (i:Nat),(freeze σ al)[i]? = (σ[i]?).map λs=>if i∈al then s.freeze else s
 | [],σ,i=>by cases q:σ[i]? <;> simp[freeze,q]
 | j::al,σ,i=>by
  rw[freeze,dS al]
  cases qj:σ[j]? with
  | none=>
   simp only
   cases q:σ[i]? with
   | none=>rfl
   | some s=>
    have hne:i≠j:=λe=>by subst e;rw[q] at qj;cases qj
    simp[hne]
  | some sj=>
   simp only
   by_cases hij:i=j
   . subst hij
     have hl:i<σ.length:=(Aw.mp qj).1
     rw[Ap hl,qj]
     simp only[Eg,AD,true_or,if_true]
     split
     . cases sj <;> rfl
     . rfl
   . rw[Ac (Cz hij)]
     simp[hij]
theorem oM:∀(al:List Nat) (σ:Sg),(freeze σ al).length=σ.length
 | [],σ=>rfl
 | j::al,σ=>by
  rw[freeze,oM al]
  split
  . rw[Ay]
  . rfl
theorem freeze_sh{al:List Nat}{i:Nat}{pa:Bool}{d:D}(h:(freeze σ al)[i]? = some (.sh pa d)):σ[i]? = some (.sh pa d)\/∃ds,i∈al/\σ[i]? = some (.own pa ds)/\d=.lst ds:=by
 rw[dS] at h
 cases q:σ[i]? with
 | none=>rw[q] at h;cases h
 | some s=>
  rw[q] at h
  have h:(if i∈al then s.freeze else s)=.sh pa d:=Ai h
  split at h
  . rename_i hi
    cases s with
    | dead=>cases h
    | sh pa' d'=>cases h;exact .inl rfl
    | own pa' ds'=>cases h;exact .inr ⟨ds',hi,rfl,rfl⟩
    | lent _=>cases h
    | dp _=>cases h
  . exact .inl (by rw[h])
theorem dU{al:List Nat}{i:Nat}{pa:Bool}{ds:List D}(h:(freeze σ al)[i]? = some (.own pa ds)):σ[i]? = some (.own pa ds)/\i∉al:=by
 rw[dS] at h
 cases q:σ[i]? with
 | none=>rw[q] at h;cases h
 | some s=>
  rw[q] at h
  have h:(if i∈al then s.freeze else s)=.own pa ds:=Ai h
  split at h
  . cases s <;> cases h
  . rename_i hi
    exact⟨by rw[h],hi⟩
theorem uX{al:List Nat}{i:Nat}{ds:List D}(h:(freeze σ al)[i]? = some (.lent ds)):σ[i]? = some (.lent ds):=by
 rw[dS] at h
 cases q:σ[i]? with
 | none=>rw[q] at h;cases h
 | some s=>
  rw[q] at h
  have h:(if i∈al then s.freeze else s)=.lent ds:=Ai h
  split at h
  . cases s with
    | lent d=>exact congrArg some h
    | _=>cases h
  . rw[h]
theorem aBf{al:List Nat}{i:Nat}{ds:Option (List D)}(h:(freeze σ al)[i]? = some (.dp ds)):σ[i]? = some (.dp ds):=by
 rw[dS] at h
 cases q:σ[i]? with
 | none=>rw[q] at h;cases h
 | some s=>
  rw[q] at h
  have h:(if i∈al then s.freeze else s)=.dp ds:=Ai h
  split at h
  . cases s with
    | dp d=>exact congrArg some h
    | _=>cases h
  . rw[h]
theorem Sx.frz(S:Sx K RT Y old σ σV H)(al:List Nat):Sx K (rtF RT σ σV al) Y old (freeze σ al) σV H where
 sh:=λi pa d h=>by
  rcases freeze_sh h with h|⟨ds,hi,ho,e⟩
  . obtain⟨v,h1,h2⟩:=S.sh i pa d h
    exact⟨v,h1,h2.weak λa z=>z.elim (λz=>.inl z.1) .inr⟩
  . subst e
    obtain⟨a,xs,h1,h2,h3,h4,h5⟩:=S.own i pa ds ho
    refine⟨.ref a,h1,a,xs,rfl,SqL.of h2,⟨?_,λ_=>h2⟩,h5.weak λa z=>z.elim (λz=>.inl z.1) .inr⟩
    rintro (z|z|⟨_,z⟩)
    . exact z.2 ⟨i,hi,⟨pa,ds,ho⟩,h1⟩
    . exact h4 (S.yo a z)
    . exact h4 z
 own:=λi pa ds h=>by
  obtain⟨h,hi⟩:=dU h
  obtain⟨a,xs,h1,h2,h3,h4,h5⟩:=S.own i pa ds h
  refine⟨a,xs,h1,h2,⟨h3,?_⟩,h4,h5.weak λa z=>z.elim (λz=>.inl z.1) .inr⟩
  rintro ⟨j,hj,⟨pa',ds',q⟩,q'⟩
  have:=S.inj i j pa pa' ds ds' a h q h1 q'
  subst this
  exact hi hj
 trk:=λa z=>S.trk a (z.elim (λz=>.inl z.1) .inr)
 yo:=S.yo
 tk:=S.tk
 rt:=λa z=>S.rt a z.1
 inj:=λi j pa pa' ds ds' a h1 h2 h3 h4=>S.inj i j pa pa' ds ds' a (dU h1).1 (dU h2).1 h3 h4
 len:=by rw[oM];exact S.len
 lx:=S.lx.imp S.tk (λ_ _ r=>r) id (λ_ _ e=>⟨uX e,rfl⟩) (λ_ _ _ _ _ _ e=>e) (λa xs e z o=>⟨e,z,λ⟨j,_,⟨pa,ds,q⟩,q'⟩=>by
  obtain⟨b,ys,h1,h2,h3,h4,h5⟩:=S.own j pa ds q
  rw[q'] at h1
  cases h1
  exact h4 o⟩) (λ_ _ r=>r.weak λa z=>z.imp (·.1) id) (λ_ _ e=>⟨aBf e,rfl⟩) (λ_ _ _ _ _ _ e=>e) (λp xs e z=>⟨e,⟨z.1,λ⟨j,_,⟨pa,ds,q⟩,q'⟩=>z.2.2 j pa ds q q'⟩,z.2.1,λk pa ds q=>z.2.2 k pa ds (dU q).1⟩) λ_ _ r=>r
theorem Tk.new{p:Addr}{o:HO}(t:Tk K H)(h:K.lookup p=none):Tk K (upd H p o):=λb hb=>by
 by_cases e:b=p
 . rw[e];exact h
 . rw[aN e] at hb;exact t b hb
def Nw(K:Fg)(H:Hp)(a:Addr):Prop:=H a=none/\K.lookup a=none
theorem zU{a:Addr}{xs:List V}(q:SqL K H a xs):¬ Nw K H a:=by
 rintro ⟨n,k⟩
 rcases q with(q|⟨o,q⟩)|⟨o,its,m,q,_⟩
 . rw[n] at q;cases q
 . rw[n] at q;cases q
 . rw[k] at q;cases q
theorem Reps.outN{ex:Addr->Prop}{d:List D}{v:List V}(h:Reps K H ex d v):Reps K H (λb=>ex b\/Nw K H b) d v:=
 Reps.imp (λ_ _ q=>q) (λb xs nb q=>⟨λz=>z.elim nb (zU q),q⟩) (λ⟨c,h1,h2⟩=>⟨c,h1,h2.resolve_right λz=>h1 z.2⟩) (λ_ _ _ q=>q) (λ_ _ q=>q) d v h
theorem RvN.sub{ex:Addr->Prop}{v:Vl}{d:D}{x:V}(h:Rep K H' (λa=>exV RT Y old σ σV v.pa v.al a\/ex a) d x):Rep K H' (λa=>exV RT Y old σ σV (v.sub d).pa (v.sub d).al a\/ex a) (v.sub d).d x:=by
 unfold Vl.sub
 by_cases hn:noL d=true
 . rw[if_pos hn]
   exact Rep.free d x hn h
 . rw[if_neg hn]
   exact h
structure pY (K:Fg) (RT Y old:Addr->Prop) (σ:Sg) (σV:L2.St) (H1:Hp) (J:L2.It) (xs:List Vl) (al:List Nat):Prop where
 sub:∀v∈xs,∀j∈v.al,j∈al
 nofr:∀v∈xs,v.fr=false
 ok:∀(R:Addr->Prop),(∀b,R b->rtF RT σ σV al b)->∀(i:Nat) (H:Hp),Kp R H1 H->(i<xs.length->J.go i H)/\(xs.length<=i->J.stop i H)/\∀x H',J.yld i H x H'->∀v,xs[i]? = some v->aL H H'/\(Tk K H->Tk K H')/\Rep K H' (λa=>exV RT Y old σ σV v.pa v.al a\/Nw K H1 a) v.d x
theorem sH{v:Vl}{d:D}:∀j∈(v.sub d).al,j∈v.al:=by
 unfold Vl.sub Vl.cl
 split
 . intro j hj;cases hj
 . intro j hj;exact hj
theorem lR{v:Vl}{d:D}:(v.sub d).fr=false:=by
 unfold Vl.sub Vl.cl
 split <;> rfl
theorem eQ{x:Vl}{ds:List D}{i:Nat}{v:Vl}(h:(items x ds)[i]? = some v):∃d,ds[i]? = some d/\v=x.sub d:=by
 unfold items at h
 rw[A4] at h
 cases q:ds[i]? with
 | none=>rw[q] at h;cases h
 | some d=>rw[q] at h;exact⟨d,rfl,(Ai h).symm⟩
theorem iF{al:List Nat}{pa:Bool}{b:Addr}(h:rtF RT σ σV al b):exV RT Y old σ σV pa al b:=.inl h
theorem mW:∀(as bs:List D),(gX as bs).length=min as.length bs.length
 | [],_=>by simp[gX]
 | _::_,[]=>by simp[gX]
 | _::as,_::bs=>by
  rw[gX,lC,mW as bs,lC,lC]
  omega
theorem uY:∀{as bs:List D} {i:Nat} {a b:D},as[i]? = some a->bs[i]? = some b->(gX as bs)[i]? = some (.tup [a,b])
 | [],_,_,_,_,h,_=>by simp at h
 | _::_,[],_,_,_,_,h=>by simp at h
 | _::_,_::_,0,_,_,h,h'=>by
  simp at h h'
  subst h h'
  rfl
 | _::as,_::bs,i+1,a,b,h,h'=>by
  have:=uY (as:=as) (bs:=bs) (i:=i) (a:=a) (b:=b) (by simpa using h) (by simpa using h')
  simpa[gX] using this
theorem aEp(S:Sx K RT Y old σ σV H){x:Vl}{ds:List D}{a:Addr}{xs:List V}(q:SqL K H a xs)(n:¬ exV RT Y old σ σV x.pa x.al a)(r:Reps K H (exV RT Y old σ σV x.pa x.al) ds xs) :
 pY K RT Y old σ σV H (Itl K a) (items x ds) x.al where
 sub:=λv hv j hj=>by
  obtain⟨d,_,e⟩:=AH.mp hv
  subst e
  exact sH j hj
 nofr:=λv hv=>by
  obtain⟨d,_,e⟩:=AH.mp hv
  subst e
  exact lR
 ok:=λR hR i H1 k=>by
  have q1:SqL K H1 a xs:=k.seqL (λz=>n (iF (hR a z))) q
  have r1:Reps K H1 (λa=>exV RT Y old σ σV x.pa x.al a\/Nw K H a) ds xs:=r.outN.kp k (λb z=>S.rt b (hR b z).1) λb z=>.inl (iF (hR b z))
  have hl:(items x ds).length=xs.length:=by unfold items;rw[lM,r.length]
  refine⟨λhi=>⟨xs,xs[i]'(by omega),q1,Am (by omega)⟩,λhi=>⟨xs,q1,by omega⟩,λy H' hy v hv=>?_⟩
  obtain⟨e,hy⟩:=hy
  subst e
  obtain⟨d,hd,e⟩:=eQ hv
  subst e
  obtain⟨y',hy',ry⟩:=r1.get hd
  rw[hy xs q1] at hy'
  cases hy'
  exact⟨aL.refl _,id,RvN.sub ry⟩
theorem aGA(S:Sx K RT Y old σ σV H){x:Vl}{ds:List D}{a:Addr}{xs:List V}(q:SqT K H a xs)(r:Reps K H (exV RT Y old σ σV x.pa x.al) ds xs) :
 pY K RT Y old σ σV H (Itt K a) (items x ds) x.al where
 sub:=λv hv j hj=>by
  obtain⟨d,_,e⟩:=AH.mp hv
  subst e
  exact sH j hj
 nofr:=λv hv=>by
  obtain⟨d,_,e⟩:=AH.mp hv
  subst e
  exact lR
 ok:=λR hR i H1 k=>by
  have q1:SqT K H1 a xs:=k.seqT (λb z=>S.rt b (hR b z).1) q
  have r1:Reps K H1 (λa=>exV RT Y old σ σV x.pa x.al a\/Nw K H a) ds xs:=r.outN.kp k (λb z=>S.rt b (hR b z).1) λb z=>.inl (iF (hR b z))
  have hl:(items x ds).length=xs.length:=by unfold items;rw[lM,r.length]
  refine⟨λhi=>⟨xs,xs[i]'(by omega),q1,Am (by omega)⟩,λhi=>⟨xs,q1,by omega⟩,λy H' hy v hv=>?_⟩
  obtain⟨e,hy⟩:=hy
  subst e
  obtain⟨d,hd,e⟩:=eQ hv
  subst e
  obtain⟨y',hy',ry⟩:=r1.get hd
  rw[hy xs q1] at hy'
  cases hy'
  exact⟨aL.refl _,id,RvN.sub ry⟩
theorem sJ{lo:Int}{m:Nat}{xs:List Vl}(hx:xs=((AO m).map λ(k:Nat)=>Vl.cl (.int (lo+(k:Int))))):pY K RT Y old σ σV H (Itr lo m) xs [] where
 sub:=λv hv j hj=>by
  subst hx
  obtain⟨d,_,e⟩:=AH.mp hv
  subst e
  exact hj
 nofr:=λv hv=>by
  subst hx
  obtain⟨d,_,e⟩:=AH.mp hv
  subst e
  rfl
 ok:=λR hR i H1 k=>by
  have hl:xs.length=m:=by rw[hx,lM,List.length_range]
  refine⟨λhi=>(show i<m by omega),λhi=>(show m<=i by omega),λy H' hy v hv=>?_⟩
  obtain⟨e,hy⟩:=hy
  subst e hy
  subst hx
  rw[A4] at hv
  have hi:i<m:=by
   have:=(Aw.mp (show((AO m).map λ(k:Nat)=>Vl.cl (.int (lo+(k:Int))))[i]? = some v by rw[A4];exact hv)).1
   simpa using this
  rw[List.getElem?_range hi] at hv
  cases hv
  exact⟨aL.refl _,id,rfl⟩
theorem aGB{z:Str}{xs:List Vl}(hx:xs=(z.cps.toList.map λn=>Vl.cl (.str ⟨#[n]⟩))):pY K RT Y old σ σV H (Its z) xs [] where
 sub:=λv hv j hj=>by
  subst hx
  obtain⟨d,_,e⟩:=AH.mp hv
  subst e
  exact hj
 nofr:=λv hv=>by
  subst hx
  obtain⟨d,_,e⟩:=AH.mp hv
  subst e
  rfl
 ok:=λR hR i H1 k=>by
  have hl:xs.length=z.cps.size:=by rw[hx,lM,B9]
  refine⟨λhi=>(show i<z.cps.size by omega),λhi=>(show z.cps.size<=i by omega),λy H' hy v hv=>?_⟩
  obtain⟨e,c,hc,hy⟩:=hy
  subst e hy
  subst hx
  rw[A4,Ej,hc] at hv
  cases hv
  exact⟨aL.refl _,id,rfl⟩
theorem aGC(S:Sx K RT Y old σ σV H){ka kb:Bool}{as bs:List D}{a b:Addr}{xs ys:List V}{pa:Bool}{al:List Nat}(qa:Sq ka K H a xs)(qb:Sq kb K H b ys)(na:ka=true->¬ exV RT Y old σ σV pa al a)(nb:kb=true->¬ exV RT Y old σ σV pa al b)
 (ra:Reps K H (exV RT Y old σ σV pa al) as xs) (rb:Reps K H (exV RT Y old σ σV pa al) bs ys):pY K RT Y old σ σV H (Itz K ka kb a b) (items ⟨.non,false,pa,al⟩ (gX as bs)) al where
 sub:=λv hv j hj=>by
  obtain⟨d,_,e⟩:=AH.mp hv
  subst e
  exact sH j hj
 nofr:=λv hv=>by
  obtain⟨d,_,e⟩:=AH.mp hv
  subst e
  exact lR
 ok:=λR hR i H1 k=>by
  have keep:∀{kk:Bool} {c:Addr} {zs:List V},(kk=true->¬ exV RT Y old σ σV pa al c)->Sq kk K H c zs->Sq kk K H1 c zs:=by
   intro kk c zs nn q
   cases kk with
   | true=>exact k.seqL (λz=>nn rfl (iF (hR c z))) q
   | false=>exact k.seqT (λb z=>S.rt b (hR b z).1) q
  have qa1:=keep na qa
  have qb1:=keep nb qb
  have ra1:Reps K H1 (λa=>exV RT Y old σ σV pa al a\/Nw K H a) as xs:=ra.outN.kp k (λb z=>S.rt b (hR b z).1) λb z=>.inl (iF (hR b z))
  have rb1:Reps K H1 (λa=>exV RT Y old σ σV pa al a\/Nw K H a) bs ys:=rb.outN.kp k (λb z=>S.rt b (hR b z).1) λb z=>.inl (iF (hR b z))
  have hl:(items ⟨.non,false,pa,al⟩ (gX as bs)).length=min xs.length ys.length:=by unfold items;rw[lM,mW,ra.length,rb.length]
  have ge:∀(h1:i<xs.length) (h2:i<ys.length),True:=λ_ _=>trivial
  refine⟨λhi=>?_,λhi=>⟨xs,ys,qa1,qb1,by omega⟩,λy H' hy v hv=>?_⟩
  . have h1:i<xs.length:=by omega
    have h2:i<ys.length:=by omega
    exact⟨xs,ys,xs[i],ys[i],qa1,qb1,Am h1,Am h2⟩
  . obtain⟨p,x,y',rfl,hp,hk,rfl,hh⟩:=hy
    obtain⟨hx,hy⟩:=hh xs ys qa1 qb1
    obtain⟨d,hd,e⟩:=eQ hv
    subst e
    obtain⟨d1,hd1,rd1⟩:=ra1.get' hx
    obtain⟨d2,hd2,rd2⟩:=rb1.get' hy
    rw[uY hd1 hd2] at hd
    cases hd
    have sm:aL H1 (upd H1 p (.tup [x,y'])):=aL.new hp
    refine⟨sm,λtk=>tk.new hk,RvN.sub (v:=⟨.non,false,pa,al⟩) ?_⟩
    exact⟨p,[x,y'],rfl,SqT.of aW,.cons (rd1.grow sm) (.cons (rd2.grow sm) .nil)⟩
theorem kB:∀(as:List D) (j:Int),(dD j as).length=as.length
 | [],_=>rfl
 | _::as,j=>by rw[dD,lC,kB as,lC]
theorem qW:∀{as:List D} {i:Nat} {j:Int} {a:D},as[i]? = some a->(dD j as)[i]? = some (.tup [.int (j+(i:Int)),a])
 | [],_,_,_,h=>by simp at h
 | _::_,0,j,_,h=>by
  simp at h
  subst h
  simp[dD]
 | _::as,i+1,j,a,h=>by
  have:=qW (as:=as) (i:=i) (j:=j+1) (a:=a) (by simpa using h)
  rw[dD,gS,this]
  have e:j+1+(i:Int)=j+((i+1:Nat):Int):=by omega
  rw[e]
theorem aEq(S:Sx K RT Y old σ σV H){k:Bool}{as:List D}{a:Addr}{xs:List V}{x:Vl}(qa:Sq k K H a xs)(na:k=true->¬ exV RT Y old σ σV x.pa x.al a)(ra:Reps K H (exV RT Y old σ σV x.pa x.al) as xs) :
 pY K RT Y old σ σV H (Ite K k a) (items x (dD 0 as)) x.al where
 sub:=λv hv j hj=>by
  obtain⟨d,_,e⟩:=AH.mp hv
  subst e
  exact sH j hj
 nofr:=λv hv=>by
  obtain⟨d,_,e⟩:=AH.mp hv
  subst e
  exact lR
 ok:=λR hR i H1 kp=>by
  have qa1:Sq k K H1 a xs:=by
   cases k with
   | true=>exact kp.seqL (λz=>na rfl (iF (hR a z))) qa
   | false=>exact kp.seqT (λb z=>S.rt b (hR b z).1) qa
  have ra1:Reps K H1 (λa=>exV RT Y old σ σV x.pa x.al a\/Nw K H a) as xs:=ra.outN.kp kp (λb z=>S.rt b (hR b z).1) λb z=>.inl (iF (hR b z))
  have hl:(items x (dD 0 as)).length=xs.length:=by unfold items;rw[lM,kB,ra.length]
  refine⟨λhi=>⟨xs,xs[i]'(by omega),qa1,Am (by omega)⟩,λhi=>⟨xs,qa1,by omega⟩,λy H' hy v hv=>?_⟩
  obtain⟨p,z,rfl,hp,hk,rfl,hh⟩:=hy
  obtain⟨d,hd,e⟩:=eQ hv
  subst e
  obtain⟨d1,hd1,rd1⟩:=ra1.get' (hh xs qa1)
  rw[qW hd1,GH] at hd
  cases hd
  have sm:aL H1 (upd H1 p (.tup [.int i,z])):=aL.new hp
  refine⟨sm,λtk=>tk.new hk,RvN.sub (v:=x) ?_⟩
  exact⟨p,[.int i,z],rfl,SqT.of aW,.cons rfl (.cons (rd1.grow sm) .nil)⟩
end
section
variable {X:Cx} {P:Pg} {Γ:Ct} {n:Nat} {RT Y old:Addr->Prop} {σ:Sg} {tg:Ah}
def wI(X:Cx)(P:Pg)(n:Nat)(RT Y old:Addr->Prop)(σ:Sg)(it:Hp.It):TI:=λσV H R=>Sx X.K RT Y old σ σV H/\RE (walk P (call P n) σ it) λxs=>∀J H1,Tk X.K H1->aL H H1->pY X.K RT Y old σ σV H1 J xs.1 xs.2->R J H1
theorem oN{iter:Ah}{t t':TI}(h:PI X tg iter t)(f:∀σV H R,Tk X.K H->t' σV H R->t σV H λJ H'=>Tk X.K H'->R J H'):PI X tg iter t':=λpins s σV H R I hw=>
 thn (h pins s σV H _ I (f σV H R I.tk hw)) λv s1 h1=>thn h1 λitv s2 ⟨it,fp,tn,J,H',e,I',T,st,fo,q⟩=>⟨it,fp,tn,J,H',e,I',T,st,fo,q I'.tk⟩
theorem aJq{c:E}{e:Ah}(ha:PE X e (WE X P n RT Y old σ c)):PI X tg e (wI X P n RT Y old σ (.seq c)):=by
 refine oN (aGz ha) λσV H RR t ⟨S,h⟩=>?_
 have h:=RE.bind' (show RE (ev P (call P n) σ c >>= λx=>(match x.d with
  | .lst ds=>R.ok (items x ds,x.al)
  | .tup ds=>R.ok (items x ds,x.al)
  | .str a=>R.iff (decide (a.length<=lim)) (R.ok (a.cps.toList.map λn=>Vl.cl (.str ⟨#[n]⟩),[]))
  | _=>.bad)) _ from h)
 refine wE.one S h λx u H1 hx t1 S1 r1=>?_
 have rv:=r1.rv S
 split at hx
 . rename_i ds d1
   obtain⟨a,xs,e,q,nn,r⟩:=rv.lst d1
   exact .inl ⟨a,e,.inl ⟨⟨xs,q⟩,λt'=>hx _ _ t' r1.1 (aEp S1 q nn r)⟩⟩
 . rename_i ds d1
   obtain⟨a,xs,e,q,r⟩:=rv.tup d1
   exact .inl ⟨a,e,.inr ⟨⟨xs,q⟩,λt'=>hx _ _ t' r1.1 (aGA S1 q r)⟩⟩
 . rename_i z d1
   obtain⟨c,hx⟩:=hx.iff
   exact .inr ⟨z,rv.str d1,λt'=>hx _ _ t' r1.1 (aGB rfl)⟩
 . exact hx.elim
theorem gH(i j:Int):(bY i j).map Vl.cl=(AO (j-i).toNat).map λ(k:Nat)=>Vl.cl (.int (i+(k:Int))):=by
 unfold bY
 rw[Bc]
 rfl
theorem fT{k:Int}(h:aH k=true):-(2 ^ 62)<=k/\k<2 ^ 62:=by
 unfold aH at h
 simp only[bA,A7] at h
 exact h
theorem aGD(M:Mc X P Γ n){b:E}{e:Ah}{f:Str}{p pos:BX}(hf:f=("range" : Str))(hg:bZ Γ f=true)(ha:PE X e (WE X P n RT Y old σ b))(hp:aK e=true):PI X tg (.Call (.Name f p) [e] [] pos) (wI X P n RT Y old σ (.rng (.c (.int 0)) b)):=by
 subst hf
 refine oN (lO (M.gl hg) (M.md.blt _ (by decide +kernel)) (jJ ha uU hp) (aA hp)) λσV H RR t ⟨S,h⟩=>?_
 have h:RE (ev P (call P n) σ b) λy=>RE (match (D.int 0),y.d with|.int i,.int j=>R.iff (aH i&&aH j) (R.ok ((bY i j).map Vl.cl,[]))|_,_=>.bad) _:=
  RE.bind' (show RE (ev P (call P n) σ b >>= λy=>(match (D.int 0),y.d with|.int i,.int j=>R.iff (aH i&&aH j) (R.ok ((bY i j).map Vl.cl,[]))|_,_=>.bad)) _ from h)
 refine⟨S,?_⟩
 show RE (ev P (call P n) σ b >>= λx=>evs P (call P n) σ .nil >>= λxs=>R.ok (x::xs)) _
 rw[RE.bind]
 refine h.mono λy hy=>?_
 split at hy
 . rename_i i j e1 e2
   cases e1
   obtain⟨c,hy⟩:=hy.iff
   rw[bA] at c
   have c2:=fT c.2
   intro us H1 t1 s1 r1
   obtain⟨u,r',eu,ru,hr⟩:=r1
   rw[show r'=[] from hr] at eu
   subst eu
   refine⟨j,by rw[ru.int e2],c2.1,c2.2,λt'=>hy _ _ t' s1 (sJ ?_)⟩
   rw[gH]
   simp
 . exact hy.elim
theorem aGE(M:Mc X P Γ n){a b:E}{ea eb:Ah}{f:Str}{p pos:BX}(hf:f=("range" : Str))(hg:bZ Γ f=true)(ha:PE X ea (WE X P n RT Y old σ a))(hb:PE X eb (WE X P n RT Y old σ b))(hpa:aK ea=true)(hpb:aK eb=true) :
 PI X tg (.Call (.Name f p) [ea,eb] [] pos) (wI X P n RT Y old σ (.rng a b)):=by
 subst hf
 refine oN (aAH (M.gl hg) (M.md.blt _ (by decide +kernel)) (jJ ha (jJ hb uU hpb) hpa) (by rw[aA hpa,aA hpb];rfl) (aA hpb)) λσV H RR t ⟨S,h⟩=>?_
 have h:=RE.bind' (show RE (ev P (call P n) σ a >>= λx=>ev P (call P n) σ b >>= λy=>(match x.d,y.d with|.int i,.int j=>R.iff (aH i&&aH j) (R.ok ((bY i j).map Vl.cl,[]))|_,_=>.bad)) _ from h)
 refine⟨S,?_⟩
 show RE (ev P (call P n) σ a >>= λx=>evs P (call P n) σ (.cons b .nil) >>= λxs=>R.ok (x::xs)) _
 rw[RE.bind]
 refine h.mono λx hx=>?_
 rw[RE.bind]
 show RE (ev P (call P n) σ b >>= λx=>evs P (call P n) σ .nil >>= λxs=>R.ok (x::xs)) _
 rw[RE.bind]
 refine(RE.bind' hx).mono λy hy=>?_
 split at hy
 . rename_i i j e1 e2
   obtain⟨c,hy⟩:=hy.iff
   rw[bA] at c
   have c1:=fT c.1
   have c2:=fT c.2
   intro us H1 t1 s1 r1
   obtain⟨u,r',eu,ru,u2,r2,eu2,ru2,hr⟩:=r1
   rw[show r2=[] from hr] at eu2
   subst eu2
   subst eu
   refine⟨i,j,by rw[ru.int e1,ru2.int e2],⟨c1.1,c1.2,c2.1,c2.2⟩,λt'=>hy _ _ t' s1 (sJ ?_)⟩
   rw[gH]
 . exact hy.elim
theorem xW{σV:L2.St}{H:Hp}{x:Vl}{u:V}{ds:List D}(hx:Rv X.K RT Y old σ σV H x u)(h:gY x.d=some ds):∃(k:Bool) (a:Addr) (xs:List V),u=.ref a/\Sq k X.K H a xs/\(k=true->¬ exV RT Y old σ σV x.pa x.al a)/\Reps X.K H (exV RT Y old σ σV x.pa x.al) ds xs:=by
 unfold gY at h
 split at h
 . rename_i ds' d1
   cases h
   obtain⟨a,xs,e,q,nn,r⟩:=hx.lst d1
   exact⟨true,a,xs,e,q,λ_=>nn,r⟩
 . rename_i ds' d1
   cases h
   obtain⟨a,xs,e,q,r⟩:=hx.tup d1
   exact⟨false,a,xs,e,q,(λz=>absurd z bN),r⟩
 . cases h
theorem aJr(M:Mc X P Γ n){a b:E}{ea eb:Ah}{f:Str}{p pos:BX}{elts:List Ah}{tk:Nat}{tp:BX}(hf:f=("zip" : Str))(hg:bZ Γ f=true)(ha:PE X ea (WE X P n RT Y old σ a))(hb:PE X eb (WE X P n RT Y old σ b))(hpa:aK ea=true)(hpb:aK eb=true) :
 PI X (.Tuple elts tk tp) (.Call (.Name f p) [ea,eb] [] pos) (wI X P n RT Y old σ (.zip a b)):=by
 subst hf
 refine oN (aGy (M.gl hg) (M.md.blt _ (by decide +kernel)) (jJ ha (jJ hb uU hpb) hpa) (by rw[aA hpa,aA hpb];rfl) (aA hpb)) λσV H RR t ⟨S,h⟩=>?_
 have h:=RE.bind' (show RE (ev P (call P n) σ a >>= λx=>ev P (call P n) σ b >>= λy=>(match gY x.d,gY y.d with
  | some as,some bs=>R.ok (items ⟨.non,false,x.pa||y.pa,x.al++y.al⟩ (gX as bs),x.al++y.al)
  | _,_=>.bad)) _ from h)
 refine⟨S,?_⟩
 show RE (ev P (call P n) σ a >>= λx=>evs P (call P n) σ (.cons b .nil) >>= λxs=>R.ok (x::xs)) _
 rw[RE.bind]
 refine h.mono λx hx=>?_
 rw[RE.bind]
 show RE (ev P (call P n) σ b >>= λx=>evs P (call P n) σ .nil >>= λxs=>R.ok (x::xs)) _
 rw[RE.bind]
 refine(RE.bind' hx).mono λy hy=>?_
 split at hy
 . rename_i as bs e1 e2
   intro us H1 t1 s1 r1
   obtain⟨u,r',eu,ru,u2,r2,eu2,ru2,hr⟩:=r1
   rw[show r2=[] from hr] at eu2
   subst eu2
   subst eu
   obtain⟨ka,a1,xs,rfl,qa,na,ra⟩:=xW ru e1
   obtain⟨kb,b1,ys,rfl,qb,nb,rb⟩:=xW ru2 e2
   have S1:=S.grow s1 t1
   have w1:∀c,exV RT Y old σ σV (x.pa||y.pa) (x.al++y.al) c->exV RT Y old σ σV x.pa x.al c:=λc z=>z.mono (λhp=>by rw[hp];rfl) λj hj=>Bd _ hj
   have w2:∀c,exV RT Y old σ σV (x.pa||y.pa) (x.al++y.al) c->exV RT Y old σ σV y.pa y.al c:=λc z=>z.mono (λhp=>by rw[hp,Cm]) λj hj=>A2 _ hj
   exact⟨ka,kb,a1,b1,xs,ys,rfl,qa,qb,λt'=>hy _ _ t' s1 (aGC S1 qa qb (λhk z=>na hk (w1 _ z)) (λhk z=>nb hk (w2 _ z)) (ra.weak w1) (rb.weak w2))⟩
 . exact hy.elim
theorem aGF(M:Mc X P Γ n){a:E}{ea:Ah}{f:Str}{p pos:BX}{elts:List Ah}{tk:Nat}{tp:BX}(hf:f=("enumerate" : Str))(hg:bZ Γ f=true)(ha:PE X ea (WE X P n RT Y old σ a))(hpa:aK ea=true) :
 PI X (.Tuple elts tk tp) (.Call (.Name f p) [ea] [] pos) (wI X P n RT Y old σ (.enum a)):=by
 subst hf
 refine oN (aEo (M.gl hg) (M.md.blt _ (by decide +kernel)) (jJ ha uU hpa) (aA hpa)) λσV H RR t ⟨S,h⟩=>?_
 have h:=RE.bind' (show RE (ev P (call P n) σ a >>= λx=>(match gY x.d with|some as=>R.ok (items x (dD 0 as),x.al)|none=>.bad)) _ from h)
 refine⟨S,?_⟩
 show RE (ev P (call P n) σ a >>= λx=>evs P (call P n) σ .nil >>= λxs=>R.ok (x::xs)) _
 rw[RE.bind]
 refine h.mono λx hx=>?_
 split at hx
 . rename_i as e1
   intro us H1 t1 s1 r1
   obtain⟨u,r',eu,ru,hr⟩:=r1
   rw[show r'=[] from hr] at eu
   subst eu
   obtain⟨k,a1,xs,rfl,qa,na,ra⟩:=xW ru e1
   exact⟨k,a1,xs,rfl,qa,λt'=>hx _ _ t' s1 (aEq (S.grow s1 t1) qa na ra)⟩
 . exact hx.elim
end
def gs:List Nat->TGs
 | []=>aIr
 | i::is=>aFk (qC i) (gs is)
def gT(K:Fg):T->TG
 | .n i=>qC i
 | .t is=>aIs K is.length (gs is)
section
variable {K:Fg} {RT Y old:Addr->Prop} {σ:Sg} {σV:L2.St} {H H':Hp}
theorem set_some{α:Type}{l:List α}{i j:Nat}{x y:α}(e:(l.set i x)[j]? = some y):(i=j/\x=y/\i<l.length)\/(i≠j/\l[j]? = some y):=by
 by_cases hij:i=j
 . subst hij
   have hl:i<(l.set i x).length:=(Aw.mp e).1
   rw[Ay] at hl
   rw[Ap hl] at e
   cases e
   exact .inl ⟨rfl,rfl,hl⟩
 . rw[Ac hij] at e
   exact .inr ⟨hij,e⟩
theorem Sx.setSh(S:Sx K RT Y old σ σV H){i:Nat}{pa:Bool}{d:D}{u:V}(h:Rep K H (λa=>RT a\/exB Y old pa a) d u):Sx K RT Y old (σ.set i (.sh pa d)) (σV.set i (some u)) H where
 sh:=λj pa' d' e=>by
  rcases set_some e with⟨rfl,e,hl⟩|⟨hij,e⟩
  . cases e
    exact⟨u,Ap (by rw[<-S.len];exact hl),h⟩
  . obtain⟨v,h1,h2⟩:=S.sh j pa' d' e
    exact⟨v,by rw[Ac hij];exact h1,h2⟩
 own:=λj pa' ds e=>by
  rcases set_some e with⟨rfl,e,hl⟩|⟨hij,e⟩
  . cases e
  . obtain⟨a,xs,h1,h2⟩:=S.own j pa' ds e
    exact⟨a,xs,by rw[Ac hij];exact h1,h2⟩
 trk:=S.trk
 yo:=S.yo
 tk:=S.tk
 rt:=S.rt
 inj:=λj j' pa' pa'' ds ds' a e1 e2 e3 e4=>by
  rcases set_some e1 with⟨_,e,_⟩|⟨n1,e1⟩
  . cases e
  rcases set_some e2 with⟨_,e,_⟩|⟨n2,e2⟩
  . cases e
  rw[Ac n1] at e3
  rw[Ac n2] at e4
  exact S.inj j j' pa' pa'' ds ds' a e1 e2 e3 e4
 len:=by rw[Ay,Ay];exact S.len
 lx:=S.lx.imp S.tk (λ_ _ r=>r) id (λj ds e=>by
  rcases set_some e with⟨_,z,_⟩|⟨hij,e⟩
  . cases z
  . exact⟨e,Ac hij⟩) (λ_ _ _ _ _ _ e=>e) (λ_ _ e z _=>⟨e,z⟩) (λ_ _ r=>r) (λj ds e=>by
  rcases set_some e with⟨_,z,_⟩|⟨hij,e⟩
  . cases z
  . exact⟨e,Ac hij⟩) (λ_ _ _ _ _ _ e=>e) (λp xs e z=>⟨e,z.1,z.2.1,λk pa' ds q=>by
  rcases set_some q with⟨_,w,_⟩|⟨hij,q⟩
  . cases w
  . rw[Ac hij];exact z.2.2 k pa' ds q⟩) λ_ _ r=>r
theorem Rep.out{ex:Addr->Prop}{d:D}{v:V}{a:Addr}(h:Rep K H ex d v)(n:H a=none)(k:K.lookup a=none):Rep K H (λb=>b=a\/ex b) d v:=
 Rep.imp (λ_ _ q=>q) (λb xs nb q=>⟨λz=>z.elim (λz=>by
  subst z
  rcases q with(q|⟨o,q⟩)|⟨o,its,m,q,_⟩
  . rw[n] at q;cases q
  . rw[n] at q;cases q
  . rw[k] at q;cases q) nb,q⟩) (λ⟨c,h1,h2⟩=>⟨c,h1,h2.resolve_left λz=>h1 (by rw[z];exact k)⟩) (λ_ _ _ q=>q) (λ_ _ q=>q) d v h
theorem Reps.out{ex:Addr->Prop}{d:List D}{v:List V}{a:Addr}(h:Reps K H ex d v)(n:H a=none)(k:K.lookup a=none):Reps K H (λb=>b=a\/ex b) d v:=
 Reps.imp (λ_ _ q=>q) (λb xs nb q=>⟨λz=>z.elim (λz=>by
  subst z
  rcases q with(q|⟨o,q⟩)|⟨o,its,m,q,_⟩
  . rw[n] at q;cases q
  . rw[n] at q;cases q
  . rw[k] at q;cases q) nb,q⟩) (λ⟨c,h1,h2⟩=>⟨c,h1,h2.resolve_left λz=>h1 (by rw[z];exact k)⟩) (λ_ _ _ q=>q) (λ_ _ q=>q) d v h
theorem Sx.storeOwn(S:Sx K RT Y old σ σV H){i:Nat}{a:Addr}{xs:List V}{ds:List D}{pa:Bool}(s:aL H H')(t:Tk K H')(hn:H a=none)(ha:H' a=some (.lst xs))(r:Reps K H' (λb=>(RT b\/b=a)\/exB Y old pa b) ds xs) :
 Sx K (λb=>RT b\/b=a) Y old (σ.set i (.own pa ds)) (σV.set i (some (.ref a))) H' where
 sh:=λj pa' d' e=>by
  rcases set_some e with⟨rfl,e,hl⟩|⟨hij,e⟩
  . cases e
  . obtain⟨v,h1,h2⟩:=S.sh j pa' d' e
    refine⟨v,by rw[Ac hij];exact h1,((h2.out hn (t a (by rw[ha];simp))).grow s).weak λb z=>?_⟩
    rcases z with(z|z)|z
    . exact .inr (.inl z)
    . exact .inl z
    . exact .inr (.inr z)
 own:=λj pa' ds' e=>by
  rcases set_some e with⟨rfl,e,hl⟩|⟨hij,e⟩
  . cases e
    exact⟨a,xs,Ap (by rw[<-S.len];exact hl),ha,.inr rfl,λz=>S.trk a (.inr (.inr z)) hn (t a (by rw[ha];simp)),r⟩
  . obtain⟨a',xs',h1,h2,h3,h4,h5⟩:=S.own j pa' ds' e
    refine⟨a',xs',by rw[Ac hij];exact h1,s _ _ h2,.inl h3,h4,((h5.out hn (t a (by rw[ha];simp))).grow s).weak λb z=>?_⟩
    rcases z with(z|z)|z
    . exact .inr (.inl z)
    . exact .inl z
    . exact .inr (.inr z)
 trk:=λb z q=>by
  rcases z with(z|z)|z
  . exact S.trk b (.inl z) (s.free q)
  . rw[z,ha] at q;cases q
  . exact S.trk b (.inr z) (s.free q)
 yo:=S.yo
 tk:=t
 rt:=λb z=>by
  rcases z with z|z
  . obtain⟨ys,e⟩:=S.rt b z
    exact⟨ys,s _ _ e⟩
  . rw[z];exact⟨xs,ha⟩
 inj:=λj j' pa' pa'' ds1 ds2 c e1 e2 e3 e4=>by
  have fr:∀{j:Nat} {pa:Bool} {ds:List D},σ[j]? = some (.own pa ds)->σV[j]? = some (some (.ref a))->False:=λ{j pa ds} e q=>by
   obtain⟨a',xs',h1,h2,_⟩:=S.own j pa ds e
   rw[q] at h1
   cases h1
   rw[hn] at h2;cases h2
  rcases set_some e1 with⟨rfl,e,hl⟩|⟨n1,e1⟩
  . rcases set_some e2 with⟨rfl,_,_⟩|⟨n2,e2⟩
    . rfl
    . rw[Ap (by rw[<-S.len];exact hl)] at e3
      cases e3
      rw[Ac n2] at e4
      exact(fr e2 e4).elim
  . rw[Ac n1] at e3
    rcases set_some e2 with⟨rfl,e,hl⟩|⟨n2,e2⟩
    . rw[Ap (by rw[<-S.len];exact hl)] at e4
      cases e4
      exact(fr e1 e3).elim
    . rw[Ac n2] at e4
      exact S.inj j j' pa' pa'' ds1 ds2 c e1 e2 e3 e4
 len:=by rw[Ay,Ay];exact S.len
 lx:=S.lx.imp S.tk (λ_ _ r=>s _ _ r) id (λj ds e=>by
  rcases set_some e with⟨_,z,_⟩|⟨hij,e⟩
  . cases z
  . exact⟨e,Ac hij⟩) (λ_ _ _ _ _ _ e=>e) (λb ys e z _=>⟨s _ _ e,.inl z⟩) (λds ys r=>((r.out hn (t a (by rw[ha];simp))).grow s).weak λb z=>by
    rcases z with(z|z)|z
    . exact .inr (.inl z)
    . exact .inl z
    . exact .inr (.inr z)) (λj ds e=>by
  rcases set_some e with⟨_,z,_⟩|⟨hij,e⟩
  . cases z
  . exact⟨e,Ac hij⟩) (λ_ _ _ _ _ _ e=>e) (λp ys e z=>⟨s _ _ e,.inl z.1,z.2.1,λk pa' ds q v=>by
  rcases set_some q with⟨rfl,w,hl⟩|⟨hij,q⟩
  . rw[Ap (by rw[<-S.len];exact hl)] at v
    cases v
    rw[hn] at e;cases e
  . rw[Ac hij] at v;exact z.2.2 k pa' ds q v⟩) λ_ _ r=>aL.seqT s r
theorem fU{v:Vl}(h:v.fr=false):v.slot=.sh v.pa v.d:=by
 unfold Vl.slot
 rw[h]
theorem zV{v:Vl}{ds:List D}(h:v.fr=true)(hd:v.d=.lst ds):v.slot=.own v.pa ds:=by
 unfold Vl.slot
 rw[h,hd]
theorem Sx.store(S:Sx K RT Y old σ σV H){v:Vl}{u:V}(ro:Ro K RT Y old σ σV H H' v u)(t:Tk K H')(i:Nat) :
 ∃RT',Sx K RT' Y old ((freeze σ v.al).set i v.slot) (σV.set i (some u)) H'/\∀b,RT' b->RT b\/H b=none:=by
 by_cases hf:v.fr=true
 . obtain⟨s,h⟩:=ro
   rw[if_pos hf] at h
   obtain⟨a,xs,ds,e1,e2,e3,e4,r⟩:=h
   subst e1
   rw[zV hf e2]
   refine⟨_,(S.frz v.al).storeOwn s t e3.1 e4 (r.weak λb z=>?_),λb z=>z.elim (λz=>.inl z.1) λz=>.inr (by rw[z];exact e3.1)⟩
   rcases z with(z|z)|z
   . exact .inr (.inl z)
   . exact .inl z
   . exact .inr (.inr z)
 . rw[fU (by simpa using hf)]
   exact⟨_,((S.grow ro.1 t).frz v.al).setSh (ro.rv S),λb z=>.inl z.1⟩
theorem aFx:∀{is:List Nat} {us:List V} {σV:L2.St} {H:Hp} {Q:L2.St->Hp->Prop},is.length=us.length->Q ((is.zip us).foldl (λs p=>s.set p.1 (some p.2)) σV) H->gs is us σV H Q
 | [],[],_,_,_,_,h=>⟨rfl,h⟩
 | [],_::_,_,_,_,e,_=>by simp at e
 | _::_,[],_,_,_,e,_=>by simp at e
 | i::is,u::us,σV,H,Q,e,h=>⟨u,us,rfl,aFx (is:=is) (us:=us) (by simpa using e) h⟩
theorem uZ{v:Vl}{d:D}:(v.sub d).slot=.sh (!noL d&&v.pa) d:=by
 rw[fU lR]
 unfold Vl.sub Vl.cl
 split
 . rename_i h;rw[h];rfl
 . rename_i h
   have:noL d=false:=by simpa using h
   rw[this];rfl
theorem Sx.setAll{v:Vl}:∀{is:List Nat} {ds:List D} {us:List V} {σ:Sg} {σV:L2.St},Sx K RT Y old σ σV H->Reps K H (λa=>RT a\/exB Y old v.pa a) ds us ->
 Sx K RT Y old ((is.zip ds).foldl (λσ p=>σ.set p.1 (v.sub p.2).slot) σ) ((is.zip us).foldl (λs p=>s.set p.1 (some p.2)) σV) H
 | [],_,_,_,_,S,_=>S
 | _::_,[],us,_,_,S,r=>by rw[show us=[] from r];exact S
 | i::is,d::ds,us,σ,σV,S,r=>by
  obtain⟨x,r',e,h1,h2⟩:=r
  subst e
  refine Sx.setAll (v:=v) (is:=is) (ds:=ds) (us:=r') ?_ h2
  show Sx K RT Y old (σ.set i (v.sub d).slot) (σV.set i (some x)) H
  rw[uZ]
  refine S.setSh ?_
  cases hn:noL d with
  | true=>exact Rep.free d x hn h1
  | false=>exact h1
theorem lT{α:Type}{β:Type}(f:β->α):∀{is:List Nat} {bs:List β} {l:List α} {j:Nat},j∉is->((is.zip bs).foldl (λs p=>s.set p.1 (f p.2)) l)[j]? = l[j]?
 | [],_,_,_,_=>rfl
 | _::_,[],_,_,_=>rfl
 | i::is,b::bs,l,j,h=>by
  have h':i≠j/\j∉is:=by
   refine⟨λe=>h (by simp[e]),λz=>h (Ag _ z)⟩
  rw[AA,BL,lT f (is:=is) (bs:=bs) h'.2,Ac h'.1]
theorem vA{α:Type}{β:Type}(f:β->α):∀{is:List Nat} {bs:List β} {l:List α},((is.zip bs).foldl (λs p=>s.set p.1 (f p.2)) l).length=l.length
 | [],_,_=>rfl
 | _::_,[],_=>rfl
 | i::is,b::bs,l=>by rw[AA,BL,vA f (is:=is) (bs:=bs),Ay]
theorem fold_mem{α:Type}{β:Type}(f:β->α):∀{is:List Nat} {bs:List β} {l:List α} {j:Nat} {x:α},((is.zip bs).foldl (λs p=>s.set p.1 (f p.2)) l)[j]? = some x->l[j]? = some x\/∃b,x=f b
 | [],_,_,_,_,h=>.inl h
 | _::_,[],_,_,_,h=>.inl h
 | i::is,b::bs,l,j,x,h=>by
  rw[AA,BL] at h
  rcases fold_mem f (is:=is) (bs:=bs) h with q|q
  . rcases set_some q with⟨_,e,_⟩|⟨_,e⟩
    . exact .inr ⟨b,e.symm⟩
    . exact .inl e
  . exact .inr q
theorem oO{v:Vl}{is:List Nat}{σ2:Sg}(e:bJ σ v (.t is)=.ok σ2):∃ds,v.d=.tup ds/\ds.length=is.length/\σ2=(is.zip ds).foldl (λσ p=>σ.set p.1 (v.sub p.2).slot) σ:=by
 unfold bJ at e
 simp only at e
 split at e
 . rename_i ds hd
   split at e
   . rename_i hl
     cases e
     exact⟨ds,hd,hl,rfl⟩
   . cases e
 . cases e
theorem oP{v:Vl}{i:Nat}{σ2:Sg}(e:bJ σ v (.n i)=.ok σ2):σ2=σ.set i v.slot:=by
 cases(show R.ok (σ.set i v.slot)=R.ok σ2 from e)
 rfl
theorem aCy{v:Vl}{t:T}{σ2:Sg}{j:Nat}(e:bJ σ v t=.ok σ2)(h:j∉tIx t):σ2[j]? = σ[j]? := by
 cases t with
 | n i=>
  rw[oP e]
  exact Ac λz=>h (by simp[tIx,z])
 | t is=>
  obtain⟨ds,_,_,e⟩:=oO e
  rw[e]
  exact lT (λd=>(v.sub d).slot) h
theorem vB{v:Vl}{t:T}{σ2:Sg}(e:bJ σ v t=.ok σ2):σ2.length=σ.length:=by
 cases t with
 | n i=>rw[oP e,Ay]
 | t is=>
  obtain⟨ds,_,_,e⟩:=oO e
  rw[e]
  exact vA (λd=>(v.sub d).slot)
theorem aCz{v:Vl}{t:T}{σ2:Sg}{j:Nat}{pa:Bool}{ds:List D}(hf:v.fr=false)(e:bJ σ v t=.ok σ2)(h:σ2[j]? = some (.own pa ds)):σ[j]? = some (.own pa ds):=by
 cases t with
 | n i=>
  rw[oP e,fU hf] at h
  rcases set_some h with⟨_,e,_⟩|⟨_,e⟩
  . cases e
  . exact e
 | t is=>
  obtain⟨ds',_,_,e⟩:=oO e
  rw[e] at h
  rcases fold_mem (λd=>(v.sub d).slot) h with q|⟨b,q⟩
  . exact q
  . rw[uZ] at q;cases q
theorem vC(S:Sx K RT Y old σ σV H){t:T}{v:Vl}{u:V}{Q:L2.St->Hp->Prop}{σ2:Sg}(hfr:v.fr=false)(h:Rep K H (λa=>RT a\/exB Y old v.pa a) v.d u)(e:bJ σ v t=.ok σ2)
 (q:∀σ2V,Sx K RT Y old σ2 σ2V H->(∀j,j∉tIx t->σ2V[j]? = σV[j]?)->Q σ2V H):gT K t u σV H Q:=by
 cases t with
 | n i=>
  rw[oP e,fU hfr] at q
  exact q _ (S.setSh h) λj hj=>Ac λz=>hj (by simp[tIx,z])
 | t is=>
  obtain⟨ds,hd,hl,e⟩:=oO e
  rw[hd] at h
  obtain⟨a,xs,rfl,hq,r⟩:=h
  have l2:=r.length
  refine⟨a,xs,rfl,hq,by omega,aFx (by omega) (q _ ?_ λj hj=>?_)⟩
  . rw[e];exact S.setAll r
  . exact lT (λd=>some d) hj
end
section
variable {X:Cx} {P:Pg} {Γ:Ct} {n:Nat} {RT Y old:Addr->Prop} {σ:Sg} {tg:Ah} {pos:BX}
theorem vD(M:Mc X P Γ n):∀{is:List Nat} {es:List Ah},is.length=es.length->((is.zip es).all λp=>match p.2 with|.Name x _=>aU Γ p.1 x|_=>false)=true ->
 PGs X es (gs is)/\(Ce es X.env).length=is.length/\(Ce es X.env).findIdx? (·.1)=none
 | [],[],_,_=>⟨aDK,rfl,rfl⟩
 | [],_::_,e,_=>by simp at e
 | _::_,[],e,_=>by simp at e
 | i::is,e::es,hl,h=>by
  rw[AA,C6,bA] at h
  obtain⟨h1,h2,h3⟩:=vD M (is:=is) (es:=es) (by simpa using hl) h.2
  cases e with
  | Name x p=>
   have hs:aU Γ i x=true:=h.1
   unfold aU at hs
   simp only[bA,beq_iff_eq] at hs
   have e1:Ce (.Name x p::es) X.env=(false,DL (.Name x p) X.env)::Ce es X.env:=rfl
   refine⟨aBI (nK M.nd (by rw[M.N];exact hs.1.1) (M.loc hs.1.2) (M.st x hs.1.2)) h1 (by rw[e1];rfl),?_,?_⟩
   . rw[e1,lC,lC,h2]
   . rw[e1,List.findIdx?_cons]
     simp[h3]
  | _=>cases h.1
theorem xX(M:Mc X P Γ n){t:T}(h:iB Γ t tg=true):PG X tg (gT X.K t):=by
 cases t with
 | n i=>
  cases tg with
  | Name x p=>
   have hs:aU Γ i x=true:=h
   unfold aU at hs
   simp only[bA,beq_iff_eq] at hs
   exact nK M.nd (by rw[M.N];exact hs.1.1) (M.loc hs.1.2) (M.st x hs.1.2)
  | _=>cases h
 | t is=>
  cases tg with
  | Tuple es k p=>
   have h:(is.length==es.length&&(is.zip es).all λp=>match p.2 with|.Name x _=>aU Γ p.1 x|_=>false)=true:=h
   rw[bA,beq_iff_eq] at h
   obtain⟨h1,h2,h3⟩:=vD M h.1 h.2
   exact aFV M.calm h1 h2 h3
  | _=>cases h
def ch0(k:Nat)(caps:List Nat)(σ:Sg):Sg:=Ad k .dead++caps.map λi=>(σ[i]?).getD .dead
theorem ch0_get{k:Nat}{caps:List Nat}{σ:Sg}{j:Nat}{s:Sl}(h:(ch0 k caps σ)[j]? = some s):s=.dead\/∃j' i,j=k+j'/\caps[j']? = some i/\σ[i]? = some s:=by
 unfold ch0 at h
 by_cases hj:j<k
 . rw[Bf (by simpa using hj),B5,if_pos hj] at h
   cases h
   exact .inl rfl
 . rw[AT (by simpa using hj),AK,A4] at h
   cases e:caps[j-k]? with
   | none=>rw[e] at h;cases h
   | some i=>
    rw[e] at h
    have h':(σ[i]?).getD .dead=s:=Ai h
    cases q:σ[i]? with
    | none=>rw[q] at h';exact .inl h'.symm
    | some z=>rw[q] at h';exact .inr ⟨j-k,i,by omega,e,by rw[q];exact congrArg some h'⟩
theorem vE{k:Nat}{caps:List Nat}{σ:Sg}{j:Nat}{s:Sl}(hj:j<k)(h:(ch0 k caps σ)[j]? = some s):s=.dead:=by
 unfold ch0 at h
 rw[Bf (by simpa using hj),B5,if_pos hj] at h
 cases h
 rfl
theorem nN{k:Nat}{caps:List Nat}{σV:L2.St}{j i:Nat}{v:V}(e:caps[j]? = some i)(h:σV[i]? = some (some v)):(gG k caps σV)[k+j]? = some (some v):=by
 unfold gG
 rw[AT (by simp),AK,A4,AC,e]
 show some ((σV[i]?).getD none)=_
 rw[h];rfl
theorem kC{k:Nat}{caps:List Nat}{σV:L2.St}{j i:Nat}{v:V}(e:caps[j]? = some i)(h:(gG k caps σV)[k+j]? = some (some v)):σV[i]? = some (some v):=by
 unfold gG at h
 rw[AT (by simp),AK,A4,AC,e] at h
 have h':(σV[i]?).getD none=some v:=Ai h
 cases q:σV[i]? with
 | none=>rw[q] at h';cases h'
 | some z=>rw[q] at h';exact congrArg some h'
theorem iP{α:Type}:∀{l:List α},l.Nodup->∀{i j:Nat} {x:α},l[i]? = some x->l[j]? = some x->i=j
 | [],_,_,_,_,h,_=>by simp at h
 | a::l,hn,0,0,_,_,_=>rfl
 | a::l,hn,0,j+1,x,h1,h2=>by
  have e:a=x:=by simpa using h1
  have:x∈l:=mG (by simpa using h2)
  subst e
  exact absurd this (B8.mp hn).1
 | a::l,hn,i+1,0,x,h1,h2=>by
  have e:a=x:=by simpa using h2
  have:x∈l:=mG (by simpa using h1)
  subst e
  exact absurd this (B8.mp hn).1
 | a::l,hn,i+1,j+1,x,h1,h2=>congrArg (·+1) (iP (B8.mp hn).2 (i:=i) (j:=j) (x:=x) (by simpa using h1) (by simpa using h2))
theorem Sx.child{K:Fg}{σV:L2.St}{H:Hp}(S:Sx K RT Y old σ σV H){k:Nat}{caps:List Nat}(nd:caps.Nodup):Sx K RT Y old (ch0 k caps σ) (gG k caps σV) H where
 sh:=λj pa d e=>by
  rcases ch0_get e with z|⟨j',i,rfl,hc,hs⟩
  . cases z
  . obtain⟨v,h1,h2⟩:=S.sh i pa d hs
    exact⟨v,nN hc h1,h2⟩
 own:=λj pa ds e=>by
  rcases ch0_get e with z|⟨j',i,rfl,hc,hs⟩
  . cases z
  . obtain⟨a,xs,h1,h2⟩:=S.own i pa ds hs
    exact⟨a,xs,nN hc h1,h2⟩
 trk:=S.trk
 yo:=S.yo
 tk:=S.tk
 rt:=S.rt
 inj:=λj1 j2 pa pa' ds ds' a e1 e2 e3 e4=>by
  rcases ch0_get e1 with z|⟨j1',i1,rfl,hc1,hs1⟩
  . cases z
  rcases ch0_get e2 with z|⟨j2',i2,rfl,hc2,hs2⟩
  . cases z
  have:=S.inj i1 i2 pa pa' ds ds' a hs1 hs2 (kC hc1 e3) (kC hc2 e4)
  subst this
  rw[iP nd hc1 hc2]
 len:=by
  unfold ch0 gG
  rw[lA,lA,lM,lM,AK,AK]
 lx:=S.lx.imp S.tk (λ_ _ r=>r) (λj=>(caps[j-k]?).getD 0) (λj ds e=>by
  rcases ch0_get e with z|⟨j',i,rfl,hc,hs⟩
  . cases z
  . rw[AC,hc]
    refine⟨hs,?_⟩
    obtain⟨a,xs,h1,_⟩:=S.lx.at' i ds hs
    rw[nN hc h1]
    exact h1.symm) (λj1 j2 ds ds' e1 e2 q=>by
  rcases ch0_get e1 with z|⟨j1',i1,rfl,hc1,_⟩
  . cases z
  rcases ch0_get e2 with z|⟨j2',i2,rfl,hc2,_⟩
  . cases z
  rw[AC,AC,hc1,hc2] at q
  have q:i1=i2:=q
  subst q
  rw[iP nd hc1 hc2]) (λ_ _ e z _=>⟨e,z⟩) (λ_ _ r=>r) (λj ds e=>by
  rcases ch0_get e with z|⟨j',i,rfl,hc,hs⟩
  . cases z
  . rw[AC,hc]
    refine⟨hs,?_⟩
    obtain⟨N,g,_⟩:=S.lx.dp
    obtain⟨a,xs,h1,_⟩:=g i ds hs
    rw[nN hc h1]
    exact h1.symm) (λj1 j2 ds ds' e1 e2 q=>by
  rcases ch0_get e1 with z|⟨j1',i1,rfl,hc1,_⟩
  . cases z
  rcases ch0_get e2 with z|⟨j2',i2,rfl,hc2,_⟩
  . cases z
  rw[AC,AC,hc1,hc2] at q
  have q:i1=i2:=q
  subst q
  rw[iP nd hc1 hc2]) (λp xs e z=>⟨e,z.1,z.2.1,λj pa ds q w=>by
  rcases ch0_get q with v|⟨j',i,rfl,hc,hs⟩
  . cases v
  . exact z.2.2 i pa ds hs (kC hc w)⟩) λ_ _ r=>r
theorem Sx.forget{K:Fg}{σ':Sg}{σV:L2.St}{H:Hp}(S:Sx K RT Y old σ σV H)(hl:σ'.length=σ.length)(h:∀(j:Nat) (s:Sl),σ'[j]? = some s->s=.dead\/σ[j]? = some s):Sx K RT Y old σ' σV H where
 sh:=λj pa d e=>by
  rcases h j _ e with z|z
  . cases z
  . exact S.sh j pa d z
 own:=λj pa d e=>by
  rcases h j _ e with z|z
  . cases z
  . exact S.own j pa d z
 trk:=S.trk
 yo:=S.yo
 tk:=S.tk
 rt:=S.rt
 inj:=λj1 j2 pa pa' ds ds' a e1 e2 e3 e4=>by
  rcases h j1 _ e1 with z|z1
  . cases z
  rcases h j2 _ e2 with z|z2
  . cases z
  exact S.inj j1 j2 pa pa' ds ds' a z1 z2 e3 e4
 len:=by rw[hl];exact S.len
 lx:=S.lx.imp S.tk (λ_ _ r=>r) id (λj ds e=>(h j _ e).elim (λz=>by cases z) λz=>⟨z,rfl⟩) (λ_ _ _ _ _ _ e=>e) (λ_ _ e z _=>⟨e,z⟩) (λ_ _ r=>r) (λj ds e=>(h j _ e).elim (λz=>by cases z) λz=>⟨z,rfl⟩) (λ_ _ _ _ _ _ e=>e) (λp xs e z=>⟨e,z.1,z.2.1,λk pa ds q=>(h k _ q).elim (λw=>by cases w) λw=>z.2.2 k pa ds w⟩) λ_ _ r=>r
def wTs(X:Cx)(P:Pg)(n:Nat)(RT Y old:Addr->Prop)(σ:Sg)(cs:Es):TT:=λσV H Q=>Sx X.K RT Y old σ σV H/\RE (tsts P (call P n) σ cs) λk=>∀H',Tk X.K H'->aL H H'->Q k H'
theorem aGG:PTs X [] (wTs X P n RT Y old σ .nil):=λpins s σV H Q I ⟨S,h⟩=>zQ pins s σV H Q I ((show ∀H',Tk X.K H'->aL H H'->Q true H' from h) H I.tk (aL.refl H))
theorem aGH{c:E}{e:Ah}(h:PT X e (WT X P n RT Y old σ c)):PTs X [e] (wTs X P n RT Y old σ (.cons c .nil)):=λpins s σV H Q I ⟨S,hh⟩=>aEk h pins s σV H Q I ⟨S,by
 have hh:=RE.bind' (show RE (tst P (call P n) σ c >>= λx=>if x=true then tsts P (call P n) σ .nil else R.ok false) _ from hh)
 refine hh.mono λk hk=>?_
 cases k with
 | true=>exact hk
 | false=>exact hk⟩
theorem Rvs.append{K:Fg}{σV:L2.St}{H:Hp}:∀{vs ws:List Vl} {us zs:List V},Rvs K RT Y old σ σV H vs us->Rvs K RT Y old σ σV H ws zs->Rvs K RT Y old σ σV H (vs++ws) (us++zs)
 | [],_,_,_,h,q=>by rw[show _=[] from h];exact q
 | v::vs,_,_,_,h,q=>by
  obtain⟨u,r,e,h1,h2⟩:=h
  subst e
  exact⟨u,_,rfl,h1,Rvs.append h2 q⟩
def lv(k:Nat)(caps al:List Nat)(v:Vl):Vl:=⟨v.d,false,v.pa,al++v.al.filterMap λj=>caps[j-k]?⟩
theorem vF{f:Vl->R (Option Vl)}{x:Vl}{xs rs:List Vl}(h:cY f (x::xs)=.ok rs):∃y ys,f x=.ok y/\cY f xs=.ok ys/\rs=(match y with|some y=>y::ys|none=>ys):=by
 have h:(f x >>= λy=>cY f xs >>= λys=>(match y with|some y=>R.ok (y::ys)|none=>R.ok ys))=R.ok rs:=h
 cases q1:f x with
 | ok y=>
  rw[q1] at h
  have h:(cY f xs >>= λys=>(match y with|some y=>R.ok (y::ys)|none=>R.ok ys))=R.ok rs:=h
  cases q2:cY f xs with
  | ok ys=>
   rw[q2] at h
   refine⟨y,ys,rfl,rfl,?_⟩
   cases y with
   | none=>cases(show R.ok ys=R.ok rs from h);rfl
   | some y=>cases(show R.ok (y::ys)=R.ok rs from h);rfl
  | exc z=>rw[q2] at h;cases h
  | bad=>rw[q2] at h;cases h
 | exc z=>rw[q1] at h;cases h
 | bad=>rw[q1] at h;cases h
theorem R.bind_ok{α β:Type}{x:R α}{f:α->R β}{b:β}(h:(x >>= f)=.ok b):∃a,x=.ok a/\f a=.ok b:=by
 cases x with
 | ok a=>exact⟨a,rfl,h⟩
 | exc z=>cases h
 | bad=>cases h
theorem aCA{k:Nat}{caps:List Nat}{t:T}{it:Hp.It}{cond:Es}{elt:E}(hnd:caps.Nodup)(hk:∀i∈tIx t,i<k){σV:L2.St}{H:Hp}{Q:VK}(hw:WE X P n RT Y old σ (.comp k caps t it cond elt) σV H Q) :
 aCk k caps (wI X P n RT Y old σ it) (gT X.K t) (λσV H Q=>∃RT Y old σ1,wTs X P n RT Y old σ1 cond σV H Q) (λσV H Q=>∃RT Y old σ1,WE X P n RT Y old σ1 elt σV H Q) σV H λv H'=>Tk X.K H'->Q v H':=by
 obtain⟨S,h⟩:=hw
 let f:List Nat->Vl->R (Option Vl):=λal x=>bJ (ch0 k caps (freeze σ al)) x t >>= λσ1=>tsts P (call P n) σ1 cond >>= λb=>if b=true then (ev P (call P n) σ1 elt >>= λy=>R.ok (some y)) else R.ok none
 have h:=RE.bind' (show RE (walk P (call P n) σ it >>= λxs=>cY (f xs.2) xs.1 >>= λvs=>R.iff (decide (vs.length<=lim)) (R.ok (hG k caps xs.2 vs))) (Wn X RT Y old σ σV H Q) from h)
 refine⟨S,h.mono λxs hx J H1 t1 s1 ok=>?_⟩
 obtain⟨vs,evs,hv⟩:=(RE.bind' hx).eq
 obtain⟨hl,hq⟩:=hv.iff
 have hl:=of_decide_eq_true hl
 have hq:Wn X RT Y old σ σV H Q (hG k caps xs.2 vs):=hq
 have S1:=S.grow s1 t1
 have Sf:=S1.frz xs.2
 refine⟨λi m ys σ1V Hc=>m=xs.1.length-i/\i<=xs.1.length/\aL H1 Hc/\Tk X.K Hc/\Sx X.K (rtF RT σ σV xs.2) Y old (ch0 k caps (freeze σ xs.2)) σ1V Hc/\(∀j,k<=j->σ1V[j]? = (gG k caps σV)[j]?) /\
  ∃ws rs,vs=ws++rs/\cY (f xs.2) (xs.1.drop i)=.ok rs/\Rvs X.K RT Y old σ σV Hc (ws.map (lv k caps xs.2)) ys,⟨_,rfl,BD _,aL.refl _,t1,Sf.child hnd,λ_ _=>rfl,[],vs,rfl,evs,rfl⟩,?_⟩
 rintro i m ys σ1V Hc ⟨hm,hi,sc,tc,Sc,hcap,ws,rs,evs',ego,rvs⟩
 have okc:=ok.ok (λ_=>False) (λ_ z=>z.elim) i Hc (Kp.same sc)
 have hly:=rvs.length
 rw[lM] at hly
 have hws:ws.length<=vs.length:=by rw[evs',lA];omega
 by_cases hlt:i<xs.1.length
 . refine .inr ⟨okc.1 hlt,by rw[<-hly,B1];have:lim=1000000:=rfl;omega,λx H' hy=>?_⟩
   have hxi:xs.1[i]? = some xs.1[i]:=Am hlt
   obtain⟨sm,tkf,rv⟩:=okc.2.2 x H' hy xs.1[i] hxi
   have rv:Rep X.K H' (exV RT Y old σ σV xs.1[i].pa xs.1[i].al) xs.1[i].d x:=Rep.weak rv λa z=>.inl z
   rw[Bs hlt] at ego
   obtain⟨yo,ys',ef,ego',ers⟩:=vF ego
   obtain⟨σ1,eσ,ef⟩:=R.bind_ok ef
   obtain⟨b,eb,ef⟩:=R.bind_ok ef
   have hmem:xs.1[i]∈xs.1:=A9 hlt
   have hnf:=ok.nofr _ hmem
   have rep:Rep X.K H' (λa=>rtF RT σ σV xs.2 a\/exB Y old xs.1[i].pa a) xs.1[i].d x:=Rep.weak rv λa z=>by
    rcases z with z|z
    . exact .inl ⟨z.1,λq=>z.2 (q.mono (ok.sub _ hmem))⟩
    . exact .inr z
   refine vC (Sc.grow sm (tkf tc)) hnf rep eσ λσ2V S2 hkeep=>⟨_,_,_,σ1,S2,?_⟩
   rw[eb]
   intro H3 t3 s3
   have capk:∀j,k<=j->σ2V[j]? = (gG k caps σV)[j]? := λj hj=>by
    rw[hkeep j λz=>absurd (hk j z) (EH.mpr hj),hcap j hj]
   have back:∀{H5:Hp},Sx X.K (rtF RT σ σV xs.2) Y old σ1 σ2V H5->Sx X.K (rtF RT σ σV xs.2) Y old (ch0 k caps (freeze σ xs.2)) σ2V H5:=λ{H5} S5=>S5.forget (vB eσ).symm λj s hs=>by
    by_cases hj:j∈tIx t
    . exact .inl (vE (hk j hj) hs)
    . exact .inr (by rw[aCy eσ hj];exact hs)
   cases b with
   | false=>
    rw[if_neg bN] at ef ⊢
    cases(show R.ok none=R.ok yo from ef)
    have ers:rs=ys':=ers
    subst ers
    exact⟨_,by omega,rfl,hlt,sc.trans (sm.trans s3),t3,back (S2.grow s3 t3),capk,ws,rs,evs',ego',rvs.grow (sm.trans s3)⟩
   | true=>
    rw[if_pos rfl] at ef ⊢
    obtain⟨y,ey,ef⟩:=R.bind_ok ef
    cases(show R.ok (some y)=R.ok yo from ef)
    have ers:rs=y::ys':=ers
    subst ers
    refine⟨_,_,_,σ1,S2.grow s3 t3,?_⟩
    rw[ey]
    intro u H4 t4 ro4
    have s4:=ro4.1
    have rv4:Rep X.K H4 (exV (rtF RT σ σV xs.2) Y old σ1 σ2V y.pa y.al) y.d u:=ro4.rv (S2.grow s3 t3)
    refine⟨_,by omega,rfl,hlt,sc.trans (sm.trans (s3.trans s4)),t4,back ((S2.grow s3 t3).grow s4 t4),capk,ws++[y],ys',by rw[evs'];simp,ego',?_⟩
    rw[AJ]
    refine(rvs.grow (sm.trans (s3.trans s4))).append ⟨u,[],rfl,?_,rfl⟩
    show Rep X.K H4 (exV RT Y old σ σV y.pa (xs.2++y.al.filterMap λj=>caps[j-k]?)) y.d u
    refine rv4.weak λc z=>?_
    rcases z with⟨z1,z2⟩|z
    . refine .inl ⟨⟨z1,λq=>z2 (q.mono λj hj=>Bd _ hj)⟩,λq=>z2 ?_⟩
      obtain⟨j,hj,⟨pa,ds,ho⟩,hV⟩:=q
      have ho:=aCz hnf eσ ho
      rcases ch0_get ho with z|⟨j',i',rfl,hc,hs⟩
      . cases z
      . rw[capk _ (Nat.le_add_right _ _)] at hV
        refine⟨i',A2 _ (Cf.mpr ⟨k+j',hj,by rw[AC];exact hc⟩),⟨pa,ds,(dU hs).1⟩,kC hc hV⟩
    . exact .inr z
 . have hie:i=xs.1.length:=by omega
   subst hie
   rw[Bl] at ego
   cases(show R.ok []=R.ok rs from ego)
   rw[Ax] at evs'
   subst evs'
   refine .inl ⟨okc.2.1 (Aj _),by rw[<-hly];exact eF hl,λp hp t'=>hq _ _ t' ?_⟩
   have Sc':=S.grow (s1.trans sc) tc
   have emap:(vs.map (lv k caps xs.2)).map (·.d)=vs.map (·.d):=by rw[Bc];rfl
   have rr:Reps X.K Hc (exV RT Y old σ σV (aT vs) (xs.2++(bS vs).filterMap λj=>caps[j-k]?)) (vs.map (·.d)) ys:=by
    rw[<-emap]
    refine rvs.reps λv hv=>?_
    obtain⟨w,hw,e⟩:=AH.mp hv
    subst e
    refine⟨λz=>fQ hw z,λj hj=>?_⟩
    rcases AS.mp hj with z|z
    . exact Bd _ z
    . obtain⟨j',hj',e⟩:=Cf.mp z
      exact A2 _ (Cf.mpr ⟨j',mT hw j' hj',e⟩)
   unfold hG
   split
   . rename_i hn
     exact(Ro.fresh hp t' rfl rfl Sc' (Reps.free _ _ hn rr)).from (s1.trans sc)
   . exact(Ro.fresh hp t' rfl rfl Sc' rr).from (s1.trans sc)
theorem aGI(M:Mc X P Γ n){k:Nat}{caps:List Nat}{t:T}{it:Hp.It}{cond:Es}{elt:E}{e iter:Ah}{ifs:List Ah}{scope:Cu}{N':List Str}(CS:cL X scope k caps N')(hnd:caps.Nodup)(hk:∀i∈tIx t,i<k)
 (hi:PI X tg iter (wI X P n RT Y old σ it))
 (hch:∀C s₀ H₀ ex,PG (dA X scope N' C s₀ H₀ ex) tg (gT X.K t)/\(∀RT Y old σ1,PTs (dA X scope N' C s₀ H₀ ex) ifs (wTs X P n RT Y old σ1 cond))/\∀RT Y old σ1,PE (dA X scope N' C s₀ H₀ ex) e (WE X P n RT Y old σ1 elt))
 (hs:∀x,B4 iter X.env x=pure x):PE X (.ListComp e [⟨tg,iter,ifs,0⟩] scope pos) (WE X P n RT Y old σ (.comp k caps t it cond elt)):=by
 refine(sD (g:=gT X.K t) (tt:=λσV H Q=>∃RT Y old σ1,wTs X P n RT Y old σ1 cond σV H Q) (te:=λσV H Q=>∃RT Y old σ1,WE X P n RT Y old σ1 elt σV H Q) CS M.calm hi (λC s₀ H₀ ex=>?_) hs).imp λσV H Q t0 hw=>aCA hnd hk hw
 . obtain⟨h1,h2,h3⟩:=hch C s₀ H₀ ex
   exact⟨h1,λpins s σV H Q I ⟨RT,Y,old,σ1,hw⟩=>h2 RT Y old σ1 pins s σV H Q I hw,λpins s σV H Q I ⟨RT,Y,old,σ1,hw⟩=>h3 RT Y old σ1 pins s σV H Q I hw⟩
end
section
variable {X:Cx} {P:Pg} {n:Nat} {RT Y old:Addr->Prop} {σ:Sg} {pos:BX}
end
end Hp
end
noncomputable section
namespace L2
open PySem PySem.Spec PyProof.Rows
section
variable {prog:Av} {w:AG} {A:AY} {E:Value->Ae->Prop} {s:Ae}
end
section
variable {prog:Av} {w:AG} {A:AY} {s:Ae} {R:FN->Ae->Prop}
variable {ka kb:Bool} {z TI TO i1 i2 l1 l2 S:Nat} {xs ys:Array Value}
end
section
variable {prog:Av} {w:AG} {A:AY} {E:Value->Ae->Prop} {s:Ae} {R:FN->Ae->Prop}
variable {ka kb:Bool} {z TI TO i1 i2 l1 l2:Nat} {xs ys:Array Value}
end
section
variable {X:Cx} {pins:List (Addr×Obj)} {σ:St} {H H':Hp} {s:Ae} {h':Heap}
end
end L2
end
noncomputable section
namespace Hp
open PySem PySem.Spec PyProof.Rows L2
section
variable {X:Cx} {P:Pg} {n:Nat} {Γ:Ct} {RT Y old:Addr->Prop} {σ:Sg}
end
section
variable {X:Cx} {P:Pg} {Γ:Ct} {n:Nat} {RT Y old:Addr->Prop} {σ:Sg} {tg:Ah} {pos:BX}
theorem aJs(M:Mc X P Γ n){i:Nat}{k:E}{x:Str}{p:BX}{ix:Ah}(hx:aO Γ i x=true)(hk:PE X ix (WE X P n RT Y old σ k))(hp:aK ix=true):PE X (.Subscript (.Name x p) ix pos) (WE X P n RT Y old σ (.lix i k)):=by
 have hpe:PE X (.Name x p) (aDG i):=by
  unfold aO at hx
  simp only[bA] at hx
  obtain⟨⟨h1,h2⟩,h3⟩:=hx
  exact lK (by rw[M.N];exact eq_of_beq h1) (M.vis h2) (aJ h3) (eO h3)
 refine(qM xI hpe hk (dP hp)).imp λσV H Q t ⟨S,h⟩=>?_
 obtain⟨y,ey,h⟩:=(RE.bind' (show RE (ev P (call P n) σ k >>= λy=>(match σ[i]? with|some (.lent ds)=>cG ⟨.lst ds,false,true,[]⟩ y|_=>.bad)) _ from h)).eq
 cases e:σ[i]? with
 | none=>rw[e] at h;exact h.elim
 | some sl=>
  rw[e] at h
  cases sl with
  | lent ds=>
   have h:RE (cG ⟨.lst ds,false,true,[]⟩ y) _:=h
   obtain⟨a,xs,h1,h2,h3,h4,h5⟩:=S.lx.at' i ds e
   refine⟨.ref a,h1,S,?_⟩
   rw[ey]
   intro uy H1 t1 r1
   unfold cG at h
   cases hd:y.d with
   | int j=>
    rw[hd] at h
    have h:RE (match Hp.ixN ds.length j with|some j=>(match ds[j]? with|some d=>R.ok (Vl.sub ⟨.lst ds,false,true,[]⟩ d)|none=>.bad)|none=>.bad) _:=h
    cases hj:Hp.ixN ds.length j with
    | none=>rw[hj] at h;exact h.elim
    | some m=>
     rw[hj] at h
     cases hm:ds[m]? with
     | none=>simp only[hm] at h;exact h.elim
     | some d=>
      simp only[hm] at h
      obtain⟨v,hv,rv⟩:=(h5.grow r1.1).get hm
      have rv:Rep X.K H1 (exV RT Y old σ σV true []) d v:=rv.weak λb z=>z.imp (·.1) id
      refine .inl ⟨a,xs,j,v,rfl,(r1.rv S).int hd,SqL.of (r1.1 _ _ h2),?_,λt'=>h v H1 t' ((Rv.ofSub (x:=⟨.lst ds,false,true,[]⟩) rv).from r1.1)⟩
      unfold atI
      rw[<-h5.length,<-oF,hj]
      exact hv
   | _=>rw[hd] at h;exact h.elim
  | _=>exact h.elim
end
end Hp
end
noncomputable section
set_option maxHeartbeats 8000000
namespace Hp
open PySem PySem.Spec PyProof.Rows L2
section
variable {P:Pg} {n:Nat}
theorem vG{X:Cx}{Γ:Ct}(M:Mc X P Γ n)(scope:Cu):(FF scope X.env).names=jV Γ.sc scope.names:=by
 unfold FF jV
 simp only
 refine Dh λp hp=>?_
 obtain⟨m,k⟩:=p
 have e1:(X.env.scope.kind==Hj)=true:=by rw[M.fk];rfl
 have e2:X.env.kindOf m=Γ.sc.lookup m:=by unfold Env.kindOf;rw[M.sc]
 simp only[e1,e2,BV]
abbrev chN(Γ:Ct)(tg:Ah)(caps:List Nat):List Str:=cZ tg++caps.filterMap λi=>Γ.N[i]?
abbrev oQ(Γ:Ct)(tg:Ah)(caps:List Nat)(scope:Cu):Ct:={ Γ with N:=chN Γ tg caps,sc:=jV Γ.sc scope.names,fn:=false }
structure aBg (Γ:Ct) (tg:Ah) (caps:List Nat) (scope:Cu) (k:Nat) (t:T):Prop where
 len:(cZ tg).length=k
 lt:∀i∈caps,i<Γ.N.length
 ndc:caps.Nodup
 kind:scope.kind=.function
 nd:(chN Γ tg caps).Nodup
 cap:∀x∈caps.filterMap (λi=>Γ.N[i]?),scope.names.lookup x=some .free/\Γ.sc.lookup x=some .cell
 all:∀p∈scope.names,p.2≠.cell/\(p.2=.local->scope.names.lookup p.1=some .local)/\(p.2=.free->Γ.sc.lookup p.1=some .cell)
 tk:∀i∈tIx t,i<k
theorem sK{N:List Str}:∀{caps:List Nat},(∀i∈caps,i<N.length)->∀{j i:Nat},caps[j]? = some i->(caps.filterMap λi=>N[i]?)[j]? = N[i]?/\(caps.filterMap λi=>N[i]?).length=caps.length
 | [],_,_,_,h=>by simp at h
 | c::cs,hl,j,i,h=>by
  have hc:N[c]? = some N[c]! := by
   have:=hl c Aq
   simp[this]
  rw[List.filterMap_cons_some hc]
  have hl':∀i∈cs,i<N.length:=λi hi=>hl i (Ag _ hi)
  have len:(cs.filterMap λi=>N[i]?).length=cs.length:=by
   cases cs with
   | nil=>rfl
   | cons c' cs'=>exact(sK hl' (j:=0) (i:=c') rfl).2
  refine⟨?_,by rw[lC,lC,len]⟩
  cases j with
  | zero=>
   have e:c=i:=by simpa using h
   subst e
   rw[gZ,hc]
  | succ j=>
   rw[gS]
   exact(sK hl' (j:=j) (i:=i) (by simpa using h)).1
theorem aGJ{N:List Str}{caps:List Nat}(h:∀i∈caps,i<N.length):(caps.filterMap λi=>N[i]?).length=caps.length:=by
 cases caps with
 | nil=>rfl
 | cons c cs=>exact(sK h (j:=0) (i:=c) rfl).2
theorem aBg.scope{X:Cx}{Γ:Ct}{tg:Ah}{caps:List Nat}{scope:Cu}{k:Nat}{t:T}(O:aBg Γ tg caps scope k t)(M:Mc X P Γ n):cL X scope k caps (chN Γ tg caps) where
 kind:=O.kind
 nocell:=λy hy=>(O.all y hy).1
 loc:=λy hy e=>(O.all y hy).2.1 e
 free:=λm hm=>.inl (by
  have:=(O.all _ hm).2.2 rfl
  show X.env.scope.names.lookup m=_
  rw[M.sc];exact this)
 len:=by rw[lA,O.len,aGJ O.lt]
 cap:=λj i e=>by
  have hi:=O.lt i (mG e)
  have hx:Γ.N[i]? = some Γ.N[i]:=Am hi
  have hg:=(sK O.lt e).1
  rw[hx] at hg
  obtain⟨h1,h2⟩:=O.cap _ (mG hg)
  refine⟨Γ.N[i],?_,by rw[M.N];exact hx,h1,?_⟩
  . show(cZ tg++_)[k+j]? = _
    rw[AT (by rw[O.len];omega),O.len,AC]
    exact hg
  . show X.env.scope.names.lookup _=_
    rw[M.sc];exact h2
 ndp:=M.nd
theorem aBg.mc{X:Cx}{Γ:Ct}{tg:Ah}{caps:List Nat}{scope:Cu}{k:Nat}{t:T}(O:aBg Γ tg caps scope k t)(M:Mc X P Γ n)(C:Addr)(s₀:Ae)(H₀:Hp)(ex:List Addr) :
 Mc (dA X scope (chN Γ tg caps) C s₀ H₀ ex) P (oQ Γ tg caps scope) n where
 md:=⟨M.md.fn,M.md.blt,M.md.cns,M.md.tab⟩
 N:=rfl
 nd:=O.nd
 sc:=vG M scope
 calm:=M.calm
 room:=M.room
 xe:=rfl
 st:=λx h=>.inr (by
  show(FF scope X.env).names.lookup x=_
  rw[vG M scope]
  unfold uL at h
  have h:(match (jV Γ.sc scope.names).lookup x with|some .local=>true|some .cell=>false|_=>false)=true:=h
  split at h
  . rename_i e;exact e
  . cases h
  . cases h)
 fk:=O.kind
theorem vH{Γ:Ct}{tt:Bool}{a b:E}{e:Ah}:chkI Γ tt (.rng a b) e=oS (iC e) λp=>(p.1==("range" : Str))&&bZ Γ p.1&&(match p.2 with
 | [x]=>xP a&&aQ Γ b x
 | [x,y]=>aQ Γ a x&&aQ Γ b y
 | _=>false):=rfl
theorem vI{Γ:Ct}{tt:Bool}{a b:E}{e:Ah}:chkI Γ tt (.zip a b) e=oS (iC e) λp=>(match p.2 with
 | [x,y]=>tt&&(p.1==("zip" : Str))&&bZ Γ p.1&&aQ Γ a x&&aQ Γ b y
 | _=>false):=rfl
theorem qX{Γ:Ct}{tt:Bool}{a:E}{e:Ah}:chkI Γ tt (.enum a) e=oS (iC e) λp=>(match p.2 with
 | [x]=>tt&&(p.1==("enumerate" : Str))&&bZ Γ p.1&&aQ Γ a x
 | _=>false):=rfl
theorem jM{Γ:Ct}{tt:Bool}{it:Hp.It}{e:Ah}(h:chkI Γ tt it e=true):aK e=true:=by
 cases it with
 | seq c=>exact aI (c:=c) (by exact h)
 | rng a b=>rw[vH] at h;obtain⟨_,⟨_,_,rfl⟩,_⟩:=aB h;rfl
 | zip a b=>rw[vI] at h;obtain⟨_,⟨_,_,rfl⟩,_⟩:=aB h;rfl
 | enum a=>rw[qX] at h;obtain⟨_,⟨_,_,rfl⟩,_⟩:=aB h;rfl
 | rng3 a b c=>cases h
 | rev a=>cases h
theorem aEr{X:Cx}{e:Ah}{c:E}{RT Y old:Addr->Prop}{σ:Sg}(h:tst P (call P n) σ c=.bad):PT X e (WT X P n RT Y old σ c):=λpins s σV H Q I ⟨S,hh⟩=>by
 rw[h] at hh
 exact hh.elim
theorem cS{a b c:Bool}(h:(a&&b&&c)=true):a=true/\b=true/\c=true:=by
 cases a <;> cases b <;> cases c <;> first|exact⟨rfl,rfl,rfl⟩|cases h
theorem cA{a b:Bool}(h:(a&&b)=true):a=true/\b=true:=by
 cases a <;> cases b <;> first|exact⟨rfl,rfl⟩|cases h
theorem sL{a b c d:Bool}(h:(a&&b&&c&&d)=true):a=true/\b=true/\c=true/\d=true:=by
 obtain⟨h1,h2,h3⟩:=cS h
 obtain⟨h1,h4⟩:=cA h1
 exact⟨h1,h4,h2,h3⟩
theorem aCB{a b c d e:Bool}(h:(a&&b&&c&&d&&e)=true):a=true/\b=true/\c=true/\d=true/\e=true:=by
 obtain⟨h1,h2,h3,h4⟩:=sL h
 obtain⟨h1,h5⟩:=cA h1
 exact⟨h1,h5,h2,h3,h4⟩
theorem zW{Γ:Ct}{k:Nat}{caps:List Nat}{t:T}{it:Hp.It}{cond:Es}{elt:E}{e:Ah}(h:aQ Γ (.comp k caps t it cond elt) e=true) :
 ∃el tg iter ifs scope pos,e=.ListComp el [⟨tg,iter,ifs,0⟩] scope pos/\aBg Γ tg caps scope k t/\ifs.length<=1/\iB (oQ Γ tg caps scope) t tg=true/\chkI Γ (oC tg) it iter=true/\chkEs (oQ Γ tg caps scope) cond ifs=true/\aQ (oQ Γ tg caps scope) elt el=true:=by
 obtain⟨⟨el,gens,scope⟩,h1,g⟩:=aB h
 clear h
 obtain⟨pos,rfl⟩:=h1
 have h:=g
 clear g
 rcases gens with _|⟨⟨tg,iter,ifs,as⟩,_|⟨_,_⟩⟩
 . cases h
 . have h:(as==0&&(cZ tg).length==k&&(caps.all λi=>decide (i<Γ.N.length))&&decide caps.Nodup&&scope.kind==.function&&decide (cZ tg++caps.filterMap λi=>Γ.N[i]?).Nodup &&
    ((caps.filterMap λi=>Γ.N[i]?).all λx=>scope.names.lookup x==some .free&&Γ.sc.lookup x==some .cell) &&
    (scope.names.all λp=>p.2 != .cell&&(p.2 != .local||scope.names.lookup p.1==some .local)&&(p.2 != .free||Γ.sc.lookup p.1==some .cell)) &&
    ((tIx t).all λi=>decide (i<k))&&decide (ifs.length<=1) &&
    iB (oQ Γ tg caps scope) t tg&&chkI Γ (oC tg) it iter&&chkEs (oQ Γ tg caps scope) cond ifs&&aQ (oQ Γ tg caps scope) elt el)=true:=by
    exact h
   simp only[bA,beq_iff_eq,Az,A7,BM,bne_iff_ne,ne_eq] at h
   obtain⟨⟨⟨⟨⟨⟨⟨⟨⟨⟨⟨⟨⟨h0,h1⟩,h2⟩,h3⟩,h4⟩,h5⟩,h6⟩,h7⟩,h8⟩,h9⟩,h10⟩,h11⟩,h12⟩,h13⟩:=h
   subst h0
   refine⟨el,tg,iter,ifs,scope,pos,rfl,⟨h1,h2,h3,h4,h5,h6,λp hp=>?_,h8⟩,h9,h10,h11,h12,h13⟩
   obtain⟨⟨q1,q2⟩,q3⟩:=h7 p hp
   exact⟨q1,λe=>q2.resolve_left λz=>z e,λe=>q3.resolve_left λz=>z e⟩
 . cases h
abbrev PEc(P:Pg)(n:Nat)(c:E):Prop:=∀{X:Cx} {Γ:Ct},Mc X P Γ n->∀{e:Ah},aQ Γ c e=true->∀(RT Y old:Addr->Prop) (σ:Sg),PE X e (WE X P n RT Y old σ c)
abbrev PTc(P:Pg)(n:Nat)(c:E):Prop:=∀{X:Cx} {Γ:Ct},Mc X P Γ n->∀{e:Ah},aQ Γ c e=true->∀(RT Y old:Addr->Prop) (σ:Sg),PT X e (WT X P n RT Y old σ c)
abbrev PWc(P:Pg)(n:Nat)(c:E):Prop:=∀{X:Cx} {Γ:Ct},Mc X P Γ n->∀{o:Hg} {xs:List Ah} {pos:BX},aQ Γ c (.BoolOp o xs pos)=true->∀(RT Y old:Addr->Prop) (σ:Sg),PW X (.BoolOp o xs pos) (WT X P n RT Y old σ c)
structure Q3 (P:Pg) (n:Nat) (c:E):Prop where
 e:PEc P n c
 t:PTc P n c
 w:PWc P n c
structure QA (P:Pg) (n:Nat) (cs:Es):Prop where
 a:∀{X:Cx} {Γ:Ct},Mc X P Γ n->∀{es:List Ah},chkEs Γ cs es=true->∀(RT Y old:Addr->Prop) (σ:Sg),PA X es (WA X P n RT Y old σ cs)
 o:∀{X:Cx} {Γ:Ct},Mc X P Γ n->∀{e:Option Ah},chkO Γ cs e=true->∀(RT Y old:Addr->Prop) (σ:Sg),PO X e (wO X P n RT Y old σ cs)
 ts:∀{X:Cx} {Γ:Ct},Mc X P Γ n->∀{es:List Ah},es.length<=1->chkEs Γ cs es=true->∀(RT Y old:Addr->Prop) (σ:Sg),PTs X es (wTs X P n RT Y old σ cs)
abbrev QI(P:Pg)(n:Nat)(it:Hp.It):Prop:=∀{X:Cx} {Γ:Ct},Mc X P Γ n->∀{tg e:Ah},chkI Γ (oC tg) it e=true->∀(RT Y old:Addr->Prop) (σ:Sg),PI X tg e (wI X P n RT Y old σ it)
theorem Q3.of{c:E}(h:PEc P n c)(hd:∀σ,tst P (call P n) σ c=.bad)(hw:∀{Γ:Ct} {o:Hg} {xs:List Ah} {pos:BX},aQ Γ c (.BoolOp o xs pos)=false):Q3 P n c:=
 ⟨h,λ{X Γ} M {e} z RT Y old σ=>aEr (hd σ),λ{X Γ} M {o xs pos} z RT Y old σ=>absurd (hw.symm.trans z) bN⟩
theorem n_c{d:D}:Q3 P n (.c d):=by
 have h0:∀{Γ:Ct} {e:Ah},aQ Γ (.c d) e=true->(∃c k p,e=.Constant c k p/\eqC d c=true)\/∃x p,e=.Name x p/\bZ Γ x=true/\bD x=true/\∃d',Γ.cns.lookup x=some d'/\eqK d d'=true:=λ{Γ e} h=>by
  rcases(BM _ _).mp (show(oS (asC e) (eqC d)||oS (asN e) λx=>bZ Γ x&&bD x&&oB (Γ.cns.lookup x) (eqK d))=true from h) with h|h
  . obtain⟨c,h1,g⟩:=aB h
    clear h
    obtain⟨k,p,rfl⟩:=h1
    have h:=g
    clear g
    exact .inl ⟨c,k,p,rfl,h⟩
  . obtain⟨x,h1,g⟩:=aB h
    clear h
    obtain⟨p,rfl⟩:=h1
    have h:=g
    clear g
    obtain⟨h1,h2,h3⟩:=cS h
    obtain⟨d',q1,q2⟩:=uT h3
    exact .inr ⟨x,p,rfl,h1,h2,d',q1,q2⟩
 have k:PEc P n (.c d):=λ{X Γ} M {e} h RT Y old σ=>by
  rcases h0 h with⟨c,j,p,rfl,g⟩|⟨x,p,rfl,h1,h2,d',q,h3⟩
  . exact s_c g
  . have e:=aGt h3
    subst e
    obtain⟨u,v,m,r,hr⟩:=M.md.cns x d q
    refine(zD (M.gl h1) m r (aJ h2)).imp λσV H Q t ⟨S,hh⟩ t'=>?_
    exact(show Wn _ RT Y old σ σV H Q (Vl.cl d) from hh) v H t' (Ro.val (aL.refl H) (hr H))
 refine⟨k,λ{X Γ} M {e} h RT Y old σ=>?_,λ{X Γ} M {o xs pos} h RT Y old σ=>absurd h bN⟩
 refine oH (k M h RT Y old σ) ?_ λp hp=>hp
 rcases h0 h with⟨c,j,p,rfl,h⟩|⟨x,p,rfl,_⟩ <;> (intro _;rfl)
theorem n_v{i:Nat}:Q3 P n (.v i):=by
 have k:PEc P n (.v i):=λ{X Γ} M {e} h RT Y old σ=>by
  obtain⟨x,h1,g⟩:=aB h
  clear h
  obtain⟨p,rfl⟩:=h1
  have h:=g
  clear g
  have h:aO _ i x=true:=h
  unfold aO at h
  obtain⟨h1,h2,h3⟩:=cS h
  exact s_v (by rw[M.N];exact eq_of_beq h1) (M.vis h2) (aJ h3) (eO h3)
 refine⟨k,λ{X Γ} M {e} h RT Y old σ=>?_,λ{X Γ} M {o xs pos} h RT Y old σ=>absurd h bN⟩
 refine oH (k M h RT Y old σ) ?_ λp hp=>RE.bind' (show RE (bV σ i >>= λx=>eA x) p from hp)
 obtain⟨x,⟨p,rfl⟩,_⟩:=aB h
 intro _;rfl
theorem aLx{o:Operator}{a b:E}(ha:Q3 P n a)(hb:Q3 P n b):Q3 P n (.op o a b):=Q3.of (λ{X Γ} M {e} h RT Y old σ=>by
 obtain⟨⟨l,o',r⟩,h1,g⟩:=aB h
 clear h
 obtain⟨p,rfl⟩:=h1
 have h:=g
 clear g
 obtain⟨h1,h2,h3⟩:=cS h
 have e:o=o':=eq_of_beq h1
 subst e
 exact aLu (ha.e M h2 RT Y old σ) (hb.e M h3 RT Y old σ)) (λ_=>rfl) rfl
theorem aJt{a:E}(ha:Q3 P n a):Q3 P n (.neg a):=Q3.of (λ{X Γ} M {e} h RT Y old σ=>by
 obtain⟨⟨o,x⟩,h1,g⟩:=aB h
 clear h
 obtain⟨p,rfl⟩:=h1
 have h:=g
 clear g
 obtain⟨h1,h2⟩:=cA h
 have e:o=.USub:=eq_of_beq h1
 subst e
 exact aJd (ha.e M h2 RT Y old σ)) (λ_=>rfl) rfl
theorem aLy{a:E}(ha:Q3 P n a):Q3 P n (.nt a):=by
 have h0:∀{Γ:Ct} {e:Ah},aQ Γ (.nt a) e=true->∃x p,e=.UnaryOp .Not x p/\aQ Γ a x=true:=λ{Γ e} h=>by
  obtain⟨⟨o,x⟩,h1,g⟩:=aB h
  clear h
  obtain⟨p,rfl⟩:=h1
  have h:=g
  clear g
  obtain⟨h1,h2⟩:=cA h
  have e:o=.Not:=eq_of_beq h1
  subst e
  exact⟨x,p,rfl,h2⟩
 refine⟨λ{X Γ} M {e} h RT Y old σ=>?_,λ{X Γ} M {e} h RT Y old σ=>?_,λ{X Γ} M {o xs pos} h RT Y old σ=>absurd h bN⟩
 . obtain⟨x,p,rfl,g⟩:=h0 h
   exact aJe (ha.e M g RT Y old σ)
 . obtain⟨x,p,rfl,g⟩:=h0 h
   exact jK (ha.t M g RT Y old σ)
theorem zX{Γ:Ct}{a b:E}{w:Hg}{xs:List Ah}{p:BX}(h:(match xs with
 | [x,y]=>aQ Γ a x&&aQ Γ b y
 | x::y::z::r=>aQ Γ a x&&aQ Γ b (.BoolOp w (y::z::r) p)
 | _=>false)=true):∃x y r,xs=x::y::r/\aQ Γ a x=true/\((r=[]/\aQ Γ b y=true)\/aQ Γ b (.BoolOp w (y::r) p)=true):=by
 rcases xs with _|⟨x,_|⟨y,_|⟨z,r⟩⟩⟩
 . cases h
 . cases h
 . obtain⟨h1,h2⟩:=cA h
   exact⟨x,y,[],rfl,h1,.inl ⟨rfl,h2⟩⟩
 . obtain⟨h1,h2⟩:=cA h
   exact⟨x,y,z::r,rfl,h1,.inr h2⟩
theorem aLz{a b:E}(ha:Q3 P n a)(hb:Q3 P n b):Q3 P n (.an a b):=by
 have kw:PWc P n (.an a b):=λ{X Γ} M {o xs pos} h RT Y old σ=>by
  obtain⟨h1,h2⟩:=cA h
  have e:o=.And:=eq_of_beq h1
  subst e
  obtain⟨x,y,r,rfl,g1,g2⟩:=zX h2
  rcases g2 with⟨rfl,g2⟩|g2
  . exact aJm (ha.t M g1 RT Y old σ) (aDH (hb.t M g2 RT Y old σ))
  . exact aJm (ha.t M g1 RT Y old σ) (hb.w M g2 RT Y old σ)
 refine⟨λ{X Γ} M {e} h RT Y old σ=>?_,λ{X Γ} M {e} h RT Y old σ=>?_,kw⟩
 . obtain⟨⟨o,xs,pos⟩,h1,g⟩:=aB h
   clear h
   obtain rfl:=h1
   have h:=g
   clear g
   obtain⟨h1,h2⟩:=cA h
   have e:o=.And:=eq_of_beq h1
   subst e
   obtain⟨x,y,r,e,g1,g2⟩:=zX h2
   have e:xs=x::y::r:=e
   subst e
   rcases g2 with⟨rfl,g2⟩|g2
   . exact aJf (ha.e M g1 RT Y old σ) (aBC (hb.e M g2 RT Y old σ))
   . exact aJf (ha.e M g1 RT Y old σ) (hb.e M g2 RT Y old σ)
 . obtain⟨⟨o,xs,pos⟩,rfl,_⟩:=aB h
   exact(kw M h RT Y old σ).pt
theorem aJu{a b:E}(ha:Q3 P n a)(hb:Q3 P n b):Q3 P n (.orr a b):=by
 have kw:PWc P n (.orr a b):=λ{X Γ} M {o xs pos} h RT Y old σ=>by
  obtain⟨h1,h2⟩:=cA h
  have e:o=.Or:=eq_of_beq h1
  subst e
  obtain⟨x,y,r,rfl,g1,g2⟩:=zX h2
  rcases g2 with⟨rfl,g2⟩|g2
  . exact aFw (ha.t M g1 RT Y old σ) (aFO (hb.t M g2 RT Y old σ))
  . exact aFw (ha.t M g1 RT Y old σ) (hb.w M g2 RT Y old σ)
 refine⟨λ{X Γ} M {e} h RT Y old σ=>?_,λ{X Γ} M {e} h RT Y old σ=>?_,kw⟩
 . obtain⟨⟨o,xs,pos⟩,h1,g⟩:=aB h
   clear h
   obtain rfl:=h1
   have h:=g
   clear g
   obtain⟨h1,h2⟩:=cA h
   have e:o=.Or:=eq_of_beq h1
   subst e
   obtain⟨x,y,r,e,g1,g2⟩:=zX h2
   have e:xs=x::y::r:=e
   subst e
   rcases g2 with⟨rfl,g2⟩|g2
   . exact aFv (ha.e M g1 RT Y old σ) (aBC (hb.e M g2 RT Y old σ))
   . exact aFv (ha.e M g1 RT Y old σ) (hb.e M g2 RT Y old σ)
 . obtain⟨⟨o,xs,pos⟩,rfl,_⟩:=aB h
   exact(kw M h RT Y old σ).pt
theorem aJv{t a b:E}(ht:Q3 P n t)(ha:Q3 P n a)(hb:Q3 P n b):Q3 P n (.ife t a b):=Q3.of (λ{X Γ} M {e} h RT Y old σ=>by
 obtain⟨⟨t',a',b'⟩,h1,g⟩:=aB h
 clear h
 obtain⟨p,rfl⟩:=h1
 have h:=g
 clear g
 obtain⟨h1,h2,h3⟩:=cS h
 exact aJg (ht.t M h1 RT Y old σ) (ha.e M h2 RT Y old σ) (hb.e M h3 RT Y old σ)) (λ_=>rfl) rfl
theorem aJw{o:CmpOp}{a b:E}(ha:Q3 P n a)(hb:Q3 P n b):Q3 P n (.cmp o a b):=by
 have h0:∀{Γ:Ct} {e:Ah},aQ Γ (.cmp o a b) e=true->∃l r p,e=.Compare l [o] [r] p/\aQ Γ a l=true/\aQ Γ b r=true:=λ{Γ e} h=>by
  obtain⟨⟨l,os,rs⟩,h1,g⟩:=aB h
  clear h
  obtain⟨p,rfl⟩:=h1
  have h:=g
  clear g
  rcases os with _|⟨o',_|⟨_,_⟩⟩
  . cases h
  . rcases rs with _|⟨r,_|⟨_,_⟩⟩
    . cases h
    . obtain⟨h1,h2,h3⟩:=cS h
      have e:o=o':=eq_of_beq h1
      subst e
      exact⟨l,r,p,rfl,h2,h3⟩
    . cases h
  . cases h
 refine⟨λ{X Γ} M {e} h RT Y old σ=>?_,λ{X Γ} M {e} h RT Y old σ=>?_,λ{X Γ} M {o xs pos} h RT Y old σ=>absurd h bN⟩
 . obtain⟨l,r,p,rfl,h2,h3⟩:=h0 h
   exact aJh M (ha.e M h2 RT Y old σ) (hb.e M h3 RT Y old σ) (aI h3)
 . obtain⟨l,r,p,rfl,h2,h3⟩:=h0 h
   exact eU M (ha.e M h2 RT Y old σ) (hb.e M h3 RT Y old σ) (aI h3)
theorem aGK{o1 o2:CmpOp}{a b c:E}(ha:Q3 P n a)(hb:Q3 P n b)(hc:Q3 P n c):Q3 P n (.cmp2 o1 o2 a b c):=by
 have h0:∀{Γ:Ct} {e:Ah},aQ Γ (.cmp2 o1 o2 a b c) e=true->∃l m r p,e=.Compare l [o1,o2] [m,r] p/\aQ Γ a l=true/\aQ Γ b m=true/\aQ Γ c r=true:=λ{Γ e} h=>by
  obtain⟨⟨l,os,rs⟩,h1,g⟩:=aB h
  clear h
  obtain⟨p,rfl⟩:=h1
  have h:=g
  clear g
  rcases os with _|⟨o1',_|⟨o2',_|⟨_,_⟩⟩⟩
  . cases h
  . cases h
  . rcases rs with _|⟨m,_|⟨r,_|⟨_,_⟩⟩⟩
    . cases h
    . cases h
    . obtain⟨h1,h2,h3,h4,h5⟩:=aCB h
      have e:o1=o1':=eq_of_beq h1
      subst e
      have e:o2=o2':=eq_of_beq h2
      subst e
      exact⟨l,m,r,p,rfl,h3,h4,h5⟩
    . cases h
  . cases h
 refine⟨λ{X Γ} M {e} h RT Y old σ=>?_,λ{X Γ} M {e} h RT Y old σ=>?_,λ{X Γ} M {o xs pos} h RT Y old σ=>absurd h bN⟩
 . obtain⟨l,m,r,p,rfl,h3,h4,h5⟩:=h0 h
   exact aGw M (ha.e M h3 RT Y old σ) (hb.e M h4 RT Y old σ) (hc.e M h5 RT Y old σ) (aI h5)
 . obtain⟨l,m,r,p,rfl,h3,h4,h5⟩:=h0 h
   exact aGx M (ha.e M h3 RT Y old σ) (hb.e M h4 RT Y old σ) (hc.e M h5 RT Y old σ) (aI h5)
theorem aJx{a b:E}(ha:Q3 P n a)(hb:Q3 P n b):Q3 P n (.idx a b):=by
 have k:PEc P n (.idx a b):=λ{X Γ} M {e} h RT Y old σ=>by
  obtain⟨⟨x,i⟩,h1,g⟩:=aB h
  clear h
  obtain⟨p,rfl⟩:=h1
  have h:=g
  clear g
  obtain⟨h1,h2⟩:=cA h
  exact aJi (ha.e M h1 RT Y old σ) (hb.e M h2 RT Y old σ) (aI h2)
 refine⟨k,λ{X Γ} M {e} h RT Y old σ=>?_,λ{X Γ} M {o xs pos} h RT Y old σ=>absurd h bN⟩
 refine oH (k M h RT Y old σ) ?_ λp hp=>?_
 . obtain⟨⟨x,i⟩,⟨p,rfl⟩,_⟩:=aB h
   intro _;rfl
 . have hp:=RE.bind' (show RE (ev P (call P n) σ a >>= λx=>ev P (call P n) σ b >>= λy=>cG x y >>= λz=>eA z) p from hp)
   show RE (ev P (call P n) σ a >>= λx=>ev P (call P n) σ b >>= λy=>cG x y) _
   rw[RE.bind]
   refine hp.mono λx hx=>?_
   rw[RE.bind]
   exact(RE.bind' hx).mono λy hy=>RE.bind' hy
theorem aJy{a:E}{lo hi:Es}(ha:Q3 P n a)(hl:QA P n lo)(hh:QA P n hi):Q3 P n (.sli a lo hi):=Q3.of (λ{X Γ} M {e} h RT Y old σ=>by
 obtain⟨⟨x,i⟩,h1,g⟩:=aB h
 clear h
 obtain⟨p,rfl⟩:=h1
 have h:=g
 clear g
 obtain⟨⟨l,u⟩,h1,g⟩:=aB h
 clear h
 obtain⟨p2,e2⟩:=h1
 have h:=g
 clear g
 have e2:i=.Slice l u none p2:=e2
 subst e2
 obtain⟨h1,h2,h3⟩:=cS h
 exact aJp (ha.e M h1 RT Y old σ) (hl.o M h2 RT Y old σ) (hh.o M h3 RT Y old σ)) (λ_=>rfl) rfl
theorem aJz{es:Es}(ha:QA P n es):Q3 P n (.tup es):=Q3.of (λ{X Γ} M {e} h RT Y old σ=>by
 obtain⟨xs,h1,g⟩:=aB h
 clear h
 obtain⟨k,p,rfl⟩:=h1
 have h:=g
 clear g
 obtain⟨h1,h2⟩:=cA h
 exact aJj (ha.a M h2 RT Y old σ) h2 (of_decide_eq_true h1)) (λ_=>rfl) rfl
theorem aJA{es:Es}(ha:QA P n es):Q3 P n (.lst es):=Q3.of (λ{X Γ} M {e} h RT Y old σ=>by
 obtain⟨xs,h1,g⟩:=aB h
 clear h
 obtain⟨p,rfl⟩:=h1
 have h:=g
 clear g
 obtain⟨h1,h2⟩:=cA h
 exact aJk (ha.a M h2 RT Y old σ) h2 (of_decide_eq_true h1)) (λ_=>rfl) rfl
theorem aGL{f:Nat}{es:Es}(ha:QA P n es):Q3 P n (.call f es):=by
 have k:PEc P n (.call f es):=λ{X Γ} M {e} h RT Y old σ=>by
  obtain⟨⟨x,xs⟩,h1,g⟩:=aB h
  clear h
  obtain⟨p1,p2,rfl⟩:=h1
  have h:=g
  clear g
  obtain⟨h1,h2,h3,h4⟩:=sL h
  exact aGu M (eq_of_beq h1) h2 h3 (ha.a M h4 RT Y old σ) (fB h4) h4
 refine⟨k,λ{X Γ} M {e} h RT Y old σ=>?_,λ{X Γ} M {o xs pos} h RT Y old σ=>absurd h bN⟩
 refine oH (k M h RT Y old σ) ?_ λp hp=>?_
 . obtain⟨⟨x,xs⟩,⟨p1,p2,rfl⟩,_⟩:=aB h
   intro _;rfl
 . have hp:=RE.bind' (show RE (evs P (call P n) σ es >>= λvs=>call P n f (vs.map (·.d)) >>= λr=>eA (eT vs r)) p from hp)
   show RE (evs P (call P n) σ es >>= λvs=>call P n f (vs.map (·.d)) >>= λr=>R.ok (eT vs r)) _
   rw[RE.bind]
   refine hp.mono λx hx=>?_
   rw[RE.bind]
   exact(RE.bind' hx).mono λy hy=>hy
theorem aLA{b:Bi}{es:Es}(ha:QA P n es):Q3 P n (.bi b es):=by
 have k:PEc P n (.bi b es):=λ{X Γ} M {e} h RT Y old σ=>by
  obtain⟨⟨x,xs⟩,h1,g⟩:=aB h
  clear h
  obtain⟨p1,p2,rfl⟩:=h1
  have h:=g
  clear g
  obtain⟨h,h6⟩:=cA h
  obtain⟨h1,h2,h3,h4,h5⟩:=aCB h
  cases xs with
  | nil=>cases h5
  | cons y ys=>exact aLv M h1 (eq_of_beq h2) h3 h4 (ha.a M h6 RT Y old σ) (fB h6)
 refine⟨k,λ{X Γ} M {e} h RT Y old σ=>?_,λ{X Γ} M {o xs pos} h RT Y old σ=>absurd h bN⟩
 refine oH (k M h RT Y old σ) ?_ λp hp=>?_
 . obtain⟨⟨x,xs⟩,⟨p1,p2,rfl⟩,_⟩:=aB h
   intro _;rfl
 . have hp:=RE.bind' (show RE (evs P (call P n) σ es >>= λvs=>biD b vs >>= λx=>eA x) p from hp)
   show RE (evs P (call P n) σ es >>= λvs=>biD b vs) _
   rw[RE.bind]
   exact hp.mono λx hx=>RE.bind' hx
theorem aJB{a:E}{cs:List Cl}(ha:Q3 P n a):Q3 P n (.isi a cs):=by
 have k:PEc P n (.isi a cs):=λ{X Γ} M {e} h RT Y old σ=>by
  obtain⟨⟨f,xs⟩,h1,g⟩:=aB h
  clear h
  obtain⟨p1,p2,rfl⟩:=h1
  have h:=g
  clear g
  rcases cs with _|⟨c,_|⟨_,_⟩⟩
  . cases h
  . rcases xs with _|⟨x,_|⟨y,_|⟨_,_⟩⟩⟩
    . cases h
    . cases h
    . obtain⟨h1,h2,h3,h4,h5⟩:=aCB h
      unfold aFr at h5
      split at h5
      . rename_i z p3
        obtain⟨q1,q2,q3⟩:=cS h5
        have hc:∃cv,uR c=some cv:=by cases c <;> first|exact⟨_,rfl⟩|cases h3
        obtain⟨cv,hc⟩:=hc
        exact aJl M (eq_of_beq h1) h2 hc (eq_of_beq q1) q2 q3 (ha.e M h4 RT Y old σ) (aI h4)
      . cases h5
    . cases h
  . cases h
 refine⟨k,λ{X Γ} M {e} h RT Y old σ=>?_,λ{X Γ} M {o xs pos} h RT Y old σ=>absurd h bN⟩
 refine oH (k M h RT Y old σ) ?_ λp hp=>?_
 . obtain⟨⟨x,xs⟩,⟨p1,p2,rfl⟩,_⟩:=aB h
   intro _;rfl
 . have hp:=RE.bind' (show RE (ev P (call P n) σ a >>= λx=>(match isI cs P x.d with|some k=>R.ok k|none=>.bad)) p from hp)
   show RE (ev P (call P n) σ a >>= λx=>(match isI cs P x.d with|some k=>R.ok (Vl.cl (.bl k))|none=>.bad)) _
   rw[RE.bind]
   refine hp.mono λx hx=>?_
   cases q:isI cs P x.d with
   | none=>rw[q] at hx;exact hx.elim
   | some k=>rw[q] at hx;exact hx
theorem aGM{k:Nat}{caps:List Nat}{t:T}{it:Hp.It}{cond:Es}{elt:E}(hi:QI P n it)(hc:QA P n cond)(he:Q3 P n elt):Q3 P n (.comp k caps t it cond elt):=Q3.of (λ{X Γ} M {e} h RT Y old σ=>by
 obtain⟨el,tg,iter,ifs,scope,pos,rfl,O,h1,h2,h3,h4,h5⟩:=zW h
 refine aGI M (O.scope M) O.ndc O.tk (hi M h3 RT Y old σ) (λC s₀ H₀ ex=>?_) (fR (jM h3))
 have M':=O.mc M C s₀ H₀ ex
 exact⟨xX M' h2,λRT Y old σ1=>hc.ts M' h1 h4 RT Y old σ1,λRT Y old σ1=>he.e M' h5 RT Y old σ1⟩) (λ_=>rfl) rfl
theorem aGN{i:Nat}{a:E}(ha:Q3 P n a):Q3 P n (.tget i a):=Q3.of (λ{X Γ} M {e} h RT Y old σ=>by
 obtain⟨⟨o,m,xs,l⟩,h1,g⟩:=aB h
 clear h
 obtain⟨ap,cp,rfl,hl⟩:=h1
 have h:=g
 clear g
 obtain⟨x,h1,g⟩:=aB h
 clear h
 obtain⟨p,e2⟩:=h1
 have h:=g
 clear g
 have e2:o=.Name x p:=e2
 subst e2
 obtain⟨h,h6⟩:=cA h
 obtain⟨h1,h2,h3,h4,h5⟩:=aCB h
 rw[show l=true from h5] at hl
 rcases xs with _|⟨y,_|⟨_,_⟩⟩
 . cases h6
 . exact aGv M (eq_of_beq h1) (eq_of_beq h2) h3 h4 hl (ha.e M h6 RT Y old σ) (aI h6)
 . cases h6) (λ_=>rfl) rfl
theorem lU{c:E}(h:∀{Γ:Ct} {e:Ah},aQ Γ c e=false):Q3 P n c:=
 ⟨λ{X Γ} M {e} z=>absurd (h.symm.trans z) bN,λ{X Γ} M {e} z=>absurd (h.symm.trans z) bN,λ{X Γ} M {o xs pos} z=>absurd (h.symm.trans z) bN⟩
theorem aJC:QA P n .nil:=by
 refine⟨λ{X Γ} M {es} h RT Y old σ=>?_,λ{X Γ} M {e} h RT Y old σ=>?_,λ{X Γ} M {es} hl h RT Y old σ=>?_⟩
 . cases es with
   | nil=>exact uU
   | cons _ _=>exact nf h
 . cases e with
   | none=>exact aJn
   | some _=>exact nf h
 . cases es with
   | nil=>exact aGG
   | cons _ _=>exact nf h
theorem aGO{c:E}{cs:Es}(hc:Q3 P n c)(hs:QA P n cs):QA P n (.cons c cs):=by
 refine⟨λ{X Γ} M {es} h RT Y old σ=>?_,λ{X Γ} M {e} h RT Y old σ=>?_,λ{X Γ} M {es} hl h RT Y old σ=>?_⟩
 . cases es with
   | nil=>exact nf h
   | cons e es=>
    obtain⟨h1,h2⟩:=cA h
    exact jJ (hc.e M h1 RT Y old σ) (hs.a M h2 RT Y old σ) (aI h1)
 . cases cs with
   | nil=>cases e with
    | none=>exact nf h
    | some e=>exact aJo (hc.e M (by exact h) RT Y old σ)
   | cons _ _=>cases e <;> exact nf h
 . cases es with
   | nil=>exact nf h
   | cons e es=>
    obtain⟨h1,h2⟩:=cA h
    cases es with
    | nil=>cases cs with
     | nil=>exact aGH (hc.t M h1 RT Y old σ)
     | cons _ _=>exact absurd h2 bN
    | cons _ _=>simp at hl
theorem aJD{c:E}(hc:Q3 P n c):QI P n (.seq c):=λ{X Γ} M {tg e} h RT Y old σ=>aJq (hc.e M (by exact h) RT Y old σ)
theorem aJE{a b:E}(ha:Q3 P n a)(hb:Q3 P n b):QI P n (.rng a b):=λ{X Γ} M {tg e} h RT Y old σ=>by
 rw[vH] at h
 obtain⟨⟨f,xs⟩,h1,g⟩:=aB h
 clear h
 obtain⟨p1,p2,rfl⟩:=h1
 have h:=g
 clear g
 obtain⟨h1,h2,h3⟩:=cS h
 rcases xs with _|⟨x,_|⟨y,_|⟨_,_⟩⟩⟩
 . cases h3
 . obtain⟨h3,h4⟩:=cA h3
   have ez:a=.c (.int 0):=by
    unfold xP at h3
    split at h3
    . rw[eq_of_beq h3]
    . cases h3
   rw[ez]
   exact aGD M (eq_of_beq h1) h2 (hb.e M h4 RT Y old σ) (aI h4)
 . obtain⟨h3,h4⟩:=cA h3
   exact aGE M (eq_of_beq h1) h2 (ha.e M h3 RT Y old σ) (hb.e M h4 RT Y old σ) (aI h3) (aI h4)
 . cases h3
theorem aJF{a b:E}(ha:Q3 P n a)(hb:Q3 P n b):QI P n (.zip a b):=λ{X Γ} M {tg e} h RT Y old σ=>by
 rw[vI] at h
 obtain⟨⟨f,xs⟩,h1,g⟩:=aB h
 clear h
 obtain⟨p1,p2,rfl⟩:=h1
 have h:=g
 clear g
 rcases xs with _|⟨x,_|⟨y,_|⟨_,_⟩⟩⟩
 . cases h
 . cases h
 . obtain⟨h0,h1,h2,h3,h4⟩:=aCB h
   unfold oC at h0
   split at h0
   . exact aJr M (eq_of_beq h1) h2 (ha.e M h3 RT Y old σ) (hb.e M h4 RT Y old σ) (aI h3) (aI h4)
   . cases h0
 . cases h
theorem aGP{a:E}(ha:Q3 P n a):QI P n (.enum a):=λ{X Γ} M {tg e} h RT Y old σ=>by
 rw[qX] at h
 obtain⟨⟨f,xs⟩,h1,g⟩:=aB h
 clear h
 obtain⟨p1,p2,rfl⟩:=h1
 have h:=g
 clear g
 rcases xs with _|⟨x,_|⟨_,_⟩⟩
 . cases h
 . obtain⟨h0,h1,h2,h3⟩:=sL h
   unfold oC at h0
   split at h0
   . exact aGF M (eq_of_beq h1) h2 (ha.e M h3 RT Y old σ) (aI h3)
   . cases h0
 . cases h
theorem aJG{i:Nat}{k:E}(hk:Q3 P n k):Q3 P n (.lix i k):=Q3.of (λ{X Γ} M {e} h RT Y old σ=>by
 obtain⟨⟨x,ix⟩,h1,g⟩:=aB h
 clear h
 obtain⟨p,rfl⟩:=h1
 obtain⟨y,⟨p2,e2⟩,g⟩:=aB g
 have e2:x=.Name y p2:=e2
 subst e2
 obtain⟨h1,h2⟩:=cA g
 exact aJs M h1 (hk.e M h2 RT Y old σ) (aI h2)) (λ_=>rfl) rfl
theorem aEs{f i:Nat}{z:Bool}{a:E}(ha:Q3 P n a):Q3 P n (.callO f z a i):=by
 have k:PEc P n (.callO f z a i):=λ{X Γ} M {e} h RT Y old σ=>by
  obtain⟨⟨x,xs⟩,h1,g⟩:=aB h
  clear h
  obtain⟨p1,p2,rfl⟩:=h1
  have h:=g
  clear g
  obtain⟨h1,h2,h3,h4⟩:=sL h
  rcases xs with _|⟨ea,_|⟨y,_|⟨_,_⟩⟩⟩
  . cases h4
  . cases h4
  . cases z with
    | true=>
     obtain⟨k4,h5⟩:=cA (show(aQ Γ a ea&&oS (asN y) (λz=>aO Γ i z))=true from h4)
     obtain⟨w,⟨q,e2⟩,h6⟩:=aB h5
     have e2:y=.Name w q:=e2
     subst e2
     exact zS (z:=true) M (eq_of_beq h1) h2 h3 h6 (ha.e M k4 RT Y old σ) (aI k4)
    | false=>
     obtain⟨k4,h5⟩:=cA (show(aQ Γ a y&&oS (asN ea) (λz=>aO Γ i z))=true from h4)
     obtain⟨w,⟨q,e2⟩,h6⟩:=aB h5
     have e2:ea=.Name w q:=e2
     subst e2
     exact zS (z:=false) M (eq_of_beq h1) h2 h3 h6 (ha.e M k4 RT Y old σ) (aI k4)
  . cases h4
 refine⟨k,λ{X Γ} M {e} h RT Y old σ=>?_,λ{X Γ} M {o xs pos} h RT Y old σ=>absurd h bN⟩
 refine oH (k M h RT Y old σ) ?_ λp hp=>?_
 . obtain⟨⟨x,xs⟩,⟨p1,p2,rfl⟩,_⟩:=aB h
   intro _;rfl
 . have hp:=RE.bind' (show RE (ev P (call P n) σ a >>= λx=>(match dG σ i with
    | some ds=>call P n f (if z then [x.d,.lst ds] else [.lst ds,x.d]) >>= λr=>R.iff (!r.2.2) (eA ⟨r.1,r.2.1,false,[]⟩)
    | none=>.bad)) p from hp)
   show RE (ev P (call P n) σ a >>= λx=>(match dG σ i with
    | some ds=>call P n f (if z then [x.d,.lst ds] else [.lst ds,x.d]) >>= λr=>R.iff (!r.2.2) (R.ok (⟨r.1,r.2.1,false,[]⟩:Vl))
    | none=>.bad)) _
   rw[RE.bind]
   refine hp.mono λx hx=>?_
   cases e:dG σ i with
   | none=>rw[e] at hx;exact hx.elim
   | some ds=>
    rw[e] at hx
    show RE (call P n f (if z then [x.d,.lst ds] else [.lst ds,x.d]) >>= λr=>R.iff (!r.2.2) (R.ok (⟨r.1,r.2.1,false,[]⟩:Vl))) _
    rw[RE.bind]
    refine(RE.bind' (show RE (call P n f (if z then [x.d,.lst ds] else [.lst ds,x.d]) >>= λr=>R.iff (!r.2.2) (eA ⟨r.1,r.2.1,false,[]⟩)) p from hx)).mono λr hr=>?_
    obtain⟨c,hr⟩:=RE.iff hr
    rw[c]
    exact hr
theorem aJH{i:Nat}{a:E}(ha:Q3 P n a):Q3 P n (.neO i a):=by
 refine⟨λ{X Γ} M {e} h RT Y old σ pins s σV H Q I hw=>hw.2.elim,λ{X Γ} M {e} h RT Y old σ=>?_,λ{X Γ} M {o xs pos} h RT Y old σ=>absurd h bN⟩
 obtain⟨⟨l,os,rs⟩,h1,g⟩:=aB h
 clear h
 obtain⟨p,rfl⟩:=h1
 have h:=g
 clear g
 rcases os with _|⟨o',_|⟨_,_⟩⟩
 . cases h
 . rcases rs with _|⟨r,_|⟨_,_⟩⟩
   . cases h
   . obtain⟨h1,h2,h3⟩:=cS h
     have e:GS=o':=eq_of_beq h1
     subst e
     obtain⟨z,⟨q,e2⟩,h6⟩:=aB h2
     have e2:l=.Name z q:=e2
     subst e2
     exact zT M h6 (ha.e M h3 RT Y old σ) (aI h3)
   . cases h
 . cases h
theorem aFy{it:Hp.It}(z:∀Γ tt e,chkI Γ tt it e=false):QI P n it:=by
 intro X Γ M tg e h RT Y old σ
 rw[z] at h
 cases h
mutual
theorem qE:(c:E)->Q3 P n c
 | .c _=>n_c
 | .v _=>n_v
 | .op _ a b=>aLx (qE a) (qE b)
 | .neg a=>aJt (qE a)
 | .nt a=>aLy (qE a)
 | .an a b=>aLz (qE a) (qE b)
 | .orr a b=>aJu (qE a) (qE b)
 | .ife t a b=>aJv (qE t) (qE a) (qE b)
 | .cmp _ a b=>aJw (qE a) (qE b)
 | .cmp2 _ _ a b c=>aGK (qE a) (qE b) (qE c)
 | .idx a b=>aJx (qE a) (qE b)
 | .sli a lo hi=>aJy (qE a) (qA lo) (qA hi)
 | .tup es=>aJz (qA es)
 | .lst es=>aJA (qA es)
 | .dic _ _=>lU rfl
 | .call _ es=>aGL (qA es)
 | .bi _ es=>aLA (qA es)
 | .mth _ _ _=>lU rfl
 | .isi a _=>aJB (qE a)
 | .attr _ _=>lU rfl
 | .comp _ _ _ it cond elt=>aGM (qI it) (qA cond) (qE elt)
 | .numset _=>lU rfl
 | .tget _ a=>aGN (qE a)
 | .lzip _ _=>lU rfl
 | .lix _ k=>aJG (qE k)
 | .stp _ _=>lU rfl
 | .callO _ _ a _=>aEs (qE a)
 | .neO _ a=>aJH (qE a)
theorem qA:(cs:Es)->QA P n cs
 | .nil=>aJC
 | .cons c cs=>aGO (qE c) (qA cs)
theorem qI:(it:Hp.It)->QI P n it
 | .seq c=>aJD (qE c)
 | .rng a b=>aJE (qE a) (qE b)
 | .zip a b=>aJF (qE a) (qE b)
 | .enum a=>aGP (qE a)
 | .rev _=>aFy λ_ _ _=>rfl
 | .rng3 _ _ _=>aFy λ_ _ _=>rfl
end
theorem sE(c:E):PEc P n c:=(qE c).e
theorem sT(c:E):PTc P n c:=(qE c).t
theorem sTs(cs:Es):∀{X:Cx} {Γ:Ct},Mc X P Γ n->∀{es:List Ah},es.length<=1->chkEs Γ cs es=true->∀(RT Y old:Addr->Prop) (σ:Sg),PTs X es (wTs X P n RT Y old σ cs):=(qA cs).ts
theorem sI(it:Hp.It):QI P n it:=qI it
end
end Hp
end
noncomputable section
set_option maxHeartbeats 4000000
namespace Hp
open PySem PySem.Spec PyProof.Rows L2
def cJ(K:Fg)(RT Y old:Addr->Prop)(H:Hp)(σ':Sg)(Q:L2.St->Hp->Prop):Prop:=
 ∀(RT':Addr->Prop) (σV':L2.St) (H':Hp),Kp RT H H'->(∀b,RT' b->RT b\/H b=none)->Sx K RT' Y old σ' σV' H'->Q σV' H'
def Rtv(K:Fg)(Y old:Addr->Prop)(H':Hp)(v:Vl)(u:V):Prop:=
 if v.fr=true then ∃a xs ds,u=.ref a/\v.d=.lst ds/\¬ old a/\H' a=some (.lst xs)/\Reps K H' (λb=>b=a\/exB Y old v.pa b) ds xs
 else Rep K H' (exB Y old v.pa) v.d u
def aLB(K:Fg)(RT Y old:Addr->Prop)(H H':Hp)(v:Vl)(u:V):Prop:=∃(d:D) (cs:List D) (R2:Addr->Prop) (p:Addr) (xs:List V),v.d=.tup [d,.err 0 cs]/\(∀b,R2 b->RT b\/H b=none)/\R2 p/\old p/\H' p=some (.lst xs)/\Reps K H' (λb=>R2 b\/Y b) cs xs /\
 if v.fr=true then ∃a ys es,u=.ref a/\d=.lst es/\¬ old a/\R2 a/\H' a=some (.lst ys)/\Reps K H' (λb=>R2 b\/exB Y old v.pa b) es ys else Rep K H' (λb=>R2 b\/exB Y old v.pa b) d u
def mX(K:Fg)(RT Y old:Addr->Prop)(H:Hp)(v:Vl)(Q:VK):Prop:=∀(u:V) (H':Hp),Kp RT H H'->Tk K H'->Rtv K Y old H' v u\/aLB K RT Y old H H' v u->Q u H'
def OE(K:Fg)(RT Y old:Addr->Prop)(H:Hp)(o:O)(D:Ends):Prop:=match o with
 | .next σ'=>cJ K RT Y old H σ' D.nx
 | .brk σ'=>cJ K RT Y old H σ' D.bk
 | .cnt σ'=>cJ K RT Y old H σ' D.ct
 | .ret v=>mX K RT Y old H v D.rt
 | .exc _ _=>False
 | .bad=>False
def wS(X:Cx)(RT Y old:Addr->Prop)(σ:Sg)(o:O):TS:=λD σV H=>Sx X.K RT Y old σ σV H/\OE X.K RT Y old H o D
section
variable {K:Fg} {RT RT' RT'' Y old:Addr->Prop} {σ:Sg} {σV:L2.St} {H H1 H2:Hp} {o:O} {D D':Ends}
theorem Kp.chain(a:Kp RT H H1)(s:∀b,RT' b->RT b\/H b=none)(b:Kp RT' H1 H2):Kp RT H H2:=λc o e n=>b c o (a c o e n) λz=>(s c z).elim n λq=>by rw[q] at e;cases e
theorem eR(a:Kp RT H H1)(s1:∀b,RT' b->RT b\/H b=none)(s2:∀b,RT'' b->RT' b\/H1 b=none):∀b,RT'' b->RT b\/H b=none:=λb z=>by
 rcases s2 b z with q|q
 . exact s1 b q
 . by_cases hr:RT b
   . exact .inl hr
   . refine .inr ?_
     cases e:H b with
     | none=>rfl
     | some o=>rw[a b o e hr] at q;cases q
theorem cJ.mono{σ':Sg}{Q:L2.St->Hp->Prop}(a:Kp RT H H1)(s:∀b,RT' b->RT b\/H b=none)(h:cJ K RT Y old H σ' Q):cJ K RT' Y old H1 σ' Q:=λRT2 σV2 H2 k n S=>h RT2 σV2 H2 (a.chain s k) (eR a s n) S
theorem OE.mono(a:Kp RT H H1)(s:∀b,RT' b->RT b\/H b=none)(h:OE K RT Y old H o D):OE K RT' Y old H1 o D:=by
 cases o with
 | next σ'=>exact cJ.mono a s h
 | brk σ'=>exact cJ.mono a s h
 | cnt σ'=>exact cJ.mono a s h
 | ret v=>exact λu H2 k t r=>(show mX K RT Y old H v D.rt from h) u H2 (a.chain s k) t (r.imp id λ⟨d,cs,R2,p,xs,e1,e2,q⟩=>⟨d,cs,R2,p,xs,e1,eR a s e2,q⟩)
 | exc x σ'=>exact h
 | bad=>exact h
theorem aP:∀b,RT b->RT b\/H b=none:=λ_ z=>.inl z
def tkE(K:Fg)(D:Ends):Ends:=⟨λσ H=>Tk K H->D.nx σ H,λv H=>Tk K H->D.rt v H,λσ H=>Tk K H->D.bk σ H,λσ H=>Tk K H->D.ct σ H⟩
theorem OE.from{α:Type}{x:R α}{f:α->O}(h:OE K RT Y old H (O.from σ x f) D):RE x λa=>OE K RT Y old H (f a) D:=by
 cases x with
 | ok a=>exact h
 | exc e=>exact h
 | bad=>exact h
end
section
variable {X:Cx} {st:Br} {t t':TS}
theorem aFz{pins:List (Addr×Obj)}{D:Ends}{f:Flow}{s':Ae}(h:SP X pins (tkE X.K D) f s'):SP X pins D f s':=by
 cases f with
 | next=>obtain⟨σ',H',I,q⟩:=h;exact⟨σ',H',I,q I.tk⟩
 | brk=>obtain⟨σ',H',I,q⟩:=h;exact⟨σ',H',I,q I.tk⟩
 | cont=>obtain⟨σ',H',I,q⟩:=h;exact⟨σ',H',I,q I.tk⟩
 | ret u=>obtain⟨v,σ',H',I,r,q⟩:=h;exact⟨v,σ',H',I,r,q I.tk⟩
theorem aZ(h:PS X st t)(f:∀D σV H,Tk X.K H->t' D σV H->t (tkE X.K D) σV H):PS X st t':=λpins s σV H D I hw=>thn (h pins s σV H _ I (f D σV H I.tk hw)) λfl s' q=>aFz q
theorem kE{sts:List Br}(h:PSs X sts t)(f:∀D σV H,Tk X.K H->t' D σV H->t (tkE X.K D) σV H):PSs X sts t':=λpins s σV H D I hw=>thn (h pins s σV H _ I (f D σV H I.tk hw)) λfl s' q=>aFz q
theorem iQ{Y old:Addr->Prop}{sts:List Br}{f:Sg->O}(h:∀RT σ,PSs X sts (wS X RT Y old σ (f σ))):PSs X sts (λD σV H=>∃RT σ,wS X RT Y old σ (f σ) D σV H):=λpins s σV H D I ⟨RT,σ,hw⟩=>h RT σ pins s σV H D I hw
end
section
variable {X:Cx} {P:Pg} {Γ:Ct} {n:Nat} {RT Y old:Addr->Prop} {σ:Sg} {pos:BX}
theorem cJ.tkE{σ':Sg}{Q:L2.St->Hp->Prop}{H:Hp}(h:cJ X.K RT Y old H σ' Q):cJ X.K RT Y old H σ' λσ H=>Tk X.K H->Q σ H:=λRT' σV' H' k n S _=>h RT' σV' H' k n S
theorem OE.tkE{o:O}{D:Ends}{H:Hp}(h:OE X.K RT Y old H o D):OE X.K RT Y old H o (tkE X.K D):=by
 cases o with
 | next σ'=>exact cJ.tkE h
 | brk σ'=>exact cJ.tkE h
 | cnt σ'=>exact cJ.tkE h
 | ret v=>exact λu H2 k t r _=>(show mX X.K RT Y old H v D.rt from h) u H2 k t r
 | exc x σ'=>exact h
 | bad=>exact h
theorem aJI:PSs X [] (wS X RT Y old σ (exs P (call P n) σ .nil)):=kE zE λD σV H t ⟨S,h⟩ _=>(show cJ X.K RT Y old H σ D.nx from h) RT σV H (Kp.refl RT H) aP S
theorem aGQ{s:S}{ss:Ss}{x:Br}{xs:List Br}(h1:∀RT σ,PS X x (wS X RT Y old σ (ex P (call P n) σ s)))(h2:∀RT σ,PSs X xs (wS X RT Y old σ (exs P (call P n) σ ss))) :
 PSs X (x::xs) (wS X RT Y old σ (exs P (call P n) σ (.cons s ss))):=by
 refine kE (aBE (h1 RT σ) (iQ h2)) λD σV H t ⟨S,h⟩=>?_
 have h:OE X.K RT Y old H ((ex P (call P n) σ s).on λσ'=>exs P (call P n) σ' ss) D:=h
 refine⟨S,?_⟩
 cases q:ex P (call P n) σ s with
 | next σ'=>
  rw[q] at h
  exact λRT' σV' H' k nn S'=>⟨RT',σ',S',(OE.mono k nn (show OE X.K RT Y old H (exs P (call P n) σ' ss) D from h)).tkE⟩
 | brk σ'=>rw[q] at h;exact OE.tkE (D:=D) (o:=.brk σ') h
 | cnt σ'=>rw[q] at h;exact OE.tkE (D:=D) (o:=.cnt σ') h
 | ret v=>rw[q] at h;exact OE.tkE (D:=D) (o:=.ret v) h
 | exc e σ'=>rw[q] at h;exact h
 | bad=>rw[q] at h;exact h
theorem aGR:PS X (.Pass pos) (wS X RT Y old σ (ex P (call P n) σ .pass)):=aZ aDI λD σV H t ⟨S,h⟩ _=>(show cJ X.K RT Y old H σ D.nx from h) RT σV H (Kp.refl RT H) aP S
theorem aJJ:PS X (.Break pos) (wS X RT Y old σ (ex P (call P n) σ .brk)):=aZ aBF λD σV H t ⟨S,h⟩ _=>(show cJ X.K RT Y old H σ D.bk from h) RT σV H (Kp.refl RT H) aP S
theorem aJK:PS X (.Continue pos) (wS X RT Y old σ (ex P (call P n) σ .cnt)):=aZ tY λD σV H t ⟨S,h⟩ _=>(show cJ X.K RT Y old H σ D.ct from h) RT σV H (Kp.refl RT H) aP S
theorem aJL{st:Br}{c:Nat}{k:Bool}{es:Es}:PS X st (wS X RT Y old σ (ex P (call P n) σ (.rse c k es))):=aZ aBH λD σV H t ⟨S,h⟩=>by
 have h:OE X.K RT Y old H (O.from σ (evs P (call P n) σ es) λvs=>.exc (.err c (if k then vs.map (·.d) else [])) σ) D:=h
 obtain⟨vs,_,q⟩:=(OE.from h).eq
 exact q
theorem zY{pa:Bool}{al:List Nat}{σV:L2.St}{b:Addr}(h:exB Y old pa b):exV RT Y old σ σV pa al b:=.inr h
theorem Ro.rtv{H H':Hp}{σV:L2.St}{v:Vl}{u:V}(S:Sx X.K RT Y old σ σV H)(ro:Ro X.K RT Y old σ σV H H' v u):Rtv X.K Y old H' v u:=by
 unfold Rtv
 by_cases hf:v.fr=true
 . rw[if_pos hf]
   obtain⟨s,h⟩:=ro
   rw[if_pos hf] at h
   obtain⟨a,xs,ds,e1,e2,e3,e4,r⟩:=h
   exact⟨a,xs,ds,e1,e2,λz=>S.trk a (.inr (.inr z)) e3.1 e3.2,e4,r.weak λb z=>z.elim .inl λz=>.inr (zY z)⟩
 . rw[if_neg hf]
   exact Rep.weak (ro.rv S) λb z=>zY z
theorem aJM{c:E}{e:Ah}(he:PE X e (WE X P n RT Y old σ c)):PS X (.Return (some e) pos) (wS X RT Y old σ (ex P (call P n) σ (.ret c))):=by
 refine aZ (rO he) λD σV H t ⟨S,h⟩=>?_
 have h:=OE.from (show OE X.K RT Y old H (O.from σ (ev P (call P n) σ c) .ret) D from h)
 exact wE.one S h λx u H1 hx t1 S1 r1 _=>(show mX X.K RT Y old H x D.rt from hx) u H1 (Kp.same r1.1) t1 (.inl (r1.rtv S))
theorem aGS:PS X (.Return none pos) (wS X RT Y old σ (ex P (call P n) σ .retN)):=aZ aDJ λD σV H t ⟨S,h⟩ _=>(show mX X.K RT Y old H (.cl .non) D.rt from h) .non H (Kp.refl RT H) t (.inl rfl)
theorem aGT{i:Nat}{x:Str}{p:BX}(M:Mc X P Γ n)(hx:aO Γ i x=true):PS X (.Return (some (.Name x p)) pos) (wS X RT Y old σ (ex P (call P n) σ (.retv i))):=by
 have hpe:PE X (.Name x p) (aDG i):=by
  unfold aO at hx
  obtain⟨h1,h2,h3⟩:=cS hx
  exact lK (by rw[M.N];exact eq_of_beq h1) (M.vis h2) (aJ h3) (eO h3)
 refine aZ (rO hpe) λD σV H t ⟨S,h⟩=>?_
 have h:OE X.K RT Y old H (match σ[i]? with|some (.own pa ds)=>.ret ⟨.lst ds,true,pa,[]⟩|_=>O.from σ (bV σ i) .ret) D:=h
 unfold bV at h
 cases e:σ[i]? with
 | none=>rw[e] at h;exact h.elim
 | some sl=>
  rw[e] at h
  cases sl with
  | dead=>exact h.elim
  | lent _=>exact h.elim
  | dp _=>exact h.elim
  | own pa ds=>
   obtain⟨a,xs,h1,h2,h3,h4,h5⟩:=S.own i pa ds e
   refine⟨.ref a,h1,λ_=>(show mX X.K RT Y old H ⟨.lst ds,true,pa,[]⟩ D.rt from h) _ H (Kp.refl RT H) t (.inl ?_)⟩
   unfold Rtv
   rw[if_pos rfl]
   exact⟨a,xs,ds,rfl,rfl,h4,h2,h5.weak λb z=>z.elim (λz=>.inl (by rw[z];exact h3)) .inr⟩
  | sh pa d=>
   obtain⟨v,h1,h2⟩:=S.sh i pa d e
   refine⟨v,h1,λ_=>(show mX X.K RT Y old H ⟨d,false,pa&&!noL d,[]⟩ D.rt from h) v H (Kp.refl RT H) t (.inl ?_)⟩
   unfold Rtv
   rw[if_neg bN]
   show Rep X.K H (exB Y old (pa&&!noL d)) d v
   cases hn:noL d with
   | true=>exact Rep.free d v hn h2
   | false=>
    refine h2.weak λb z=>.inr ?_
    rw[Gg,BV] at z
    exact z
theorem aLC{c:E}{e:Ah}(he:PE X e (WE X P n RT Y old σ c))(hs:fM e=false):PS X (.Expr e pos) (wS X RT Y old σ (ex P (call P n) σ (.ex c))):=by
 refine aZ (eL he (by cases e <;> first|rfl|cases hs)) λD σV H t ⟨S,h⟩=>?_
 have h:=OE.from (show OE X.K RT Y old H (O.from σ (ev P (call P n) σ c) λ_=>.next σ) D from h)
 exact wE.one S h λx u H1 hx t1 S1 r1 _=>(show cJ X.K RT Y old H σ D.nx from hx) RT σV H1 (Kp.same r1.1) aP S1
theorem aLD{c:E}{a b:Ss}{e:Ah}{xa xb:List Br}(hc:PT X e (WT X P n RT Y old σ c))(ha:∀RT σ,PSs X xa (wS X RT Y old σ (exs P (call P n) σ a)))(hb:∀RT σ,PSs X xb (wS X RT Y old σ (exs P (call P n) σ b))) :
 PS X (.If e xa xb pos) (wS X RT Y old σ (ex P (call P n) σ (.iff c a b))):=by
 refine aZ (aBG hc (ha RT σ) (hb RT σ)) λD σV H t ⟨S,h⟩=>?_
 have h:=OE.from (show OE X.K RT Y old H (O.from σ (tst P (call P n) σ c) λk=>if k=true then exs P (call P n) σ a else exs P (call P n) σ b) D from h)
 refine⟨S,h.mono λk hk H1 t1 s1=>?_⟩
 cases k with
 | true=>rw[if_pos rfl] at hk ⊢;exact⟨S.grow s1 t1,(OE.mono (Kp.same s1) aP hk).tkE⟩
 | false=>rw[if_neg bN] at hk ⊢;exact⟨S.grow s1 t1,(OE.mono (Kp.same s1) aP hk).tkE⟩
theorem sM{σV:L2.St}{H H1:Hp}{v:Vl}{u:V}{t:T}{D:Ends}(S:Sx X.K RT Y old σ σV H)(t1:Tk X.K H1)(r1:Ro X.K RT Y old σ σV H H1 v u)(h:OE X.K RT Y old H (O.from σ (bJ (freeze σ v.al) v t) .next) D):gT X.K t u σV H1 D.nx:=by
 obtain⟨σ2,e,hp⟩:=(OE.from h).eq
 have hp:cJ X.K RT Y old H σ2 D.nx:=hp
 clear h
 cases t with
 | n i=>
  obtain⟨RT',S',hsub⟩:=S.store r1 t1 i
  rw[oP e] at hp
  exact hp RT' _ H1 (Kp.same r1.1) hsub S'
 | t is=>
  obtain⟨ds,hd,hl,e'⟩:=oO e
  have Sf:=(S.grow r1.1 t1).frz v.al
  have hr:Rep X.K H1 (λa=>rtF RT σ σV v.al a\/exB Y old v.pa a) v.d u:=r1.rv S
  have hf:v.fr=false\/v.fr=true:=by cases v.fr <;> simp
  rcases hf with hf|hf
  . exact vC Sf hf hr e λσ2V S2 _=>hp _ _ _ (Kp.same r1.1) (λb z=>.inl z.1) S2
  . have:=r1.2
    rw[if_pos hf] at this
    obtain⟨a,xs,ds',_,e2,_⟩:=this
    rw[hd] at e2;cases e2
theorem aGU{c:E}{e:Ah}{i:Nat}{x:Str}{p:BX}(M:Mc X P Γ n)(hx:aU Γ i x=true)(he:PE X e (WE X P n RT Y old σ c))(hs:fM e=false):PS X (.Assign [.Name x p] e pos) (wS X RT Y old σ (ex P (call P n) σ (.set (.n i) c))):=by
 unfold aU at hx
 obtain⟨h1,h2,h3⟩:=cS hx
 refine aZ (lL (i:=i) M.nd (by rw[M.N];exact eq_of_beq h1) (M.loc h2) he (by cases e <;> first|rfl|cases hs) (M.st x h2)) λD σV H t ⟨S,h⟩=>?_
 have h:=OE.from (show OE X.K RT Y old H (O.from σ (ev P (call P n) σ c) λv=>O.from σ (bJ (freeze σ v.al) v (.n i)) .next) D from h)
 exact wE.one S h λv u H1 hv t1 S1 r1=>sM (t:=.n i) S t1 r1 (OE.tkE hv)
theorem aGV{c:E}{e:Ah}{is:List Nat}{es:List Ah}{k:Nat}{p:BX}(M:Mc X P Γ n)(hx:iB Γ (.t is) (.Tuple es k p)=true)(he:PE X e (WE X P n RT Y old σ c))(hs:oD e=false):PS X (.Assign [.Tuple es k p] e pos) (wS X RT Y old σ (ex P (call P n) σ (.set (.t is) c))):=by
 refine aZ (wY he (xX M hx) (by cases e <;> rfl) (by cases e <;> first|rfl|cases hs)) λD σV H t ⟨S,h⟩=>?_
 have h:=OE.from (show OE X.K RT Y old H (O.from σ (ev P (call P n) σ c) λv=>O.from σ (bJ (freeze σ v.al) v (.t is)) .next) D from h)
 exact wE.one S h λv u H1 hv t1 S1 r1=>sM (t:=.t is) S t1 r1 (OE.tkE hv)
theorem aBh{i:Nat}{x:Str}{p cpos:BX}(M:Mc X P Γ n)(hx:aU Γ i x=true){k:Nat}{caps:List Nat}{t:T}{it:Hp.It}{cond:Es}{elt:E}{e tg iter:Ah}{ifs:List Ah}{scope:Cu}{N':List Str}(CS:cL X scope k caps N')(hnd:caps.Nodup)(hk:∀i∈tIx t,i<k)
 (hi:PI X tg iter (wI X P n RT Y old σ it))
 (hch:∀C s₀ H₀ ex,PG (dA X scope N' C s₀ H₀ ex) tg (gT X.K t)/\(∀RT Y old σ1,PTs (dA X scope N' C s₀ H₀ ex) ifs (wTs X P n RT Y old σ1 cond))/\∀RT Y old σ1,PE (dA X scope N' C s₀ H₀ ex) e (WE X P n RT Y old σ1 elt))
 (hs:∀x,B4 iter X.env x=pure x):PS X (.Assign [.Name x p] (.ListComp e [⟨tg,iter,ifs,0⟩] scope cpos) pos) (wS X RT Y old σ (ex P (call P n) σ (.set (.n i) (.comp k caps t it cond elt)))):=by
 unfold aU at hx
 obtain⟨h1,h2,h3⟩:=cS hx
 refine aZ (xT (g:=gT X.K t) (tt:=λσV H Q=>∃RT Y old σ1,wTs X P n RT Y old σ1 cond σV H Q) (te:=λσV H Q=>∃RT Y old σ1,WE X P n RT Y old σ1 elt σV H Q) CS M.calm hi (λC s₀ H₀ ex=>?_) hs M.nd (by rw[M.N];exact eq_of_beq h1) (M.loc h2) (M.st x h2)) λD σV H t0 ⟨S,h⟩=>?_
 . obtain⟨h1,h2,h3⟩:=hch C s₀ H₀ ex
   exact⟨h1,λpins s σV H Q I ⟨RT,Y,old,σ1,hw⟩=>h2 RT Y old σ1 pins s σV H Q I hw,λpins s σV H Q I ⟨RT,Y,old,σ1,hw⟩=>h3 RT Y old σ1 pins s σV H Q I hw⟩
 . have h:=OE.from (show OE X.K RT Y old H (O.from σ (ev P (call P n) σ (.comp k caps t it cond elt)) λv=>O.from σ (bJ (freeze σ v.al) v (.n i)) .next) D from h)
   exact aCA (Q:=λv H'=>qC i v σV H' D.nx) hnd hk ⟨S,h.mono λv hv u H1 t1 r1=>sM (t:=.n i) S t1 r1 hv⟩
def fN(lt:Bool)(pa:Bool)(ds:List D):Sl:=if lt then .lent ds else .own pa ds
theorem Sx.mutH{K:Fg}{σV:L2.St}{H H':Hp}{RT':Addr->Prop}(S:Sx K RT Y old σ σV H){i:Nat}{lt pa pa':Bool}{ds ds':List D}{a:Addr}{xs':List V}(e:σ[i]? = some (fN lt pa ds))(ha:σV[i]? = some (some (.ref a)))(h1:∀b,RT b->RT' b)(h2:∀b,RT' b->RT b\/H b=none)
 (h3:∀b,RT' b->∃xs,H' b=some (.lst xs)) (t:Tk K H') (kp:Kp (λb=>b=a) H H') (hx:H' a=some (.lst xs')) (r:Reps K H' (λb=>RT' b\/exB Y old (lt||pa') b) ds' xs'):Sx K RT' Y old (σ.set i (fN lt pa' ds')) σV H':=by
 have hA:(∃xs,H a=some (.lst xs))/\RT a/\(if lt then old a else ¬ old a):=by
  cases lt with
  | true=>
   obtain⟨b,xs,g1,g2,g3,g4,_⟩:=S.lx.at' i ds e
   rw[ha] at g1
   cases g1
   exact⟨⟨xs,g2⟩,g3,g4⟩
  | false=>
   obtain⟨b,xs,g1,g2,g3,g4,_⟩:=S.own i pa ds e
   rw[ha] at g1
   cases g1
   exact⟨⟨xs,g2⟩,g3,g4⟩
 obtain⟨⟨xs,hax⟩,haR,hao⟩:=hA
 have nr:∀b ys,¬ RT b->SqL K H b ys->¬ RT' b:=λb ys n q z=>by
  rcases h2 b z with z'|z'
  . exact n z'
  . obtain⟨zs,hz⟩:=h3 b z
    exact zU q ⟨z',t b (by rw[hz];simp)⟩
 have kL:∀a',a'=a->∃ys,H a'=some (.lst ys):=λa' z=>⟨xs,by rw[z];exact hax⟩
 have tr:∀{pb:Bool} {d:List D} {v:List V},Reps K H (λb=>RT b\/exB Y old pb b) d v->Reps K H' (λb=>RT' b\/exB Y old pb b) d v:=λ{pb d v} q=>
  Reps.imp (λb ys z=>kp.seqT kL z) (λb ys n z=>⟨λw=>w.elim (nr b ys (λz=>n (.inl z)) z) λw=>n (.inr w),kp.seqL (λw=>n (.inl (by rw[w];exact haR))) z⟩) (λ⟨c,g1,g2⟩=>⟨c,g1,g2.elim (λz=>absurd (t c (by obtain⟨zs,hz⟩:=h3 c z;rw[hz];simp)) g1) .inr⟩) (λb ys n z=>kp b _ z λw=>n (.inl (by rw[w];exact haR))) (λb ks z=>kp b _ z λw=>by rw[w,hax] at z;cases z) d v q
 have tr1:∀{pb:Bool} {d:D} {v:V},Rep K H (λb=>RT b\/exB Y old pb b) d v->Rep K H' (λb=>RT' b\/exB Y old pb b) d v:=λ{pb d v} q=>
  Rep.imp (λb ys z=>kp.seqT kL z) (λb ys n z=>⟨λw=>w.elim (nr b ys (λz=>n (.inl z)) z) λw=>n (.inr w),kp.seqL (λw=>n (.inl (by rw[w];exact haR))) z⟩) (λ⟨c,g1,g2⟩=>⟨c,g1,g2.elim (λz=>absurd (t c (by obtain⟨zs,hz⟩:=h3 c z;rw[hz];simp)) g1) .inr⟩) (λb ys n z=>kp b _ z λw=>n (.inl (by rw[w];exact haR))) (λb ks z=>kp b _ z λw=>by rw[w,hax] at z;cases z) d v q
 have live:∀b,H b≠none->H' b≠none:=λb z q=>by
  by_cases hb:b=a
  . rw[hb,hx] at q;cases q
  . cases o:H b with
    | none=>exact z o
    | some o'=>rw[kp b o' o hb] at q;cases q
 exact {
  sh:=λj pb d q=>by
   rcases set_some q with⟨_,z,_⟩|⟨_,q⟩
   . cases lt <;> cases z
   . obtain⟨v,g1,g2⟩:=S.sh j pb d q
     exact⟨v,g1,tr1 g2⟩
  own:=λj pb dd q=>by
   rcases set_some q with⟨rfl,z,_⟩|⟨hne,q2⟩
   . cases lt with
     | true=>cases z
     | false=>
      cases z
      exact⟨a,xs',ha,hx,h1 a haR,hao,r⟩
   . obtain⟨b,ys,g1,g2,g3,g4,g5⟩:=S.own j pb dd q2
     have hb:b≠a:=λz=>by
      subst z
      cases lt with
      | true=>exact g4 hao
      | false=>exact hne (S.inj i j pa pb ds dd b e q2 ha g1)
     exact⟨b,ys,g1,kp b _ g2 hb,h1 b g3,g4,tr g5⟩
  trk:=λb z q=>by
   rcases z with z|z
   . obtain⟨ys,hy⟩:=h3 b z
     rw[hy] at q;cases q
   . exact S.trk b (.inr z) (AF λy=>live b y q)
  yo:=S.yo
  tk:=t
  rt:=h3
  inj:=λj j' pb pb' dd dd' b q1 q2=>by
   have get:∀{j:Nat} {pb:Bool} {dd:List D},(σ.set i (fN lt pa' ds'))[j]? = some (.own pb dd)->∃p2 d2,σ[j]? = some (.own p2 d2):=λ{j pb dd} q=>by
    rcases set_some q with⟨rfl,z,_⟩|⟨_,q⟩
    . cases lt with
      | true=>cases z
      | false=>exact⟨pa,ds,e⟩
    . exact⟨pb,dd,q⟩
   obtain⟨_,_,z1⟩:=get q1
   obtain⟨_,_,z2⟩:=get q2
   exact S.inj j j' _ _ _ _ b z1 z2
  len:=by rw[Ay];exact S.len
  lx:={
   at':=λj dd q=>by
    rcases set_some q with⟨rfl,z,_⟩|⟨hne,q2⟩
    . cases lt with
      | false=>cases z
      | true=>
       cases z
       exact⟨a,xs',ha,hx,h1 a haR,hao,r⟩
    . obtain⟨b,ys,g1,g2,g3,g4,g5⟩:=S.lx.at' j dd q2
      have hb:b≠a:=λz=>by
       subst z
       cases lt with
       | false=>exact hao g4
       | true=>exact hne (S.lx.inj i j ds dd b e q2 ha g1)
      exact⟨b,ys,g1,kp b _ g2 hb,h1 b g3,g4,tr g5⟩
   inj:=λj j' dd dd' b q1 q2=>by
    have get:∀{j:Nat} {dd:List D},(σ.set i (fN lt pa' ds'))[j]? = some (.lent dd)->∃d2,σ[j]? = some (.lent d2):=λ{j dd} q=>by
     rcases set_some q with⟨rfl,z,_⟩|⟨_,q⟩
     . cases lt with
       | false=>cases z
       | true=>exact⟨ds,e⟩
     . exact⟨dd,q⟩
    obtain⟨_,z1⟩:=get q1
    obtain⟨_,z2⟩:=get q2
    exact S.lx.inj j j' _ _ b z1 z2
   dp:=by
    have na:∀b,Pt RT old σ σV b->b≠a:=λb z w=>by
     subst w
     cases lt with
     | true=>exact z.2.1 hao
     | false=>exact z.2.2 i pa ds e ha
    have pt:∀b,Pt RT old σ σV b->Pt RT' old (σ.set i (fN lt pa' ds')) σV b:=λb z=>⟨h1 b z.1,z.2.1,λk pb dd w=>by
     rcases set_some w with⟨rfl,v,_⟩|⟨_,w⟩
     . intro u
       rw[ha] at u
       cases u
       exact na _ z rfl
     . exact z.2.2 k pb dd w⟩
    exact S.lx.dpi S.tk (λb ks w=>kp b _ w λz=>by rw[z,hax] at w;cases w) id (λj o q=>by
     rcases set_some q with⟨_,z,_⟩|⟨hne,q2⟩
     . cases lt <;> cases z
     . exact⟨q2,rfl⟩) (λ_ _ _ _ _ _ w=>w) (λp xs w z=>⟨kp p _ w (na p z),pt p z⟩) λb ys z=>kp.seqT kL z } }
theorem Sx.mutA{K:Fg}{σV:L2.St}{H:Hp}(S:Sx K RT Y old σ σV H){i:Nat}{lt pa pa':Bool}{ds ds':List D}{a:Addr}{xs':List V}(e:σ[i]? = some (fN lt pa ds))(ha:σV[i]? = some (some (.ref a)))(r:Reps K H (λb=>RT b\/exB Y old (lt||pa') b) ds' xs') :
 Sx K RT Y old (σ.set i (fN lt pa' ds')) σV (upd H a (.lst xs')):=by
 have hA:(∃xs,H a=some (.lst xs))/\RT a:=by
  cases lt with
  | true=>
   obtain⟨b,xs,g1,g2,g3,_⟩:=S.lx.at' i ds e
   rw[ha] at g1
   cases g1
   exact⟨⟨xs,g2⟩,g3⟩
  | false=>
   obtain⟨b,xs,g1,g2,g3,_⟩:=S.own i pa ds e
   rw[ha] at g1
   cases g1
   exact⟨⟨xs,g2⟩,g3⟩
 obtain⟨⟨xs,hax⟩,haR⟩:=hA
 have kp:Kp (λb=>b=a) H (upd H a (.lst xs')):=λb o q n=>by rw[aN n];exact q
 refine S.mutH e ha (λ_ z=>z) (λ_ z=>.inl z) (λb z=>?_) (λb z=>?_) kp aW (r.kp kp (λb z=>⟨xs,by rw[z];exact hax⟩) λb z=>.inl (by rw[z];exact haR))
 . by_cases hb:b=a
   . rw[hb];exact⟨xs',aW⟩
   . rw[aN hb];exact S.rt b z
 . by_cases hb:b=a
   . rw[hb];exact S.tk a (by rw[hax];simp)
   . rw[aN hb] at z;exact S.tk b z
theorem Sx.mut{K:Fg}{σV:L2.St}{H:Hp}(S:Sx K RT Y old σ σV H){i:Nat}{pa pa':Bool}{ds ds':List D}{a:Addr}{xs':List V}(e:σ[i]? = some (.own pa ds))(ha:σV[i]? = some (some (.ref a)))(r:Reps K H (λb=>RT b\/exB Y old pa' b) ds' xs') :
 Sx K RT Y old (σ.set i (.own pa' ds')) σV (upd H a (.lst xs')):=S.mutA (lt:=false) e ha r
theorem Kp.upd{H H1:Hp}{a:Addr}{xs:List V}(s:aL H H1)(h:RT a):Kp RT H (upd H1 a (.lst xs)):=λb o e nn=>by
 rw[aN λz=>nn (by rw[z];exact h)]
 exact s b o e
theorem kF{i:Nat}{pa:Bool}{ds:List D}(h:hZ σ i=some (pa,ds)):σ[i]? = some (.own pa ds):=by
 unfold hZ at h
 split at h
 . rename_i q;cases h;exact q
 . cases h
theorem sN{i:Nat}{v:Vl}{f:List D->Option (List D)}{H:Hp}{D:Ends}(h:OE X.K RT Y old H (put σ i v f) D):∃pa ds ds',σ[i]? = some (.own pa ds)/\i∉v.al/\f ds=some ds'/\ds'.length<=lim/\cJ X.K RT Y old H ((freeze σ v.al).set i (.own (pa||v.pa) ds')) D.nx:=by
 unfold put at h
 split at h
 . rename_i pa ds q
   have q:=dU (kF q)
   split at h
   . rename_i ds' q2
     split at h
     . rename_i hl
       exact⟨pa,ds,ds',q.1,q.2,q2,hl,h⟩
     . exact h.elim
   . exact h.elim
 . exact h.elim
theorem kG{pa pb:Bool}{b:Addr}(h:exB Y old (pa||pb) b):exB Y old pa b:=h.imp_right λz=>⟨by cases pa <;> simp_all,z.2⟩
theorem nO{pa pb:Bool}{b:Addr}(h:exB Y old (pa||pb) b):exB Y old pb b:=h.imp_right λz=>⟨by cases pb <;> simp_all,z.2⟩
theorem fD{i:Nat}{m:Str}{c:Ah}{xs:List Ah}(h:eW Γ i m c=some xs):∃x p ap cp,c=.Call (.Attribute (.Name x p) m ap) xs [] cp/\aO Γ i x=true/\(ap.endLine==cp.line)=true:=by
 unfold eW at h
 split at h
 . rename_i x p a ap xs' cp
   split at h
   . rename_i q
     obtain⟨q1,q2,q3⟩:=cS q
     cases h
     have e:a=m:=eq_of_beq q1
     subst e
     exact⟨x,p,ap,cp,rfl,q2,q3⟩
   . cases h
 . cases h
theorem bU{i:Nat}{x:Str}{p:BX}(M:Mc X P Γ n)(hx:aO Γ i x=true):PE X (.Name x p) (aDG i):=by
 unfold aO at hx
 obtain⟨h1,h2,h3⟩:=cS hx
 exact lK (by rw[M.N];exact eq_of_beq h1) (M.vis h2) (aJ h3) (eO h3)
theorem oR:lim<sizeLine:=by rw[B1];decide
theorem kI{i:Nat}{al:List Nat}{pa:Bool}{ds:List D}{σV:L2.St}{H H1:Hp}{b:Addr}{xs:List V}(S:Sx X.K RT Y old σ σV H)(s1:aL H H1)(q1:σ[i]? = some (.own pa ds))(h1:σV[i]? = some (some (.ref b)))(h2:H b=some (.lst xs)) :
 Reps X.K H1 (λc=>rtF RT σ σV al c\/exB Y old pa c) ds xs:=by
 obtain⟨b',xs',g1,g2,g3,g4,g5⟩:=S.own i pa ds q1
 rw[h1] at g1
 cases g1
 rw[h2] at g2
 cases g2
 exact(g5.grow s1).weak λc z=>z.elim (λz=>.inl z.1) .inr
theorem kJ{i:Nat}{v:Vl}{pa:Bool}{ds ds':List D}{σV:L2.St}{H H1:Hp}{b:Addr}{xs':List V}{Q:L2.St->Hp->Prop}(S:Sx X.K RT Y old σ σV H)(s1:aL H H1)(t1:Tk X.K H1)(q1:σ[i]? = some (.own pa ds))(q2:i∉v.al)(h1:σV[i]? = some (some (.ref b)))
 (r:Reps X.K H1 (λc=>rtF RT σ σV v.al c\/exB Y old (pa||v.pa) c) ds' xs') (hpost:cJ X.K RT Y old H ((freeze σ v.al).set i (.own (pa||v.pa) ds')) Q):Q σV (upd H1 b (.lst xs')):=by
 obtain⟨b',xs,g1,g2,g3,g4,g5⟩:=S.own i pa ds q1
 rw[h1] at g1
 cases g1
 have e':(freeze σ v.al)[i]? = some (.own pa ds):=by
  rw[dS,q1]
  simp[q2]
 exact hpost _ σV _ (Kp.upd s1 g3) (λc z=>.inl z.1) (((S.grow s1 t1).frz v.al).mut e' h1 r)
theorem aGW{σV:L2.St}{H1:Hp}{v:Vl}{u:V}{pa:Bool}(h:Rv X.K RT Y old σ σV H1 v u):Rep X.K H1 (λc=>rtF RT σ σV v.al c\/exB Y old (pa||v.pa) c) v.d u:=Rep.weak h λc z=>z.imp id nO
theorem aJN{i:Nat}{c:E}{e a:Ah}(M:Mc X P Γ n)(hc:eW Γ i "append" e=some [a])(ha:PE X a (WE X P n RT Y old σ c))(hp:aK a=true):PS X (.Expr e pos) (wS X RT Y old σ (ex P (call P n) σ (.app i c))):=by
 obtain⟨x,p,ap,cp,rfl,hx,hl⟩:=fD hc
 refine aZ (eL (uF AV C7 C8 lP (bU M hx) (bX ha dO (aA hp)) rfl (by rw[aA hp];rfl) hl (aA hp) rfl)) λD σV H t ⟨S,h⟩=>?_
 have h:=OE.from (show OE X.K RT Y old H (O.from σ (ev P (call P n) σ c) λv=>put σ i v λds=>some (ds++[v.d])) D from h)
 obtain⟨v,ee,h⟩:=h.eq
 obtain⟨pa,ds,ds',q1,q2,q3,q4,hpost⟩:=sN h
 cases q3
 obtain⟨b,xs,h1,h2,h3,h4,h5⟩:=S.own i pa ds q1
 refine⟨.ref b,h1,.inl ⟨rfl,xs,SqL.of h2⟩,S,?_⟩
 rw[ee]
 intro u H1 t1 r1
 have hlen:=h5.length
 refine⟨b,xs,u,rfl,rfl,r1.1 _ _ h2,?_,λ_=>?_⟩
 . rw[lA,Bj] at q4
   have:=oR
   omega
 . exact kJ S r1.1 t1 q1 q2 h1 (((kI S r1.1 q1 h1 h2).weak λc z=>z.imp id kG).append (.cons (aGW (r1.rv S)) .nil)) hpost
theorem aJO{i:Nat}{c:E}{e a:Ah}(M:Mc X P Γ n)(hc:eW Γ i "extend" e=some [a])(ha:PE X a (WE X P n RT Y old σ c))(hp:aK a=true):PS X (.Expr e pos) (wS X RT Y old σ (ex P (call P n) σ (.ext i c))):=by
 obtain⟨x,p,ap,cp,rfl,hx,hl⟩:=fD hc
 refine aZ (eL (uF AV D9 DA qO (bU M hx) (bX ha dO (aA hp)) rfl (by rw[aA hp];rfl) hl (aA hp) rfl)) λD σV H t ⟨S,h⟩=>?_
 have h:=OE.from (show OE X.K RT Y old H (O.from σ (ev P (call P n) σ c) λv=>(match qS v with|some (v',ds')=>put σ i v' λds=>some (ds++ds')|none=>.bad)) D from h)
 obtain⟨v,ee,h⟩:=h.eq
 unfold qS at h
 cases hf:v.fr with
 | false=>rw[hf] at h;exact h.elim
 | true=>
  rw[hf] at h
  cases hd:v.d with
  | lst es=>
   rw[hd] at h
   obtain⟨pa,ds,ds',q1,q2,q3,q4,hpost⟩:=sN h
   cases q3
   obtain⟨b,xs,h1,h2,h3,h4,h5⟩:=S.own i pa ds q1
   refine⟨.ref b,h1,.inl ⟨rfl,xs,SqL.of h2⟩,S,?_⟩
   rw[ee]
   intro u H1 t1 r1
   have hr:=r1.2
   rw[if_pos hf] at hr
   obtain⟨a',ys,es',e1,e2,e3,e4,r⟩:=hr
   rw[hd] at e2
   cases e2
   subst e1
   have hlen:=h5.length
   have hlen2:=r.length
   refine⟨b,a',xs,ys,rfl,rfl,r1.1 _ _ h2,e4,?_,λ_=>?_⟩
   . rw[lA] at q4
     have:=oR
     omega
   . refine kJ S r1.1 t1 q1 q2 h1 (((kI S r1.1 q1 h1 h2).weak λc z=>z.imp id kG).append ?_) hpost
     have rr:=dX (r.weak λb z=>.inr z)
     exact rr.weak λc z=>z.imp id nO
  | _=>rw[hd] at h;exact h.elim
theorem vJ{i:Nat}{k:Option Int}{v:Vl}{σ':Sg}(h:iA σ i k=.ok (v,σ')):∃pa ds j d,σ[i]? = some (.own pa ds)/\ixN ds.length (k.getD (-1))=some j/\ds[j]? = some d/\v=Vl.sub ⟨.non,false,pa,[]⟩ d/\σ'=σ.set i (.own pa (ds.eraseIdx j)):=by
 unfold iA at h
 cases q:hZ σ i with
 | none=>rw[q] at h;cases h
 | some pd=>
  obtain⟨pa,ds⟩:=pd
  rw[q] at h
  cases k with
  | none=>
   have h:(match ixN ds.length (-1) with|some j=>(match ds[j]? with|some d=>R.ok (Vl.sub ⟨.non,false,pa,[]⟩ d,σ.set i (.own pa (ds.eraseIdx j)))|none=>.bad)|none=>.bad)=R.ok (v,σ'):=h
   cases hj:ixN ds.length (-1) with
   | none=>rw[hj] at h;cases h
   | some j=>
    rw[hj] at h
    have h:(match ds[j]? with|some d=>R.ok (Vl.sub ⟨.non,false,pa,[]⟩ d,σ.set i (.own pa (ds.eraseIdx j)))|none=>.bad)=R.ok (v,σ'):=h
    cases hd:ds[j]? with
    | none=>rw[hd] at h;cases h
    | some d=>rw[hd] at h;cases h;exact⟨pa,ds,j,d,kF q,hj,hd,rfl,rfl⟩
  | some k=>
   have h:(match ixN ds.length k with|some j=>(match ds[j]? with|some d=>R.ok (Vl.sub ⟨.non,false,pa,[]⟩ d,σ.set i (.own pa (ds.eraseIdx j)))|none=>.bad)|none=>.bad)=R.ok (v,σ'):=h
   cases hj:ixN ds.length k with
   | none=>rw[hj] at h;cases h
   | some j=>
    rw[hj] at h
    have h:(match ds[j]? with|some d=>R.ok (Vl.sub ⟨.non,false,pa,[]⟩ d,σ.set i (.own pa (ds.eraseIdx j)))|none=>.bad)=R.ok (v,σ'):=h
    cases hd:ds[j]? with
    | none=>rw[hd] at h;cases h
    | some d=>rw[hd] at h;cases h;exact⟨pa,ds,j,d,kF q,hj,hd,rfl,rfl⟩
theorem aCC{i:Nat}{pa:Bool}{ds:List D}{j:Nat}{d:D}{σV:L2.St}{H H1:Hp}{b:Addr}{xs:List V}(S:Sx X.K RT Y old σ σV H)(s1:aL H H1)(t1:Tk X.K H1)(q1:σ[i]? = some (.own pa ds))(h1:σV[i]? = some (some (.ref b)))(h2:H b=some (.lst xs))(hd:ds[j]? = some d) :
 ∃y,xs[j]? = some y/\Kp RT H (upd H1 b (.lst (xs.eraseIdx j)))/\Sx X.K RT Y old (σ.set i (.own pa (ds.eraseIdx j))) σV (upd H1 b (.lst (xs.eraseIdx j))) /\
  Rep X.K (upd H1 b (.lst (xs.eraseIdx j))) (λa=>RT a\/exB Y old (Vl.sub ⟨.non,false,pa,[]⟩ d).pa a) (Vl.sub ⟨.non,false,pa,[]⟩ d).d y:=by
 have S1:=S.grow s1 t1
 obtain⟨b',xs',g1,g2,g3,g4,g5⟩:=S1.own i pa ds q1
 rw[h1] at g1
 cases g1
 rw[s1 _ _ h2] at g2
 cases g2
 obtain⟨y,hy,ry⟩:=g5.get hd
 refine⟨y,hy,Kp.upd s1 g3,S1.mut q1 h1 (g5.eraseIdx j),?_⟩
 have ry':Rep X.K (upd H1 b (.lst (xs.eraseIdx j))) (λa=>RT a\/exB Y old pa a) d y:=ry.keep λc o e hl=>by
  rw[aN λz=>by subst z;rw[s1 _ _ h2] at e;cases e;exact hl xs rfl (.inl g3)]
  exact e
 unfold Vl.sub
 by_cases hn:noL d=true
 . rw[if_pos hn];exact Rep.free d y hn ry'
 . rw[if_neg hn];exact ry'
def aEt(X:Cx)(P:Pg)(n:Nat)(RT Y old:Addr->Prop)(σ:Sg)(i:Nat)(k:Option E):TE:=λσV H Q=>Sx X.K RT Y old σ σV H/\RE (zM (k.map λe=>ev P (call P n) σ e)) λk=>RE (iA σ i k) λr=>
 ∀u H',Kp RT H H'->Sx X.K RT Y old r.2 σV H'->Rep X.K H' (λa=>RT a\/exB Y old r.1.pa a) r.1.d u->Q u H'
theorem aCD{i:Nat}{e:Ah}(M:Mc X P Γ n)(hc:eW Γ i "pop" e=some []):PE X e (aEt X P n RT Y old σ i none):=by
 obtain⟨x,p,ap,cp,rfl,hx,hl⟩:=fD hc
 refine(xK AV PySem.F.slot_list_pop PySem.F.type_list_pop aGk (bU M hx) rfl hl).imp λσV H Q t ⟨S,h⟩=>?_
 obtain⟨⟨v,σ'⟩,ep,h⟩:=(show RE (iA σ i none) _ from h).eq
 obtain⟨pa,ds,j,d,q1,hj,hd,e1,e2⟩:=vJ ep
 obtain⟨b,xs,h1,h2,h3,h4,h5⟩:=S.own i pa ds q1
 obtain⟨y,hy,kp,S2,ry⟩:=aCC S (aL.refl H) t q1 h1 h2 hd
 have hlen:=h5.length
 have hj':j=xs.length-1:=by
  unfold ixN at hj
  rw[CQ,if_neg (by decide)] at hj
  split at hj
  . have:=Ai hj
    omega
  . cases hj
 refine⟨.ref b,h1,.inl ⟨rfl,xs,SqL.of h2⟩,b,xs,y,rfl,rfl,h2,by rw[<-hj'];exact hy,λ_=>?_⟩
 rw[<-gD,<-hj']
 subst e1 e2
 exact h y _ kp S2 ry
theorem aGX{i:Nat}{k:Option E}{e:Ah}(he:PE X e (aEt X P n RT Y old σ i k))(hs:fM e=false):PS X (.Expr e pos) (wS X RT Y old σ (ex P (call P n) σ (.pop none i k))):=by
 refine aZ (eL he (by cases e <;> first|rfl|cases hs)) λD σV H t ⟨S,h⟩=>?_
 have h:=OE.from (show OE X.K RT Y old H (O.from σ (zM (k.map λe=>ev P (call P n) σ e)) λk=>O.from σ (iA σ i k) λ(v,σ')=>.next σ') D from h)
 exact⟨S,h.mono λk hk=>(OE.from hk).mono λr hr u H' kp S2 ry _=>(show cJ X.K RT Y old H r.2 D.nx from hr) RT σV H' kp aP S2⟩
theorem aGY{i:Nat}{k:Option E}{tt:T}{e tg:Ah}(M:Mc X P Γ n)(hx:iB Γ tt tg=true)(he:PE X e (aEt X P n RT Y old σ i k))(hs:fM e=false)(hs2:oD e=false):PS X (.Assign [tg] e pos) (wS X RT Y old σ (ex P (call P n) σ (.pop (some tt) i k))):=by
 have key:∀(D:Ends) (σV:L2.St) (H:Hp),wS X RT Y old σ (ex P (call P n) σ (.pop (some tt) i k)) D σV H->aDL (aEt X P n RT Y old σ i k) (gT X.K tt) D σV H:=λD σV H ⟨S,h⟩=>by
  have h:=OE.from (show OE X.K RT Y old H (O.from σ (zM (k.map λe=>ev P (call P n) σ e)) λk=>O.from σ (iA σ i k) λ(v,σ')=>O.from σ' (bJ σ' v tt) .next) D from h)
  refine⟨S,h.mono λk hk=>?_⟩
  obtain⟨⟨v,σ'⟩,ep,hr⟩:=(OE.from hk).eq
  rw[ep]
  intro u H' kp S2 ry
  obtain⟨σ2,e2,hr⟩:=(OE.from (show OE X.K RT Y old H (O.from σ' (bJ σ' v tt) .next) D from hr)).eq
  obtain⟨pa,ds,j,d,q1,hj,hd,e3,e4⟩:=vJ ep
  exact vC S2 (by rw[e3];exact lR) ry e2 λσ2V S3 _=>(show cJ X.K RT Y old H σ2 D.nx from hr) RT σ2V H' kp aP S3
 refine aZ (wY he (xX M hx) (by cases e <;> first|rfl|cases hs) (by
  cases tg with
  | Tuple es k p=>cases e <;> first|rfl|cases hs2
  | List es p=>cases tt <;> cases hx
  | _=>rfl) (by cases tg <;> first|rfl|(cases tt <;> cases hx))) λD σV H t hw=>key _ σV H ⟨hw.1,OE.tkE hw.2⟩
theorem Sx.move{K:Fg}{σV:L2.St}{H:Hp}(S:Sx K RT Y old σ σV H){i j:Nat}{pa:Bool}{ds:List D}{a:Addr}(e:σ[j]? = some (.own pa ds))(hij:i≠j)(ha:σV[j]? = some (some (.ref a))):Sx K RT Y old ((σ.set j .dead).set i (.own pa ds)) (σV.set i (some (.ref a))) H where
 sh:=λk pb d q=>by
  rcases set_some q with⟨_,z,_⟩|⟨n1,q⟩
  . cases z
  rcases set_some q with⟨_,z,_⟩|⟨n2,q⟩
  . cases z
  obtain⟨v,g1,g2⟩:=S.sh k pb d q
  exact⟨v,by rw[Ac n1];exact g1,g2⟩
 own:=λk pb dd q=>by
  rcases set_some q with⟨rfl,z,hl⟩|⟨n1,q⟩
  . cases z
    obtain⟨b,xs,g1,g2,g3⟩:=S.own j pa ds e
    rw[ha] at g1
    cases g1
    rw[Ay] at hl
    exact⟨a,xs,Ap (by rw[<-S.len];exact hl),g2,g3⟩
  rcases set_some q with⟨_,z,_⟩|⟨n2,q⟩
  . cases z
  obtain⟨b,xs,g1,g2⟩:=S.own k pb dd q
  exact⟨b,xs,by rw[Ac n1];exact g1,g2⟩
 trk:=S.trk
 yo:=S.yo
 tk:=S.tk
 rt:=S.rt
 inj:=λk k' pb pb' dd dd' b q1 q2 v1 v2=>by
  have get:∀{k:Nat} {pb:Bool} {dd:List D},((σ.set j .dead).set i (.own pa ds))[k]? = some (.own pb dd)->(σV.set i (some (.ref a)))[k]? = some (some (.ref b))->(k=i/\b=a)\/(k≠i/\k≠j/\σ[k]? = some (.own pb dd)/\σV[k]? = some (some (.ref b))):=λ{k pb dd} q v=>by
   rcases set_some q with⟨rfl,z,hl⟩|⟨n1,q⟩
   . rw[Ay] at hl
     rw[Ap (by rw[<-S.len];exact hl)] at v
     cases v
     exact .inl ⟨rfl,rfl⟩
   rcases set_some q with⟨_,z,_⟩|⟨n2,q⟩
   . cases z
   rw[Ac n1] at v
   exact .inr ⟨Cz n1,Cz n2,q,v⟩
  rcases get q1 v1 with⟨e1,b1⟩|⟨n1,m1,o1,w1⟩
  . rcases get q2 v2 with⟨e2,_⟩|⟨n2,m2,o2,w2⟩
    . rw[e1,e2]
    . subst b1
      exact absurd (S.inj k' j _ _ _ _ b o2 e w2 ha) m2
  . rcases get q2 v2 with⟨e2,b2⟩|⟨n2,m2,o2,w2⟩
    . subst b2
      exact absurd (S.inj k j _ _ _ _ b o1 e w1 ha) m1
    . exact S.inj k k' _ _ _ _ b o1 o2 w1 w2
 len:=by rw[Ay,Ay,Ay];exact S.len
 lx:=S.lx.imp S.tk (λ_ _ r=>r) id (λk dd q=>by
  rcases set_some q with⟨_,z,_⟩|⟨n1,q⟩
  . cases z
  rcases set_some q with⟨_,z,_⟩|⟨n2,q⟩
  . cases z
  exact⟨q,Ac n1⟩) (λ_ _ _ _ _ _ e=>e) (λ_ _ e z _=>⟨e,z⟩) (λ_ _ r=>r) (λk dd q=>by
  rcases set_some q with⟨_,z,_⟩|⟨n1,q⟩
  . cases z
  rcases set_some q with⟨_,z,_⟩|⟨n2,q⟩
  . cases z
  exact⟨q,Ac n1⟩) (λ_ _ _ _ _ _ e=>e) (λp xs' e' z=>⟨e',z.1,z.2.1,λk pb dd q v=>by
  rcases set_some q with⟨rfl,w,hl⟩|⟨n1,q⟩
  . rw[Ap (by rw[<-S.len];simpa using hl)] at v
    cases v
    exact z.2.2 j _ _ e ha
  . rw[Ac n1] at v
    rcases set_some q with⟨_,w,_⟩|⟨n2,q⟩
    . cases w
    . exact z.2.2 k pb dd q v⟩) λ_ _ r=>r
theorem aJP{i j:Nat}{x y:Str}{p p2:BX}(M:Mc X P Γ n)(hx:aU Γ i x=true)(hy:aO Γ j y=true):PS X (.Assign [.Name x p] (.Name y p2) pos) (wS X RT Y old σ (ex P (call P n) σ (.mov i j))):=by
 unfold aU at hx
 obtain⟨h1,h2,h3⟩:=cS hx
 refine aZ (lL (i:=i) M.nd (by rw[M.N];exact eq_of_beq h1) (M.loc h2) (bU M hy) rfl (M.st x h2)) λD σV H t ⟨S,h⟩=>?_
 have h:OE X.K RT Y old H (match σ[j]? with
  | some (.own pa ds)=>if i=j then .bad else .next ((σ.set j .dead).set i (.own pa ds))
  | some (.sh pa d)=>.next (σ.set i (.sh (pa&&!noL d) d))
  | _=>.bad) D:=h
 cases e:σ[j]? with
 | none=>rw[e] at h;exact h.elim
 | some sl=>
  rw[e] at h
  cases sl with
  | dead=>exact h.elim
  | lent _=>exact h.elim
  | dp _=>exact h.elim
  | own pa ds=>
   by_cases hij:i=j
   . have h:OE X.K RT Y old H (if i=j then .bad else .next ((σ.set j .dead).set i (.own pa ds))) D:=h
     rw[if_pos hij] at h;exact h.elim
   . have h:OE X.K RT Y old H (if i=j then .bad else .next ((σ.set j .dead).set i (.own pa ds))) D:=h
     rw[if_neg hij] at h
     obtain⟨a,xs,g1,g2⟩:=S.own j pa ds e
     exact⟨.ref a,g1,λ_=>(show cJ X.K RT Y old H _ D.nx from h) RT _ H (Kp.refl RT H) aP (S.move e hij g1)⟩
  | sh pa d=>
   obtain⟨v,g1,g2⟩:=S.sh j pa d e
   refine⟨v,g1,λ_=>(show cJ X.K RT Y old H (σ.set i (.sh (pa&&!noL d) d)) D.nx from h) RT _ H (Kp.refl RT H) aP (S.setSh ?_)⟩
   cases hn:noL d with
   | true=>exact Rep.free d v hn g2
   | false=>rw[Gg,BV];exact g2
theorem qY{t:T}{b:Ss}{xs:List Vl×List Nat}{σV:L2.St}{H H1:Hp}{J:L2.It}{D:Ends}(S1:Sx X.K RT Y old σ σV H1)(k1:Kp RT H H1)(ok:pY X.K RT Y old σ σV H1 J xs.1 xs.2)
 (hx:OE X.K RT Y old H (cN (λσ x=>O.from σ (bJ σ x t) λσ'=>exs P (call P n) σ' b) xs.1 (freeze σ xs.2)) D) :
 ∃W:Nat->Nat->L2.St->Hp->Prop,(∃m,W 0 m σV H1)/\∀i m σ H,W i m σ H ->
  (J.stop i H/\D.nx σ H)\/(J.go i H/\∃N:L2.St->Hp->Prop,(∀σ' H',N σ' H'->∃m',m'<m/\W (i+1) m' σ' H')/\∀x H',J.yld i H x H'->gT X.K t x σ H' λσ2 H2=>∃RT σ,wS X RT Y old σ (exs P (call P n) σ b) { D with nx:=N,ct:=N,bk:=D.nx } σ2 H2):=by
 let f:Sg->Vl->O:=λσ x=>O.from σ (bJ σ x t) λσ'=>exs P (call P n) σ' b
 have hx:OE X.K RT Y old H (cN f xs.1 (freeze σ xs.2)) D:=hx
 have Sf:=S1.frz xs.2
 refine⟨λi m σ1V Hc=>m=xs.1.length-i/\i<=xs.1.length/\∃RT1 σ1,Kp (rtF RT σ σV xs.2) H1 Hc/\(∀b,RT1 b->rtF RT σ σV xs.2 b\/H1 b=none)/\Sx X.K RT1 Y old σ1 σ1V Hc/\OE X.K RT1 Y old Hc (cN f (xs.1.drop i) σ1) D,
  ⟨_,rfl,BD _,rtF RT σ σV xs.2,freeze σ xs.2,Kp.refl _ _,aP,Sf,OE.mono k1 (λb z=>.inl z.1) hx⟩,?_⟩
 rintro i m σ1V Hc ⟨hm,hi,RT1,σ1,kp,hsub,Sc,ho⟩
 have okc:=ok.ok (rtF RT σ σV xs.2) (λ_ z=>z) i Hc kp
 by_cases hlt:i<xs.1.length
 . refine .inr ⟨okc.1 hlt,λσ' H'=>xs.1.length-(i+1)=xs.1.length-(i+1)/\i+1<=xs.1.length/\∃RT1 σ1,Kp (rtF RT σ σV xs.2) H1 H'/\(∀b,RT1 b->rtF RT σ σV xs.2 b\/H1 b=none)/\Sx X.K RT1 Y old σ1 σ' H'/\OE X.K RT1 Y old H' (cN f (xs.1.drop (i+1)) σ1) D,
    λσ' H' hN=>⟨_,by omega,hN⟩,λx H' hy=>?_⟩
   have hxi:xs.1[i]? = some xs.1[i]:=Am hlt
   obtain⟨sm,tkf,rv⟩:=okc.2.2 x H' hy xs.1[i] hxi
   have hmem:xs.1[i]∈xs.1:=A9 hlt
   rw[Bs hlt] at ho
   have Sc':=Sc.grow sm (tkf Sc.tk)
   have rep:Rep X.K H' (λa=>RT1 a\/exB Y old xs.1[i].pa a) xs.1[i].d x:=rv.weak λa z=>by
    rcases z with z|z
    . rcases hsub a z with q|q
      . exact .inl (.inl ⟨q.1,λw=>q.2 (w.mono (ok.sub _ hmem))⟩)
      . exact .inr ⟨q,Sc.tk a (by obtain⟨zs,hz⟩:=Sc.rt a z;rw[hz];simp)⟩
    . exact .inl (.inr z)
   have ho:OE X.K RT1 Y old Hc (match f σ1 xs.1[i] with
    | .next σ'=>cN f (xs.1.drop (i+1)) σ'
    | .cnt σ'=>cN f (xs.1.drop (i+1)) σ'
    | .brk σ'=>.next σ'
    | o=>o) D:=ho
   cases hset:bJ σ1 xs.1[i] t with
   | exc e=>rw[show f σ1 xs.1[i]=.exc e σ1 by show O.from σ1 (bJ σ1 xs.1[i] t) _=_;rw[hset];rfl] at ho;exact ho.elim
   | bad=>rw[show f σ1 xs.1[i]=.bad by show O.from σ1 (bJ σ1 xs.1[i] t) _=_;rw[hset];rfl] at ho;exact ho.elim
   | ok σ2=>
    rw[show f σ1 xs.1[i]=exs P (call P n) σ2 b by show O.from σ1 (bJ σ1 xs.1[i] t) _=_;rw[hset];rfl] at ho
    refine vC Sc' (ok.nofr _ hmem) rep hset λσ2V S2 _=>⟨RT1,σ2,S2,?_⟩
    have kS:Kp RT1 Hc H':=Kp.same sm
    have again:∀{σ':Sg} {RT':Addr->Prop} {σV':L2.St} {H'':Hp},Kp RT1 H' H''->(∀b,RT' b->RT1 b\/H' b=none)->Sx X.K RT' Y old σ' σV' H''->OE X.K RT1 Y old Hc (cN f (xs.1.drop (i+1)) σ') D ->
     (xs.1.length-(i+1)=xs.1.length-(i+1)/\i+1<=xs.1.length/\∃RT1 σ1,Kp (rtF RT σ σV xs.2) H1 H''/\(∀b,RT1 b->rtF RT σ σV xs.2 b\/H1 b=none)/\Sx X.K RT1 Y old σ1 σV' H''/\OE X.K RT1 Y old H'' (cN f (xs.1.drop (i+1)) σ1) D):=λ{σ' RT' σV' H''} k2 s2 S3 h3=>by
     have k3:Kp RT1 Hc H'':=kS.chain aP k2
     have s3:∀b,RT' b->RT1 b\/Hc b=none:=eR kS aP s2
     exact⟨rfl,hlt,RT',σ',kp.chain hsub k3,eR kp hsub s3,S3,OE.mono k3 s3 h3⟩
    cases q:exs P (call P n) σ2 b with
    | next σ'=>rw[q] at ho;exact λRT' σV' H'' k2 s2 S3=>again k2 s2 S3 ho
    | cnt σ'=>rw[q] at ho;exact λRT' σV' H'' k2 s2 S3=>again k2 s2 S3 ho
    | brk σ'=>rw[q] at ho;exact cJ.mono kS aP (show cJ X.K RT1 Y old Hc σ' D.nx from ho)
    | ret v=>rw[q] at ho;exact OE.mono (o:=.ret v) kS aP ho
    | exc e σ'=>rw[q] at ho;exact ho.elim
    | bad=>rw[q] at ho;exact ho.elim
 . have hie:i=xs.1.length:=by omega
   subst hie
   rw[Bl] at ho
   exact .inl ⟨okc.2.1 (Aj _),(show cJ X.K RT1 Y old Hc σ1 D.nx from ho) RT1 σ1V Hc (Kp.refl _ _) aP Sc⟩
theorem aJQ{t:T}{it:Hp.It}{b:Ss}{tg iter:Ah}{body:List Br}(M:Mc X P Γ n)(hx:iB Γ t tg=true)(hi:PI X tg iter (wI X P n RT Y old σ it))(hb:∀RT σ,PSs X body (wS X RT Y old σ (exs P (call P n) σ b)))(hs:∀x,B4 iter X.env x=pure x) :
 PS X (.For tg iter body [] pos) (wS X RT Y old σ (ex P (call P n) σ (.for t it b))):=by
 have hp:Dk (A3 X.prog X.w) X.A X.env X.xe:=by rw[M.xe];exact CB
 refine aZ (rP hp M.calm hi (xX M hx) (iQ hb) hs) λD0 σV H t0 ⟨S,h⟩=>?_
 have h:=OE.tkE h
 revert h
 generalize tkE X.K D0=D
 intro h
 let f:Sg->Vl->O:=λσ x=>O.from σ (bJ σ x t) λσ'=>exs P (call P n) σ' b
 have h:=OE.from (show OE X.K RT Y old H (O.from σ (walk P (call P n) σ it) λxs=>cN f xs.1 (freeze σ xs.2)) D from h)
 exact⟨S,h.mono λxs hx J H1 t1 s1 ok=>qY (S.grow s1 t1) (Kp.same s1) ok hx⟩
theorem aJR{c:E}{b:Ss}{e:Ah}{body:List Br}(M:Mc X P Γ n)(hc:∀RT σ,PT X e (WT X P n RT Y old σ c))(hb:∀RT σ,PSs X body (wS X RT Y old σ (exs P (call P n) σ b))):PS X (.While e body [] pos) (wS X RT Y old σ (ex P (call P n) σ (.whl c b))):=by
 have hp:Dk (A3 X.prog X.w) X.A X.env X.xe:=by rw[M.xe];exact CB
 refine aZ (aBJ hp (tc:=λσV H Q=>∃RT σ,WT X P n RT Y old σ c σV H Q) (λpins s σV H Q I ⟨RT,σ,hw⟩=>hc RT σ pins s σV H Q I hw) (iQ hb)) λD0 σV H t0 ⟨S,h⟩=>?_
 have h:=OE.tkE h
 revert h
 generalize tkE X.K D0=D
 intro h
 have h:OE X.K RT Y old H (hJ (λσ=>tst P (call P n) σ c) (λσ=>exs P (call P n) σ b) zL σ) D:=h
 refine⟨λm σ1V Hc=>∃RT1 σ1,Sx X.K RT1 Y old σ1 σ1V Hc/\OE X.K RT1 Y old Hc (hJ (λσ=>tst P (call P n) σ c) (λσ=>exs P (call P n) σ b) m σ1) D,⟨zL,RT,σ,S,h⟩,?_⟩
 rintro m σ1V Hc ⟨RT1,σ1,Sc,ho⟩
 cases m with
 | zero=>exact ho.elim
 | succ m=>
  have ho:=OE.from (show OE X.K RT1 Y old Hc (O.from σ1 (tst P (call P n) σ1 c) λk=>if k=true then (match exs P (call P n) σ1 b with
   | .next σ'=>hJ (λσ=>tst P (call P n) σ c) (λσ=>exs P (call P n) σ b) m σ'
   | .cnt σ'=>hJ (λσ=>tst P (call P n) σ c) (λσ=>exs P (call P n) σ b) m σ'
   | .brk σ'=>.next σ'
   | o=>o) else .next σ1) D from ho)
  refine⟨RT1,σ1,Sc,ho.mono λk hk H1 t1 s1=>?_⟩
  have S1:=Sc.grow s1 t1
  have kS:Kp RT1 Hc H1:=Kp.same s1
  cases k with
  | false=>
   rw[if_neg bN] at hk
   exact aGm ((show cJ X.K RT1 Y old Hc σ1 D.nx from hk) RT1 σ1V H1 kS aP S1)
  | true=>
   rw[if_pos rfl] at hk
   refine aIN ⟨λσV' H'=>∃RT1 σ1,Sx X.K RT1 Y old σ1 σV' H'/\OE X.K RT1 Y old H' (hJ (λσ=>tst P (call P n) σ c) (λσ=>exs P (call P n) σ b) m σ1) D,λσ' H' hN=>⟨m,Bk m,hN⟩,RT1,σ1,S1,?_⟩
   cases q:exs P (call P n) σ1 b with
   | next σ'=>rw[q] at hk;exact λRT' σV' H'' k2 s2 S3=>⟨RT',σ',S3,OE.mono (kS.chain aP k2) (eR kS aP s2) hk⟩
   | cnt σ'=>rw[q] at hk;exact λRT' σV' H'' k2 s2 S3=>⟨RT',σ',S3,OE.mono (kS.chain aP k2) (eR kS aP s2) hk⟩
   | brk σ'=>rw[q] at hk;exact cJ.mono kS aP (show cJ X.K RT1 Y old Hc σ' D.nx from hk)
   | ret v=>rw[q] at hk;exact OE.mono (o:=.ret v) kS aP hk
   | exc e σ'=>rw[q] at hk;exact hk.elim
   | bad=>rw[q] at hk;exact hk.elim
end
section
variable {X:Cx} {P:Pg} {Γ:Ct} {n:Nat} {RT Y old:Addr->Prop} {σ:Sg} {pos:BX}
end
section
variable {X:Cx} {P:Pg} {Γ:Ct} {n:Nat} {RT Y old:Addr->Prop} {σ:Sg} {pos:BX} {l:Nat} {σV:L2.St} {H H1 H2 H':Hp} {K:Fg}
def KpL(RT:Addr->Prop)(σV:L2.St)(l:Nat)(H H':Hp):Prop:=Kp (λb=>σV[l]? = some (some (.ref b))/\RT b) H H'
theorem KpL.kp(h:KpL RT σV l H H'):Kp RT H H':=λa o e nn=>h a o e λz=>nn z.2
theorem KpL.trans(a:KpL RT σV l H H1)(b:KpL RT σV l H1 H2):KpL RT σV l H H2:=Kp.trans a b
theorem KpL.same(s:aL H H'):KpL RT σV l H H':=Kp.same s
theorem Sx.free(S:Sx K RT Y old σ σV H1)(k:Kp RT H H1){a:Addr}(h:H1 a=none):H a=none:=by
 cases e:H a with
 | none=>rfl
 | some o=>
  by_cases hr:RT a
  . exact by obtain⟨zs,hz⟩:=S.rt a hr;rw[h] at hz;cases hz
  . rw[k a o e hr] at h;cases h
def RvL(K:Fg)(RT Y old:Addr->Prop)(H:Hp)(v:Vl)(u:V):Prop:=Rep K H (λb=>RT b\/exB Y old v.pa b) v.d u
theorem RvL.go{v:Vl}{u:V}(h:RvL K RT Y old H v u)(S:Sx K RT Y old σ σV H)(k:Kp RT H H'):RvL K RT Y old H' v u:=Rep.kp h k S.rt λb z=>.inl z
theorem RvL.nr{v:Vl}{u:V}(h:RvL K RT Y old H v u):Rv K RT Y old σ σV H v.nr u:=Rep.weak h λb z=>z.imp (·.1) id
def eX(K:Fg)(RT Y old:Addr->Prop)(H:Hp):List Vl->List V->Prop
 | [],us=>us=[]
 | v::vs,us=>∃u r,us=u::r/\RvL K RT Y old H v u/\eX K RT Y old H vs r
theorem eX.length:∀{vs:List Vl} {us:List V},eX K RT Y old H vs us->vs.length=us.length
 | [],_,h=>by rw[show _=[] from h];rfl
 | v::vs,_,h=>by
  obtain⟨u,r,e,_,h2⟩:=h
  subst e
  rw[lC,lC,eX.length h2]
theorem exB.mono{pa pb:Bool}{b:Addr}(h:exB Y old pb b)(hp:pa=true->pb=true):exB Y old pa b:=h.imp_right λz=>⟨by
 cases pa with
 | false=>rfl
 | true=>rw[hp rfl] at z;exact z.1,z.2⟩
theorem eX.reps:∀{vs:List Vl} {us:List V} {pa:Bool},eX K RT Y old H vs us->(∀v∈vs,v.pa=true->pa=true)->Reps K H (λb=>RT b\/exB Y old pa b) (vs.map (·.d)) us
 | [],_,_,h,_=>h
 | v::vs,_,_,h,q=>by
  obtain⟨u,r,e,h1,h2⟩:=h
  exact⟨u,r,e,Rep.weak h1 λb z=>z.imp id λz=>z.mono (q v Aq),eX.reps h2 λw hw=>q w (Ag _ hw)⟩
structure RoL (K:Fg) (RT Y old:Addr->Prop) (σ':Sg) (σV:L2.St) (l:Nat) (H H':Hp) (v:Vl) (u:V):Prop where
 sx:Sx K RT Y old σ' σV H'
 kp:KpL RT σV l H H'
 fr:v.fr=true->∃a xs ds,u=.ref a/\v.d=.lst ds/\H a=none/\H' a=some (.lst xs)/\Sx K (λb=>RT b\/b=a) Y old σ' σV H'/\Reps K H' (λb=>(RT b\/b=a)\/exB Y old v.pa b) ds xs
 rv:RvL K RT Y old H' v u
theorem RoL.from{v:Vl}{u:V}{σ':Sg}(h:RoL K RT Y old σ' σV l H1 H' v u)(S:Sx K RT Y old σ σV H1)(k:KpL RT σV l H H1):RoL K RT Y old σ' σV l H H' v u:=
 ⟨h.sx,k.trans h.kp,λhf=>let ⟨a,xs,ds,e1,e2,e3,q⟩:=h.fr hf;⟨a,xs,ds,e1,e2,S.free k.kp e3,q⟩,h.rv⟩
theorem Sx.addR(S:Sx K RT Y old σ σV H)(s:aL H H')(t:Tk K H'){a:Addr}{xs:List V}(hn:H a=none)(ha:H' a=some (.lst xs)):Sx K (λb=>RT b\/b=a) Y old σ σV H':=by
 have hk:=t a (by rw[ha];simp)
 have w:∀{pa:Bool} b,(RT b\/b=a)\/exB Y old pa b->b=a\/RT b\/exB Y old pa b:=λ{pa} b z=>by
  rcases z with(z|z)|z
  . exact .inr (.inl z)
  . exact .inl z
  . exact .inr (.inr z)
 exact {
  sh:=λj pa d e=>let ⟨v,h1,h2⟩:=S.sh j pa d e;⟨v,h1,((h2.out hn hk).grow s).weak w⟩
  own:=λj pa ds e=>let ⟨b,ys,h1,h2,h3,h4,h5⟩:=S.own j pa ds e;⟨b,ys,h1,s _ _ h2,.inl h3,h4,((h5.out hn hk).grow s).weak w⟩
  trk:=λb z q=>by
   rcases z with(z|z)|z
   . exact S.trk b (.inl z) (s.free q)
   . rw[z,ha] at q;cases q
   . exact S.trk b (.inr z) (s.free q)
  yo:=S.yo
  tk:=t
  rt:=λb z=>by
   rcases z with z|z
   . obtain⟨ys,e⟩:=S.rt b z
     exact⟨ys,s _ _ e⟩
   . rw[z];exact⟨xs,ha⟩
  inj:=S.inj
  len:=S.len
  lx:=S.lx.imp S.tk (λ_ _ r=>s _ _ r) id (λ_ _ e=>⟨e,rfl⟩) (λ_ _ _ _ _ _ e=>e) (λ_ _ e z _=>⟨s _ _ e,.inl z⟩) (λ_ _ r=>((r.out hn hk).grow s).weak w) (λ_ _ e=>⟨e,rfl⟩) (λ_ _ _ _ _ _ e=>e) (λp xs e z=>⟨s _ _ e,.inl z.1,z.2⟩) λ_ _ r=>aL.seqT s r }
theorem Sx.putOwn{a:Addr}(S0:Sx K RT Y old σ σV H)(S:Sx K (λb=>RT b\/b=a) Y old σ σV H){i:Nat}{pa:Bool}{ds:List D}{xs:List V}(hn:¬ RT a)(ho:¬ old a)(ha:H a=some (.lst xs))(r:Reps K H (λb=>(RT b\/b=a)\/exB Y old pa b) ds xs) :
 Sx K (λb=>RT b\/b=a) Y old (σ.set i (.own pa ds)) (σV.set i (some (.ref a))) H where
 sh:=λj pa' d' e=>by
  rcases set_some e with⟨rfl,e,hl⟩|⟨hij,e⟩
  . cases e
  . obtain⟨v,h1,h2⟩:=S.sh j pa' d' e
    exact⟨v,by rw[Ac hij];exact h1,h2⟩
 own:=λj pa' ds' e=>by
  rcases set_some e with⟨rfl,e,hl⟩|⟨hij,e⟩
  . cases e
    exact⟨a,xs,Ap (by rw[<-S.len];exact hl),ha,.inr rfl,ho,r⟩
  . obtain⟨b,ys,h1,h2⟩:=S.own j pa' ds' e
    exact⟨b,ys,by rw[Ac hij];exact h1,h2⟩
 trk:=S.trk
 yo:=S.yo
 tk:=S.tk
 rt:=S.rt
 inj:=λj j' pa' pa'' ds1 ds2 c e1 e2 e3 e4=>by
  have fr:∀{j:Nat} {pa:Bool} {ds:List D},σ[j]? = some (.own pa ds)->σV[j]? = some (some (.ref a))->False:=λ{j pa ds} e q=>by
   obtain⟨a',xs',h1,h2,h3,_⟩:=S0.own j pa ds e
   rw[q] at h1
   cases h1
   exact hn h3
  rcases set_some e1 with⟨rfl,e,hl⟩|⟨n1,e1⟩
  . rcases set_some e2 with⟨rfl,_,_⟩|⟨n2,e2⟩
    . rfl
    . rw[Ap (by rw[<-S.len];exact hl)] at e3
      cases e3
      rw[Ac n2] at e4
      exact(fr e2 e4).elim
  . rw[Ac n1] at e3
    rcases set_some e2 with⟨rfl,e,hl⟩|⟨n2,e2⟩
    . rw[Ap (by rw[<-S.len];exact hl)] at e4
      cases e4
      exact(fr e1 e3).elim
    . rw[Ac n2] at e4
      exact S.inj j j' pa' pa'' ds1 ds2 c e1 e2 e3 e4
 len:=by rw[Ay,Ay];exact S.len
 lx:={
  at':=λj ds e=>by
   rcases set_some e with⟨_,z,_⟩|⟨hij,e⟩
   . cases z
   . rw[Ac hij];exact S.lx.at' j ds e
  inj:=λj j' ds ds' b e1 e2=>by
   rcases set_some e1 with⟨_,z,_⟩|⟨h1,e1⟩
   . cases z
   rcases set_some e2 with⟨_,z,_⟩|⟨h2,e2⟩
   . cases z
   rw[Ac h1,Ac h2]
   exact S.lx.inj j j' ds ds' b e1 e2
  dp:=S0.lx.dpi S0.tk (λ_ _ w=>w) id (λj o e=>by
   rcases set_some e with⟨_,z,_⟩|⟨hij,e⟩
   . cases z
   . exact⟨e,Ac hij⟩) (λ_ _ _ _ _ _ w=>w) (λp xs w z=>⟨w,.inl z.1,z.2.1,λk pa' ds' q v=>by
     rcases set_some q with⟨rfl,_,hl⟩|⟨hik,q⟩
     . rw[Ap (by rw[<-S.len];exact hl)] at v
       cases v
       exact hn z.1
     . rw[Ac hik] at v
       exact z.2.2 k pa' ds' q v⟩) λ_ _ w=>w }
theorem isEmpty_nil{al:List Nat}(h:al.isEmpty=true):al=[]:=by
 cases al with
 | nil=>rfl
 | cons _ _=>cases h
theorem sO{x:Vl}{u:V}(S:Sx K RT Y old σ σV H)(t:Tk K H1)(hal:x.al=[])(r:Ro K RT Y old σ σV H H1 x u):RoL K RT Y old σ σV l H H1 x u where
 sx:=S.grow r.1 t
 kp:=KpL.same r.1
 fr:=λhf=>by
  have q:=r.2
  rw[if_pos hf] at q
  obtain⟨a,xs,ds,e1,e2,e3,e4,rr⟩:=q
  refine⟨a,xs,ds,e1,e2,e3.1,e4,S.addR r.1 t e3.1 e4,rr.weak λb z=>?_⟩
  rcases z with(z|z)|z
  . refine .inr (.inl ⟨z,λ⟨j,hj,_⟩=>?_⟩)
    rw[hal] at hj
    cases hj
  . exact .inl z
  . exact .inr (.inr z)
 rv:=Rep.weak (r.rv S) λb z=>by
  rcases z with z|z
  . refine .inl ⟨z,λ⟨j,hj,_⟩=>?_⟩
    rw[hal] at hj
    cases hj
  . exact .inr z
theorem RE.noAl{v:Vl}{σ:Sg}{p:Vl×Sg->Prop}(h:RE (noAl v σ) p):v.al=[]/\p (v,σ):=by
 unfold Hp.noAl at h
 split at h
 . rename_i q;exact⟨isEmpty_nil q,h⟩
 . exact h.elim
def WL(X:Cx)(P:Pg)(n:Nat)(RT Y old:Addr->Prop)(l:Nat)(σ:Sg)(c:EL):TE:=λσV H Q=>Sx X.K RT Y old σ σV H/\RE (evl P (call P n) l σ c) λr=>∀u H',Tk X.K H'->RoL X.K RT Y old r.2 σV l H H' r.1 u->Q u H'
def WLs(X:Cx)(P:Pg)(n:Nat)(RT Y old:Addr->Prop)(l:Nat)(σ:Sg)(cs:ELs):TA:=λσV H Q=>Sx X.K RT Y old σ σV H/\RE (evls' P (call P n) l σ cs) λr=>∀us H',Tk X.K H'->Sx X.K RT Y old r.2 σV H'->KpL RT σV l H H'->eX X.K RT Y old H' r.1 us->Q us H'
theorem lV{ι:Type}{e:Ah}{t:ι->TE}(h:∀i,PE X e (t i)):PE X e (λσV H Q=>∃i,t i σV H Q):=λpins s σV H Q I ⟨i,hw⟩=>h i pins s σV H Q I hw
theorem aGZ{ι:Type}{es:List Ah}{t:ι->TA}(h:∀i,PA X es (t i)):PA X es (λσV H Q=>∃i,t i σV H Q):=λpos pins s σV H Q I ⟨i,hw⟩=>h i pos pins s σV H Q I hw
theorem l_e{a:E}{e:Ah}(ha:PE X e (WE X P n RT Y old σ a)):PE X e (WL X P n RT Y old l σ (.e a)):=ha.imp λσV H Q t ⟨S,h⟩=>by
 have h:=RE.bind' (show RE (ev P (call P n) σ a >>= λx=>noAl x σ) _ from h)
 refine wE.one S h λx u H1 hx t1 S1 r1 t'=>?_
 obtain⟨hal,hx⟩:=RE.noAl hx
 exact hx u H1 t' (sO S t1 hal r1)
theorem aLE{o:Operator}{a b:EL}{ea eb:Ah}(ha:PE X ea (WL X P n RT Y old l σ a))(hb:∀σ,PE X eb (WL X P n RT Y old l σ b)):PE X (.BinOp ea o eb pos) (WL X P n RT Y old l σ (.op o a b)):=by
 intro pins s σV H Q I hw
 obtain⟨S,h⟩:=hw
 have h:=RE.bind' (show RE (evl P (call P n) l σ a >>= λx=>evl P (call P n) l x.2 b >>= λy=>opD o x.1.nr y.1.nr >>= λz=>noAl z y.2) _ from h)
 refine GV (thn (ha pins s σV H (λux H1=>∃x,RoL X.K RT Y old x.2 σV l H H1 x.1 ux/\RE (evl P (call P n) l x.2 b) λy=>RE (opD o x.1.nr y.1.nr >>= λz=>noAl z y.2) λr=>∀u H',Tk X.K H'->RoL X.K RT Y old r.2 σV l H H' r.1 u->Q u H') I
  ⟨S,h.mono λx hx u H1 t1 r1=>⟨x,r1,RE.bind' hx⟩⟩) λv s1 ⟨x',H1,I1,rx,x,r1,hx⟩=>thn (hb x.2 pins s1 σV H1 (λuy H2=>∃y,RoL X.K RT Y old y.2 σV l H1 H2 y.1 uy/\RE (opD o x.1.nr y.1.nr >>= λz=>noAl z y.2) λr=>∀u H',Tk X.K H'->RoL X.K RT Y old r.2 σV l H H' r.1 u->Q u H') I1
  ⟨r1.sx,hx.mono λy hy u H2 t2 r2=>⟨y,r2,hy⟩⟩) λu s2 ⟨y',H2,I2,ry,y,r2,hy⟩=>?_)
 refine uN I2 r2.sx rx ry (x:=x.1.nr) (y:=y.1.nr) (r1.rv.go r1.sx r2.kp.kp).nr r2.rv.nr (λz=>by cases z) ((RE.bind' hy).mono λz hz u H' t r=>?_)
 obtain⟨hal,hz⟩:=RE.noAl hz
 exact hz u H' t ((sO r2.sx t hal r).from r2.sx (r1.kp.trans r2.kp))
theorem aJS{a b:EL}{ea eb:Ah}(ha:PE X ea (WL X P n RT Y old l σ a))(hb:∀σ,PE X eb (WL X P n RT Y old l σ b))(hp:aK eb=true):PE X (.Subscript ea eb pos) (WL X P n RT Y old l σ (.idx a b)):=by
 refine(qM xI ha (lV hb) (dP hp)).imp λσV H Q t ⟨S,h⟩=>?_
 have h:=RE.bind' (show RE (evl P (call P n) l σ a >>= λx=>evl P (call P n) l x.2 b >>= λy=>cG x.1.nr y.1.nr >>= λz=>noAl z y.2) _ from h)
 refine⟨S,h.mono λx hx u H1 t1 r1=>⟨x.2,r1.sx,(RE.bind' hx).mono λy hy uy H2 t2 r2=>?_⟩⟩
 refine qU (σ:=y.2) (σV:=σV) (RT:=RT) (Y:=Y) (old:=old) t2 (x:=x.1.nr) (y:=y.1.nr) (r1.rv.go r1.sx r2.kp.kp).nr r2.rv.nr ((RE.bind' hy).mono λz hz u H' t r=>?_)
 obtain⟨hal,hz⟩:=RE.noAl hz
 exact hz u H' t ((sO r2.sx t hal r).from r2.sx (r1.kp.trans r2.kp))
theorem aJT:PA X [] (WLs X P n RT Y old l σ .nil):=dO.imp λσV H Q t ⟨S,h⟩ t'=>
 (show ∀us H',Tk X.K H'->Sx X.K RT Y old σ σV H'->KpL RT σV l H H'->eX X.K RT Y old H' [] us->Q us H' from h) [] H t' S (KpL.same (aL.refl H)) rfl
theorem aHa{c:EL}{cs:ELs}{e:Ah}{es:List Ah}(ha:PE X e (WL X P n RT Y old l σ c))(hr:∀σ,PA X es (WLs X P n RT Y old l σ cs))(hp:aK e=true):PA X (e::es) (WLs X P n RT Y old l σ (.cons c cs)):=by
 refine(bX ha (aGZ hr) (aA hp)).imp λσV H Q t ⟨S,h⟩=>?_
 have h:=RE.bind' (show RE (evl P (call P n) l σ c >>= λx=>evls' P (call P n) l x.2 cs >>= λr=>R.ok (x.1::r.1,r.2)) _ from h)
 refine⟨S,h.mono λx hx u H1 t1 r1=>⟨x.2,r1.sx,(RE.bind' hx).mono λr hr us H2 t2 S2 k2 rs t'=>?_⟩⟩
 exact(show ∀us H',Tk X.K H'->Sx X.K RT Y old r.2 σV H'->KpL RT σV l H H'->eX X.K RT Y old H' (x.1::r.1) us->Q us H' from hr) (u::us) H2 t' S2 (r1.kp.trans k2) ⟨u,us,rfl,r1.rv.go r1.sx k2.kp,rs⟩
theorem qZ:∀{cs:ELs} {es:List Ah} {σ:Sg} {r:List Vl×Sg},chkELs Γ l cs es=true->evls' P (call P n) l σ cs=.ok r->r.1.length=es.length
 | .nil,[],σ,r,_,h=>by cases(show R.ok ([],σ)=R.ok r from h);rfl
 | .nil,_::_,_,_,h,_=>by cases h
 | .cons _ _,[],_,_,h,_=>by cases h
 | .cons c cs,e::es,σ,r,hc,h=>by
  simp only[chkELs,bA] at hc
  obtain⟨x,_,h⟩:=R.bind_ok (show(evl P (call P n) l σ c >>= λx=>evls' P (call P n) l x.2 cs >>= λr=>R.ok (x.1::r.1,r.2))=R.ok r from h)
  obtain⟨q,e2,h⟩:=R.bind_ok h
  cases(show R.ok (x.1::q.1,q.2)=R.ok r from h)
  rw[lC,lC,qZ hc.2 e2]
theorem aJU{cs:ELs}{es:List Ah}{k:Nat}(ha:PA X es (WLs X P n RT Y old l σ cs))(hc:chkELs Γ l cs es=true)(hl:es.length<=1000):PE X (.Tuple es k pos) (WL X P n RT Y old l σ (.tup cs)):=by
 refine(aBP ha).imp λσV H Q t ⟨S,h⟩=>?_
 obtain⟨r,e,hv⟩:=(RE.bind' (show RE (evls' P (call P n) l σ cs >>= λr=>R.ok ((⟨.tup (r.1.map (·.d)),false,aT r.1,[]⟩:Vl),r.2)) _ from h)).eq
 refine⟨S,?_⟩
 rw[e]
 intro us H1 t1 S1 k1 rs
 have hn:us.length<=sizeLine:=by rw[<-rs.length,qZ hc e,B1];omega
 refine⟨hn,λp hp t'=>(show ∀u H',Tk X.K H'->RoL X.K RT Y old r.2 σV l H H' (⟨.tup (r.1.map (·.d)),false,aT r.1,[]⟩:Vl) u->Q u H' from hv) _ _ t' ⟨S1.grow (aL.new hp) t',k1.trans (KpL.same (aL.new hp)),(λz=>by cases z),?_⟩⟩
 exact⟨p,us,rfl,SqT.of aW,(rs.reps λv hv z=>fQ hv z).grow (aL.new hp)⟩
theorem aEu{σ':Sg}{vs:List Vl}{us:List V}{p:Addr}(S:Sx K RT Y old σ σV H)(S1:Sx K RT Y old σ' σV H1)(k1:KpL RT σV l H H1)(rs:eX K RT Y old H1 vs us)(hp:H1 p=none)(t':Tk K (upd H1 p (.lst us))):RoL K RT Y old σ' σV l H (upd H1 p (.lst us)) ⟨.lst (vs.map (·.d)),true,aT vs,[]⟩ (.ref p):=by
 have sn:aL H1 (upd H1 p (.lst us)):=aL.new hp
 have hk:=t' p (by rw[aW];simp)
 have rr:Reps K (upd H1 p (.lst us)) (λb=>(RT b\/b=p)\/exB Y old (aT vs) b) (vs.map (·.d)) us:=(((rs.reps (pa:=aT vs) λv hv z=>fQ hv z).out hp hk).grow sn).weak λb z=>by
  rcases z with(z|z)|z
  . exact .inr (.inl z)
  . exact .inl z
  . exact .inr (.inr z)
 refine⟨S1.grow sn t',k1.trans (KpL.same sn),λ_=>⟨p,us,_,rfl,rfl,S1.free k1.kp hp,aW,S1.addR sn t' hp aW,rr⟩,p,us,rfl,SqL.of aW,⟨λz=>?_,λ_=>aW⟩,rr.weak λb z=>z.imp .inl id⟩
 refine S1.trk p (z.imp id λz=>?_) hp hk
 rcases z with z|⟨_,z⟩
 . exact .inl z
 . exact .inr z
theorem nP{pa:Bool}{cs:List D}(S:Sx K RT Y old σ σV H)(h:bK σ l=some (pa,cs)):∃(lt:Bool) (p:Addr) (xs:List V),σ[l]? = some (fN lt pa cs)/\σV[l]? = some (some (.ref p))/\H p=some (.lst xs)/\RT p/\Reps K H (λb=>RT b\/exB Y old pa b) cs xs/\∀pa' cs',cB σ l pa' cs'=σ.set l (fN lt pa' cs'):=by
 unfold bK at h
 cases e:σ[l]? with
 | none=>rw[e] at h;cases h
 | some sl=>
  rw[e] at h
  cases sl with
  | own pa' ds'=>
   cases h
   obtain⟨p,xs,h1,h2,h3,h4,h5⟩:=S.own l pa cs e
   exact⟨false,p,xs,rfl,h1,h2,h3,h5,λpa' cs'=>by unfold cB;rw[e];rfl⟩
  | lent ds'=>
   cases h
   obtain⟨p,xs,h1,h2,h3,h4,h5⟩:=S.lx.at' l cs e
   exact⟨true,p,xs,rfl,h1,h2,h3,h5,λpa' cs'=>by unfold cB;rw[e];rfl⟩
  | _=>cases h
theorem aHb(M:Mc X P Γ n){f:Nat}{es:ELs}{g x:Str}{p p1:BX}{ys:List Ah}(hf:Γ.fns[f]? = some g)(hg:bZ Γ g=true)(ho:bD g=true)(hx:aO Γ l x=true)(ha:PA X ys (WLs X P n RT Y old l σ es))(hp:ys.all aK=true) :
 PE X (.Call (.Name g p) (.Name x p1::ys) [] pos) (WL X P n RT Y old l σ (.call f es)):=by
 obtain⟨fa,fd,ps,h1,h2,h3,h4⟩:=M.md.fn f g hf
 refine(gC h4 M.room (M.gl hg) h1 h2 h3 .nil mQ (bX (bU M hx) ha (aA rfl)) (aJ ho) (aA rfl) (bE hp)).imp λσV H Q t ⟨S,h⟩=>?_
 obtain⟨hc,h⟩:=(show RE (R.iff ((bK σ l).isSome&&mR P f) (evls' P (call P n) l σ es >>= λr=>(match bK r.2 l with
  | some (pa,cs)=>call P n f (.err 0 cs::r.1.map (·.d)) >>= λq=>gE r.2 l pa r.1 q
  | none=>.bad))) _ from h).iff
 rw[bA] at hc
 obtain⟨r,er,h⟩:=(RE.bind' h).eq
 obtain⟨⟨pa0,cs0⟩,e0⟩:=C4.mp hc.1
 obtain⟨_,q,_,_,hq,_⟩:=nP S e0
 refine⟨.ref q,hq,S,?_⟩
 rw[er]
 intro us H1 t1 S1 k1 rs
 cases e1:bK r.2 l with
 | none=>rw[e1] at h;exact h.elim
 | some pc=>
  obtain⟨pa,cs⟩:=pc
  rw[e1] at h
  obtain⟨rt,ec,h⟩:=(RE.bind' (show RE (call P n f (.err 0 cs::r.1.map (·.d)) >>= λq=>gE r.2 l pa r.1 q) _ from h)).eq
  obtain⟨lt,p',xs,g1,g2,g3,g4,g5,g6⟩:=nP S1 e1
  rw[hq] at g2
  cases g2
  have big:∀b,RT b\/exB Y old (pa||aT r.1) b->b=q\/(Od X.K H1 b/\b≠q/\(RT b\/exB Y old (pa||aT r.1) b)):=λb z=>by
   by_cases hb:b=q
   . exact .inl hb
   . refine .inr ⟨S1.trk b ?_,hb,z⟩
     rcases z with z|z|⟨_,z⟩
     . exact .inl z
     . exact .inr (.inl z)
     . exact .inr (.inr z)
  have sml:∀b,b=q\/(Od X.K H1 b/\b≠q/\(RT b\/exB Y old (pa||aT r.1) b))->RT b\/exB Y old (pa||aT r.1) b:=λb z=>z.elim (λz=>.inl (by rw[z];exact g4)) λz=>z.2.2
  refine .inr ⟨hc.2,cs,r.1.map (·.d),q,xs,us,λb=>Od X.K H1 b/\b≠q/\(RT b\/exB Y old (pa||aT r.1) b),by rw[Ax],λa z=>z.1,g3,g5.weak λb z=>(sml b z).imp id kG,
   (rs.reps (pa:=pa||aT r.1) λv hv z=>by rw[fQ hv z,Cm]).weak sml,?_⟩
  rw[ec]
  unfold gE at h
  cases eu:aCc rt.1 with
  | none=>rw[eu] at h;exact h.elim
  | some dc=>
   obtain⟨d,cs'⟩:=dc
   rw[eu] at h
   refine⟨d,cs',eu,λu H' R2 xs' t' kp hR hR2 hx' rr hv _=>?_⟩
   have h:∀u H',Tk X.K H'->RoL X.K RT Y old (cB r.2 l (pa||aT r.1) cs') σV l H H' (⟨d,rt.2.1,rt.2.2&&(pa||aT r.1),[]⟩:Vl) u->Q u H':=h
   rw[g6] at h
   have kL:KpL RT σV l H1 H':=λb o e z=>kp b o e λw=>z (by rw[w];exact⟨hq,g4⟩)
   have out:∀b,RT b\/exB Y old (rt.2.2&&(pa||aT r.1)) b->R2 b\/(Od X.K H1 b/\b≠q/\(RT b\/exB Y old (pa||aT r.1) b))\/(rt.2.2=false/\Od X.K H1 b):=λb z=>by
    cases hpa:rt.2.2 with
    | true=>
     rw[hpa,Gw] at z
     exact(big b z).elim (λw=>.inl (by rw[w];exact hR)) λw=>.inr (.inl w)
    | false=>
     rw[hpa,CI] at z
     rcases z with z|z
     . exact(big b (.inl z)).elim (λw=>.inl (by rw[w];exact hR)) λw=>.inr (.inl w)
     . refine .inr (.inr ⟨rfl,S1.trk b (.inr ?_)⟩)
       rcases z with z|⟨_,z⟩
       . exact .inl z
       . exact .inr z
   have exo:∀{b},exB Y old (lt||(pa||aT r.1)) b->exB Y old (pa||aT r.1) b:=λ{b} z=>z.mono λw=>by rw[w,Cm]
   have S0:Sx X.K RT Y old (r.2.set l (fN lt (pa||aT r.1) cs')) σV H':=by
    refine S1.mutH g1 hq (λ_ z=>z) (λ_ z=>.inl z) (λb z=>?_) t' kp hx' (rr.weak λb z=>?_)
    . by_cases hb:b=q
      . exact⟨xs',by rw[hb];exact hx'⟩
      . obtain⟨zs,hz⟩:=S1.rt b z
        exact⟨zs,kp b _ hz hb⟩
    . exact(big b (z.imp id exo)).imp (λw=>by rw[w];exact hR) id
   refine h u H' t' ⟨S0,k1.trans kL,λhf=>?_,?_⟩
   . have hf:rt.2.1=true:=hf
     rw[if_pos hf] at hv
     obtain⟨a,ys',es',v1,v2,v3,v4,v5,v6⟩:=hv
     refine⟨a,ys',es',v1,v2,S1.free k1.kp v3.1,v5,?_,v6.weak λb z=>?_⟩
     . refine S1.mutH g1 hq (λ_ z=>.inl z) (λb z=>z.imp id λz=>by rw[z];exact v3.1) (λb z=>?_) t' kp hx' (rr.weak λb z=>?_)
       . rcases z with z|z
         . exact S0.rt b z
         . rw[z];exact⟨ys',v5⟩
       . rcases z with(z|z)|z
         . exact(big b (.inl z)).imp (λw=>by rw[w];exact hR) id
         . exact .inl (by rw[z];exact v4)
         . exact(big b (.inr (exo z))).imp (λw=>by rw[w];exact hR) id
     . rcases z with(z|z)|z
       . exact out b (.inl z)
       . exact .inl (by rw[z];exact v4)
       . exact out b (.inr z)
   . by_cases hf:rt.2.1=true
     . rw[if_pos hf] at hv
       obtain⟨a,ys',es',v1,v2,v3,v4,v5,v6⟩:=hv
       show Rep X.K H' (λb=>RT b\/exB Y old (rt.2.2&&(pa||aT r.1)) b) d u
       rw[v1,v2]
       refine⟨a,ys',rfl,SqL.of v5,⟨λz=>?_,λ_=>v5⟩,v6.weak out⟩
       exact S1.trk a (z.imp id λz=>z.elim .inl λz=>.inr z.2) v3.1 v3.2
     . rw[if_neg hf] at hv
       exact Rep.weak hv out
theorem aEv(M:Mc X P Γ n){f:Nat}{es:ELs}{g:Str}{p:BX}{ys:List Ah}(hf:Γ.fns[f]? = some g)(hg:bZ Γ g=true)(ho:bD g=true)(hy:ys.isEmpty=false)(ha:PA X ys (WLs X P n RT Y old l σ es))(hp:ys.all aK=true) :
 PE X (.Call (.Name g p) ys [] pos) (WL X P n RT Y old l σ (.pcall f es)):=by
 obtain⟨fa,fd,ps,h1,h2,h3,h4⟩:=M.md.fn f g hf
 cases ys with
 | nil=>cases hy
 | cons e ys=>
  have hp':aK e=true/\ys.all aK=true:=by simpa using hp
  refine(gC h4 M.room (M.gl hg) h1 h2 h3 .nil mQ ha (aJ ho) (aA hp'.1) (bE hp'.2)).imp λσV H Q t ⟨S,h⟩=>?_
  obtain⟨r,er,h⟩:=(RE.bind' (show RE (evls' P (call P n) l σ es >>= λr=>call P n f (r.1.map (·.d)) >>= λq=>noAl (eT r.1 q) r.2) _ from h)).eq
  refine⟨S,?_⟩
  rw[er]
  intro us H1 t1 S1 k1 rs
  refine .inl ⟨r.1.map (·.d),λb=>Od X.K H1 b/\exV RT Y old r.2 σV (aT r.1) (bS r.1) b,λa z=>z.1,by rw[Ax];exact(rs.reps (pa:=aT r.1) λv hv z=>fQ hv z).weak λa z=>z.2.imp (·.1) id,(RE.bind' h).mono λq hq u H' t' s' rr _=>?_⟩
  obtain⟨hal,hz⟩:=RE.noAl hq
  exact hz u H' t' ((sO S1 t' hal (zR S1 (aL.refl H1) s' rr)).from S1 k1)
theorem Sx.reV{K:Fg}{σV σV':L2.St}{H:Hp}(S:Sx K RT Y old σ σV H)(hl:σV'.length=σV.length)(h:∀(j:Nat) (s:Sl),σ[j]? = some s->s=.dead\/σV'[j]? = σV[j]?):Sx K RT Y old σ σV' H where
 sh:=λj pa d e=>by
  rcases h j _ e with z|z
  . cases z
  . rw[z];exact S.sh j pa d e
 own:=λj pa d e=>by
  rcases h j _ e with z|z
  . cases z
  . rw[z];exact S.own j pa d e
 trk:=S.trk
 yo:=S.yo
 tk:=S.tk
 rt:=S.rt
 inj:=λj1 j2 pa pa' ds ds' a e1 e2 e3 e4=>by
  rcases h j1 _ e1 with z|z1
  . cases z
  rcases h j2 _ e2 with z|z2
  . cases z
  rw[z1] at e3
  rw[z2] at e4
  exact S.inj j1 j2 pa pa' ds ds' a e1 e2 e3 e4
 len:=by rw[hl];exact S.len
 lx:=S.lx.imp S.tk (λ_ _ r=>r) id (λj ds e=>(h j _ e).elim (λz=>by cases z) λz=>⟨e,z⟩) (λ_ _ _ _ _ _ e=>e) (λ_ _ e z _=>⟨e,z⟩) (λ_ _ r=>r) (λj ds e=>(h j _ e).elim (λz=>by cases z) λz=>⟨e,z⟩) (λ_ _ _ _ _ _ e=>e) (λp xs e z=>⟨e,z.1,z.2.1,λk pa ds q=>(h k _ q).elim (λw=>by cases w) λw=>by rw[w];exact z.2.2 k pa ds q⟩) λ_ _ r=>r
theorem sP{f:Sg->Vl->R (Vl×Sg)}{x:Vl}{xs rs:List Vl}{σ σ':Sg}(h:dH f (x::xs) σ=.ok (rs,σ')):∃y r,f σ x=.ok y/\dH f xs y.2=.ok (r,σ')/\rs=y.1::r:=by
 obtain⟨y,e1,h⟩:=R.bind_ok (show(f σ x >>= λy=>dH f xs y.2 >>= λr=>R.ok (y.1::r.1,r.2))=R.ok (rs,σ') from h)
 obtain⟨r,e2,h⟩:=R.bind_ok h
 cases(show R.ok (y.1::r.1,r.2)=R.ok (rs,σ') from h)
 exact⟨y,r.1,e1,e2,rfl⟩
theorem eX.snoc{K:Fg}{H:Hp}{v:Vl}{u:V}(h2:RvL K RT Y old H v u):∀{vs:List Vl} {us:List V},eX K RT Y old H vs us->eX K RT Y old H (vs++[v]) (us++[u])
 | [],_,h=>by
  rw[show _=[] from h]
  exact⟨u,[],rfl,h2,rfl⟩
 | w::vs,_,h=>by
  obtain⟨x,r,e,h1,h3⟩:=h
  subst e
  exact⟨x,r++[u],rfl,h1,eX.snoc h2 h3⟩
theorem eX.go{K:Fg}{σV:L2.St}{H H':Hp}(S:Sx K RT Y old σ σV H)(k:Kp RT H H'):∀{vs:List Vl} {us:List V},eX K RT Y old H vs us->eX K RT Y old H' vs us
 | [],_,h=>h
 | v::vs,_,h=>by
  obtain⟨u,r,e,h1,h2⟩:=h
  exact⟨u,r,e,h1.go S k,eX.go S k h2⟩
theorem aEw{K:Fg}{σV:L2.St}{H:Hp}(j:Int):pY K RT Y old σ σV H (Itr 0 j.toNat) ((bY 0 j).map .cl) []:=by
 refine sJ (lo:=0) (m:=j.toNat) ?_
 rw[gH]
 simp
theorem aHc(M:Mc X P Γ n){k l':Nat}{caps:List Nat}{t:T}{c elt:EL}{e tg en:Ah}{f:Str}{p p2:BX}{scope:Cu}{N':List Str}(CS:cL X scope k caps N')(hnd:caps.Nodup)(hk:∀i∈tIx t,i<k)(hkl:k<=l')(hcl:caps[l'-k]? = some l)
 (hf:f=("range" : Str)) (hg:bZ Γ f=true) (he:PE X en (WL X P n RT Y old l σ c)) (hpl:aK en=true)
 (hch:∀C s₀ H₀ ex,PG (dA X scope N' C s₀ H₀ ex) tg (gT X.K t)/\∀RT σ1,PE (dA X scope N' C s₀ H₀ ex) e (WL X P n RT Y old l' σ1 elt)) :
 PE X (.ListComp e [⟨tg,.Call (.Name f p) [en] [] p2,[],0⟩] scope pos) (WL X P n RT Y old l σ (.comp k caps t c l' elt)):=by
 subst hf
 refine(sD (g:=gT X.K t) (tt:=λ_ H Q=>Q true H) (te:=λσV H Q=>∃RT σ1,WL X P n RT Y old l' σ1 elt σV H Q) CS M.calm (lO (M.gl hg) (M.md.blt _ (by decide +kernel)) (bX he dO (aA hpl)) (aA hpl)) (λC s₀ H₀ ex=>⟨(hch C s₀ H₀ ex).1,zQ,lV λRT=>lV ((hch C s₀ H₀ ex).2 RT)⟩) (fR rfl)).imp λσV H Q t0 ⟨S,h⟩=>?_
 let F:Sg->Vl->R (Vl×Sg):=λσ x=>bJ (ch0 k caps σ) x t >>= λσ1=>evl P (call P n) l' σ1 elt >>= λy=>(match bK σ l,bK y.2 l' with
  | some _,some (pa,cs)=>R.ok (y.1,cB σ l pa cs)
  | _,_=>.bad)
 have h:=RE.bind' (show RE (evl P (call P n) l σ c >>= λr=>(match r.1.d with
  | .int j=>R.iff (aH j) (dH F ((bY 0 j).map .cl) r.2 >>= λq=>R.iff (decide (q.1.length<=lim)) (.ok ((⟨.lst (q.1.map (·.d)),true,aT q.1,[]⟩:Vl),q.2)))
  | _=>.bad)) _ from h)
 refine⟨S,h.mono λr hr u H1 t1 ro=>?_⟩
 cases hd:r.1.d with
 | int jj=>
  rw[hd] at hr
  obtain⟨hs,hr⟩:=RE.iff (show RE (R.iff (aH jj) _) _ from hr)
  obtain⟨⟨vs,σe⟩,er,hr⟩:=(RE.bind' hr).eq
  obtain⟨hlen,hr⟩:=RE.iff (show RE (R.iff (decide (vs.length<=lim)) (.ok ((⟨.lst (vs.map (·.d)),true,aT vs,[]⟩:Vl),σe))) _ from hr)
  have hlen:=of_decide_eq_true hlen
  have hs:=fT hs
  have ok:pY X.K RT Y old r.2 σV H1 (Itr 0 jj.toNat) ((bY 0 jj).map .cl) []:=aEw jj
  refine⟨jj,by rw[(ro.rv.nr (σ:=r.2) (σV:=σV)).int hd],hs.1,hs.2,?_⟩
  have S1:=ro.sx
  revert er ok S1
  generalize (bY 0 jj).map Vl.cl=xs
  intro er ok S1
  refine⟨λj m ys σ1V Hc=>m=xs.length-j/\j<=xs.length/\KpL RT σV l H1 Hc/\∃σc,Sx X.K RT Y old σc σV Hc/\σ1V.length=(gG k caps σV).length/\(∀j,k<=j->σ1V[j]? = (gG k caps σV)[j]?) /\
   ∃ws rs,vs=ws++rs/\dH F (xs.drop j) σc=.ok (rs,σe)/\eX X.K RT Y old Hc ws ys,⟨_,rfl,BD _,KpL.same (aL.refl _),r.2,S1,rfl,λ_ _=>rfl,[],vs,rfl,er,rfl⟩,?_⟩
  rintro j m ys σ1V Hc ⟨hm,hj,kp,σc,Sc,hln,hcap,ws,rs,evs',ego,rvs⟩
  have okc:=ok.ok RT (λb z=>⟨z,λ⟨_,hj,_⟩=>by cases hj⟩) j Hc kp.kp
  have hly:=rvs.length
  have hws:ws.length<=vs.length:=by rw[evs',lA];omega
  have hlim:lim=1000000:=rfl
  by_cases hlt:j<xs.length
  . refine .inr ⟨okc.1 hlt,by rw[<-hly,B1];omega,λx H' hy=>?_⟩
    have hxi:xs[j]? = some xs[j]:=Am hlt
    obtain⟨sm,tkf,rv⟩:=okc.2.2 x H' hy xs[j] hxi
    have hmem:xs[j]∈xs:=A9 hlt
    have hnf:=ok.nofr _ hmem
    rw[Bs hlt] at ego
    obtain⟨y,r',ef,ego',ers⟩:=sP ego
    obtain⟨σ1,eσ,ef⟩:=R.bind_ok ef
    obtain⟨q,eq,ef⟩:=R.bind_ok ef
    have Sg:=Sc.grow sm (tkf Sc.tk)
    have rep:Rep X.K H' (λa=>RT a\/exB Y old xs[j].pa a) xs[j].d x:=rv.weak λa z=>by
     rcases z with z|z
     . exact .inl (.inl ⟨z,λw=>by
        obtain⟨j',hj',_⟩:=w
        have:=ok.sub _ hmem j' hj'
        cases this⟩)
     . exact .inl (.inr z)
    have Sch:Sx X.K RT Y old (ch0 k caps σc) σ1V H':=(Sg.child hnd).reV hln λj' s hs=>by
     by_cases hjk:j'<k
     . exact .inl (vE hjk hs)
     . exact .inr (hcap j' (Fq hjk))
    refine vC Sch hnf rep eσ λσ2V S2 hkeep=>?_
    show(if true=true then _ else _)
    rw[if_pos rfl]
    refine⟨RT,σ1,S2,?_⟩
    rw[eq]
    intro u H4 t4 ro
    have capk:∀j,k<=j->σ2V[j]? = (gG k caps σV)[j]? := λj hj=>by
     rw[hkeep j λz=>absurd (hk j z) (EH.mpr hj),hcap j hj]
    cases e1:bK σc l with
    | none=>simp only[e1] at ef;cases ef
    | some pc=>
     obtain⟨pa0,cs0⟩:=pc
     simp only[e1] at ef
     cases e2:bK q.2 l' with
     | none=>simp only[e2] at ef;cases ef
     | some pc=>
      obtain⟨pa,cs⟩:=pc
      simp only[e2] at ef
      cases(show R.ok (q.1,cB σc l pa cs)=R.ok y from ef)
      obtain⟨lt,a,xs',g1,g2,g3,g4,g5,g6⟩:=nP ro.sx e2
      obtain⟨lt0,a0,xs0,b1,b2,b3,b4,b5,b6⟩:=nP Sg e1
      have hV:σV[l]? = some (some (.ref a)):=by
       rw[capk l' hkl] at g2
       have hl':l'=k+(l'-k):=by omega
       rw[hl'] at g2
       exact kC hcl g2
      rw[hV] at b2
      cases b2
      have kpa:Kp (λb=>b=a) H' H4:=λb o eb nb=>ro.kp b o eb λz=>nb (by
       have z1:=z.1
       rw[g2] at z1
       exact(V.ref.inj (Ai (Ai z1))).symm)
      have kL:KpL RT σV l H' H4:=λb o eb nb=>kpa b o eb λz=>nb (by rw[z];exact⟨hV,b4⟩)
      have S4:Sx X.K RT Y old (cB σc l pa cs) σV H4:=by
       rw[b6]
       refine Sg.mutH b1 hV (λ_ z=>z) (λ_ z=>.inl z) (λb z=>ro.sx.rt b z) t4 kpa g3 (g5.weak λb z=>z.imp id λz=>z.mono λw=>by rw[w,Cm])
      refine⟨xs.length-(j+1),by omega,rfl,hlt,kp.trans ((KpL.same sm).trans kL),cB σc l pa cs,S4,?_,capk,ws++[q.1],r',by rw[evs',ers];simp,ego',eX.snoc ro.rv (eX.go Sc ((Kp.same sm).trans kL.kp) rvs)⟩
      rw[<-S2.len,vB eσ]
      unfold ch0 gG
      simp
  . have hje:j=xs.length:=by omega
    subst hje
    rw[Bl] at ego
    cases(show R.ok ([],σc)=R.ok (rs,σe) from ego)
    rw[Ax] at evs'
    subst evs'
    refine .inl ⟨okc.2.1 (Aj _),by rw[<-hly];exact eF hlen,λq hq t'=>?_⟩
    exact(show ∀u H',Tk X.K H'->RoL X.K RT Y old σe σV l H H' (⟨.lst (vs.map (·.d)),true,aT vs,[]⟩:Vl) u->Q u H' from hr) _ _ t' (aEu S Sc (ro.kp.trans kp) rvs hq t')
 | _=>rw[hd] at hr;exact hr.elim
theorem zZ{Γ:Ct}{k l l':Nat}{caps:List Nat}{t:T}{c:EL}{elt:EL}{e:Ah}(h:bR Γ l (.comp k caps t c l' elt) e=true) :
 ∃el tg f p en p2 scope pos,e=.ListComp el [⟨tg,.Call (.Name f p) [en] [] p2,[],0⟩] scope pos/\aBg Γ tg caps scope k t/\iB (oQ Γ tg caps scope) t tg=true/\(f=("range" : Str)/\bZ Γ f=true/\bR Γ l c en=true)/\(k<=l'/\caps[l'-k]? = some l)/\bR (oQ Γ tg caps scope) l' elt el=true:=by
 unfold bR at h
 obtain⟨⟨el,gens,scope⟩,⟨pos,rfl⟩,g⟩:=aB h
 clear h
 have h:=g
 clear g
 rcases gens with _|⟨⟨tg,iter,ifs,as⟩,_|⟨_,_⟩⟩
 . cases h
 . cases ifs with
   | cons _ _=>cases h
   | nil=>
    have h:(as==0&&(cZ tg).length==k&&(caps.all λi=>decide (i<Γ.N.length))&&decide caps.Nodup&&scope.kind==.function&&decide (cZ tg++caps.filterMap λi=>Γ.N[i]?).Nodup &&
     ((caps.filterMap λi=>Γ.N[i]?).all λx=>scope.names.lookup x==some .free&&Γ.sc.lookup x==some .cell) &&
     (scope.names.all λp=>p.2 != .cell&&(p.2 != .local||scope.names.lookup p.1==some .local)&&(p.2 != .free||Γ.sc.lookup p.1==some .cell)) &&
     ((tIx t).all λi=>decide (i<k)) &&
     iB (oQ Γ tg caps scope) t tg&&(oS (iC iter) λq=>(q.1==("range" : Str))&&bZ Γ q.1&&(match q.2 with|[x]=>bR Γ l c x|_=>false))&&(decide (k<=l')&&(caps[l'-k]?==some l))&&bR (oQ Γ tg caps scope) l' elt el)=true:=h
    simp only[bA,beq_iff_eq,Az,A7,BM,bne_iff_ne,ne_eq] at h
    obtain⟨⟨⟨⟨⟨⟨⟨⟨⟨⟨⟨⟨h0,h1⟩,h2⟩,h3⟩,h4⟩,h5⟩,h6⟩,h7⟩,h8⟩,h10⟩,h11⟩,h12⟩,h13⟩:=h
    subst h0
    obtain⟨⟨f,xs⟩,⟨p1,p2,e2⟩,g⟩:=aB h11
    have e2:iter=.Call (.Name f p1) xs [] p2:=e2
    subst e2
    obtain⟨g1,g2,g3⟩:=cS g
    rcases xs with _|⟨x,_|⟨_,_⟩⟩
    . cases g3
    . refine⟨el,tg,f,p1,x,p2,scope,pos,rfl,⟨h1,h2,h3,h4,h5,h6,λp hp=>?_,h8⟩,h10,⟨eq_of_beq g1,g2,g3⟩,h12,h13⟩
      obtain⟨⟨q1,q2⟩,q3⟩:=h7 p hp
      exact⟨q1,λe=>q2.resolve_left λz=>z e,λe=>q3.resolve_left λz=>z e⟩
    . cases g3
 . cases ifs <;> cases h
theorem dE{c:EL}{e:Ah}(h:bR Γ l c e=true):aK e=true:=by
 cases c with
 | e a=>exact aI (c:=a) (by exact h)
 | op o a b=>obtain⟨_,⟨_,rfl⟩,_⟩:=aB (by unfold bR at h;exact h);rfl
 | idx a b=>obtain⟨_,⟨_,rfl⟩,_⟩:=aB (by unfold bR at h;exact h);rfl
 | tup es=>obtain⟨_,⟨_,_,rfl⟩,_⟩:=aB (by unfold bR at h;exact h);rfl
 | call f es=>obtain⟨_,⟨_,_,rfl⟩,_⟩:=aB (by unfold bR at h;exact h);rfl
 | pcall f es=>obtain⟨_,⟨_,_,rfl⟩,_⟩:=aB (by unfold bR at h;exact h);rfl
 | comp k caps t c l' elt=>obtain⟨_,_,_,_,_,_,_,_,rfl,_⟩:=zZ h;rfl
theorem gI:∀{cs:ELs} {es:List Ah},chkELs Γ l cs es=true->es.all aK=true
 | .nil,[],_=>rfl
 | .nil,_::_,h=>by cases h
 | .cons _ _,[],h=>by cases h
 | .cons c cs,e::es,h=>by
  simp only[chkELs,bA] at h
  rw[C6,dE h.1,gI h.2]
  rfl
mutual
theorem qEL{X:Cx}{Γ:Ct}{l:Nat}(M:Mc X P Γ n):(c:EL)->∀{e:Ah},bR Γ l c e=true->∀(RT:Addr->Prop) (σ:Sg),PE X e (WL X P n RT Y old l σ c)
 | .e a,e,h,RT,σ=>l_e (sE a M (by unfold bR at h;exact h) RT Y old σ)
 | .op o a b,e,h,RT,σ=>by
  unfold bR at h
  obtain⟨⟨x,o',y⟩,⟨p,rfl⟩,g⟩:=aB h
  obtain⟨h1,h2,h3⟩:=cS g
  have e:o=o':=eq_of_beq h1
  subst e
  exact aLE (qEL M a h2 RT σ) λσ=>qEL M b h3 RT σ
 | .idx a b,e,h,RT,σ=>by
  unfold bR at h
  obtain⟨⟨x,y⟩,⟨p,rfl⟩,g⟩:=aB h
  obtain⟨h1,h2⟩:=cA g
  exact aJS (qEL M a h1 RT σ) (λσ=>qEL M b h2 RT σ) (dE h2)
 | .tup es,e,h,RT,σ=>by
  unfold bR at h
  obtain⟨xs,⟨k,p,rfl⟩,g⟩:=aB h
  obtain⟨h1,h2⟩:=cA g
  exact aJU (qELs M es h2 RT σ) h2 (of_decide_eq_true h1)
 | .call f es,e,h,RT,σ=>by
  unfold bR at h
  obtain⟨⟨g,xs⟩,⟨p1,p2,rfl⟩,q⟩:=aB h
  obtain⟨h1,h2,h3,h4⟩:=sL q
  cases xs with
  | nil=>cases h4
  | cons x xs=>
   obtain⟨h4,h5⟩:=cA h4
   obtain⟨y,⟨p3,e3⟩,h4⟩:=aB h4
   subst e3
   exact aHb M (eq_of_beq h1) h2 h3 h4 (qELs M es h5 RT σ) (gI h5)
 | .pcall f es,e,h,RT,σ=>by
  unfold bR at h
  obtain⟨⟨g,xs⟩,⟨p1,p2,rfl⟩,q⟩:=aB h
  obtain⟨q,h5⟩:=cA q
  obtain⟨h1,h2,h3,h4⟩:=sL q
  exact aEv M (eq_of_beq h1) h2 h3 (by simpa using h4) (qELs M es h5 RT σ) (gI h5)  | .comp k caps t c l' elt,e,h,RT,σ=>by
  obtain⟨el,tg,f,p,en,p2,scope,pos,rfl,O,g1,⟨f1,f2,f3⟩,⟨k1,k2⟩,g3⟩:=zZ h
  refine aHc M (O.scope M) O.ndc O.tk k1 k2 f1 f2 (qEL M c f3 RT σ) (dE f3) λC s₀ H₀ ex=>?_
  have M':=O.mc M C s₀ H₀ ex
  exact⟨xX M' g1,λRT σ1=>qEL (l:=l') M' elt g3 RT σ1⟩
theorem qELs{X:Cx}{Γ:Ct}{l:Nat}(M:Mc X P Γ n):(cs:ELs)->∀{es:List Ah},chkELs Γ l cs es=true->∀(RT:Addr->Prop) (σ:Sg),PA X es (WLs X P n RT Y old l σ cs)
 | .nil,[],_,RT,σ=>aJT
 | .nil,_::_,h,_,_=>by cases h
 | .cons _ _,[],h,_,_=>by cases h
 | .cons c cs,e::es,h,RT,σ=>by
  obtain⟨h1,h2⟩:=cA (show(bR Γ l c e&&chkELs Γ l cs es)=true from h)
  exact aHa (qEL M c h1 RT σ) (λσ=>qELs M cs h2 RT σ) (dE h1)
end
end
section
variable {X:Cx} {P:Pg} {Γ:Ct} {n:Nat} {RT Y old:Addr->Prop} {σ:Sg} {pos:BX} {l:Nat}
theorem aHd{i:Nat}{ck c:E}{x:Str}{p p2:BX}{ix v:Ah}(M:Mc X P Γ n)(hx:aO Γ i x=true)(hk:PE X ix (WE X P n RT Y old σ ck))(he:PE X v (WE X P n RT Y old σ c))(hpl:aK ix=true):PS X (.Assign [.Subscript (.Name x p) ix p2] v pos) (wS X RT Y old σ (ex P (call P n) σ (.lset i ck c))):=by
 refine aZ (wY he (aFW (bU M hx) hk aBV (by intro _;cases ix <;> first|rfl|cases hpl)) (by cases v <;> rfl) (by cases v <;> rfl)) λD σV H t ⟨S,h⟩=>?_
 have h:=OE.from (show OE X.K RT Y old H (O.from σ (ev P (call P n) σ c) λv=>O.from σ (ev P (call P n) σ ck) λkv=>(match σ[i]?,kv.d with
  | some (.lent ds),.int k=>(match ixN ds.length k with|some j=>if noL v.d then .next (σ.set i (.lent (ds.set j v.d))) else .bad|none=>.bad)
  | _,_=>.bad)) D from h)
 refine wE.one S h λv u H1 hv t1 S1 r1=>?_
 obtain⟨kv,ek,hv⟩:=(OE.from hv).eq
 cases e:σ[i]? with
 | none=>rw[e] at hv;exact hv.elim
 | some sl=>
  rw[e] at hv
  cases sl with
  | lent ds=>
   cases hd:kv.d with
   | int k=>
    rw[hd] at hv
    have hv:OE X.K RT Y old H (match ixN ds.length k with|some j=>if noL v.d then .next (σ.set i (.lent (ds.set j v.d))) else .bad|none=>.bad) D:=hv
    obtain⟨b,xs,h1,h2,h3,h4,h5⟩:=S.lx.at' i ds e
    cases hj:ixN ds.length k with
    | none=>rw[hj] at hv;exact hv.elim
    | some j=>
     rw[hj] at hv
     have hv:OE X.K RT Y old H (if noL v.d then .next (σ.set i (.lent (ds.set j v.d))) else .bad) D:=hv
     split at hv
     . rename_i hn
       refine⟨.ref b,h1,S1,?_⟩
       rw[ek]
       intro uk H2 t2 r2
       have hlen:=h5.length
       refine⟨b,xs,k,j,rfl,(r2.rv S1).int hd,r2.1 _ _ (r1.1 _ _ h2),by rw[<-hlen,<-oF];exact hj,λ_=>?_⟩
       have s2:=r1.1.trans r2.1
       exact(show cJ X.K RT Y old H (σ.set i (.lent (ds.set j v.d))) D.nx from hv) RT σV _ (Kp.upd s2 h3) aP ((S.grow s2 t2).mutA (lt:=true) (pa:=true) (pa':=true) e h1 ((h5.grow s2).set j (Rep.free _ _ hn ((r1.rv S).grow r2.1))))
     . exact hv.elim
   | _=>rw[hd] at hv;exact hv.elim
  | _=>exact hv.elim
theorem aEx{σ':Sg}{σV:L2.St}{H H1:Hp}{v:Vl}{u:V}(S:Sx X.K RT Y old σ σV H)(ro:RoL X.K RT Y old σ' σV l H H1 v u)(i:Nat):∃RT',Sx X.K RT' Y old (σ'.set i v.slot) (σV.set i (some u)) H1/\∀b,RT' b->RT b\/H b=none:=by
 by_cases hf:v.fr=true
 . obtain⟨a,xs,ds,e1,e2,e3,e4,S2,r⟩:=ro.fr hf
   rw[zV hf e2,e1]
   exact⟨_,ro.sx.putOwn S2 (λz=>S.trk a (.inl z) e3 (ro.sx.tk a (by rw[e4];simp))) (λz=>S.trk a (.inr (.inr z)) e3 (ro.sx.tk a (by rw[e4];simp))) e4 r,λb z=>z.imp id λz=>by rw[z];exact e3⟩
 . rw[fU (by simpa using hf)]
   exact⟨_,ro.sx.setSh ro.rv,aP⟩
theorem Kp.rtF{H H1:Hp}{σV:L2.St}{al:List Nat}(k:Kp (rtF RT σ σV al) H H1):Kp RT H H1:=λa o e nn=>k a o e λz=>nn z.1
theorem aHe{c:EL}{e:Ah}{i:Nat}{fz:List Nat}{x:Str}{p:BX}(M:Mc X P Γ n)(hx:aU Γ i x=true)(he:∀RT σ,PE X e (WL X P n RT Y old l σ c))(hs:fM e=false):PS X (.Assign [.Name x p] e pos) (wS X RT Y old σ (ex P (call P n) σ (.setL i l fz c))):=by
 unfold aU at hx
 obtain⟨h1,h2,h3⟩:=cS hx
 refine aZ (lL (i:=i) M.nd (by rw[M.N];exact eq_of_beq h1) (M.loc h2) (lV λRT=>lV (he RT)) (by cases e <;> first|rfl|cases hs) (M.st x h2)) λD σV H t ⟨S,h⟩=>?_
 have h:=OE.from (show OE X.K RT Y old H (O.from σ (evl P (call P n) l (freeze σ fz) c) λr=>.next (r.2.set i r.1.slot)) D from h)
 refine⟨rtF RT σ σV fz,freeze σ fz,S.frz fz,h.mono λr hr u H1 t1 ro=>?_⟩
 obtain⟨RT',S',hsub⟩:=aEx (S.frz fz) ro i
 exact λ_=>(show cJ X.K RT Y old H (r.2.set i r.1.slot) D.nx from hr) RT' _ H1 (Kp.rtF ro.kp.kp) (λb z=>(hsub b z).imp (·.1) id) S'
theorem aHf{i:Nat}{c:EL}{e a:Ah}(M:Mc X P Γ n)(hc:eW Γ i "append" e=some [a])(ha:PE X a (WL X P n RT Y old l σ c))(hp:aK a=true):PS X (.Expr e pos) (wS X RT Y old σ (ex P (call P n) σ (.appL i l c))):=by
 obtain⟨x,p,ap,cp,rfl,hx,hl⟩:=fD hc
 refine aZ (eL (uF AV C7 C8 lP (bU M hx) (bX ha dO (aA hp)) rfl (by rw[aA hp];rfl) hl (aA hp) rfl)) λD σV H t ⟨S,h⟩=>?_
 have h:OE X.K RT Y old H (if (hZ σ i).isSome then O.from σ (evl P (call P n) l σ c) λr=>put r.2 i r.1.nr λds=>some (ds++[r.1.d]) else .bad) D:=h
 split at h
 . rename_i ho
   obtain⟨⟨pa0,ds0⟩,ho⟩:=C4.mp ho
   have q0:=kF ho
   obtain⟨r,ee,h⟩:=(OE.from h).eq
   obtain⟨b,xs,g1,g2,g3,g4,g5⟩:=S.own i pa0 ds0 q0
   refine⟨.ref b,g1,.inl ⟨rfl,xs,SqL.of g2⟩,S,?_⟩
   rw[ee]
   intro u H1 t1 ro
   obtain⟨pa,ds,ds',q1,q2,q3,q4,hpost⟩:=sN h
   cases q3
   obtain⟨b',xs',k1,k2,k3,k4,k5⟩:=ro.sx.own i pa ds q1
   rw[g1] at k1
   cases k1
   have hlen:=k5.length
   refine⟨b,xs',u,rfl,rfl,k2,?_,λ_=>?_⟩
   . rw[lA,Bj] at q4
     have:=oR
     omega
   . exact kJ ro.sx (aL.refl H1) t1 q1 q2 g1 (((kI ro.sx (aL.refl H1) q1 g1 k2).weak λc z=>z.imp id kG).append (.cons (Rep.weak ro.rv λc z=>z.imp (·.1) nO) .nil)) (hpost.mono ro.kp.kp aP)
 . exact h.elim
theorem vK{v:Vl}{D:Ends}{H:Hp}(h:OE X.K RT Y old H (mS v σ) D):∃cs,σ[(0:Nat)]? = some (.lent cs)/\mX X.K RT Y old H ⟨.tup [v.d,.err 0 cs],v.fr,v.pa,[]⟩ D.rt:=by
 unfold mS at h
 split at h
 . rename_i cs e;exact⟨cs,e,h⟩
 . exact h.elim
theorem aCE{b:Addr}(h:Y b):exB Y old true b:=.inl h
theorem aHg{c:EL}{e:Ah}(he:PE X e (WL X P n RT Y old 0 σ c)):PS X (.Return (some e) pos) (wS X RT Y old σ (ex P (call P n) σ (.retL c))):=by
 refine aZ (rO he) λD σV H t ⟨S,h⟩=>?_
 have h:=OE.from (show OE X.K RT Y old H (O.from σ (evl P (call P n) 0 σ c) λr=>mS r.1 r.2) D from h)
 refine⟨S,h.mono λr hr u H1 t1 ro _=>?_⟩
 obtain⟨cs,e0,hr⟩:=vK hr
 refine hr u H1 ro.kp.kp t1 (.inr ?_)
 by_cases hf:r.1.fr=true
 . obtain⟨a,ys,es,e1,e2,e3,e4,S2,rr⟩:=ro.fr hf
   obtain⟨p,xs,h1,h2,h3,h4,h5⟩:=S2.lx.at' 0 cs e0
   refine⟨r.1.d,cs,λb=>RT b\/b=a,p,xs,rfl,λb z=>z.imp id λz=>by rw[z];exact e3,h3,h4,h2,h5.weak λb z=>z.imp id aCE,?_⟩
   rw[if_pos hf]
   exact⟨a,ys,es,e1,e2,λz=>S.trk a (.inr (.inr z)) e3 (ro.sx.tk a (by rw[e4];simp)),.inr rfl,e4,rr⟩
 . obtain⟨p,xs,h1,h2,h3,h4,h5⟩:=ro.sx.lx.at' 0 cs e0
   refine⟨r.1.d,cs,RT,p,xs,rfl,aP,h3,h4,h2,h5.weak λb z=>z.imp id aCE,?_⟩
   rw[if_neg hf]
   exact ro.rv
theorem aEy{i:Nat}{x:Str}{p:BX}(M:Mc X P Γ n)(hx:aO Γ i x=true):PS X (.Return (some (.Name x p)) pos) (wS X RT Y old σ (ex P (call P n) σ (.retvL i))):=by
 refine aZ (rO (bU M hx)) λD σV H t ⟨S,h⟩=>?_
 have h:OE X.K RT Y old H (match σ[i]? with|some (.own pa ds)=>mS ⟨.lst ds,true,pa,[]⟩ σ|_=>.bad) D:=h
 split at h
 . rename_i pa ds e
   obtain⟨cs,e0,hr⟩:=vK h
   obtain⟨a,ys,h1,h2,h3,h4,h5⟩:=S.own i pa ds e
   obtain⟨p,xs,g1,g2,g3,g4,g5⟩:=S.lx.at' 0 cs e0
   exact⟨.ref a,h1,λ_=>hr (.ref a) H (Kp.refl RT H) t (.inr ⟨.lst ds,cs,RT,p,xs,rfl,aP,g3,g4,g2,g5.weak λb z=>z.imp id aCE,by rw[if_pos rfl];exact⟨a,ys,ds,rfl,rfl,h4,h3,h2,h5⟩⟩)⟩
 . exact h.elim
theorem aHh(M:Mc X P Γ n){o:CmpOp}{a:EL}{b:E}{x y:Ss}{ea eb:Ah}{xa xb:List Br}{p:BX}(ha:PE X ea (WL X P n RT Y old 0 σ a))(hb:∀σ,PE X eb (WE X P n RT Y old σ b))(hp:aK eb=true)(hx:∀RT σ,PSs X xa (wS X RT Y old σ (exs P (call P n) σ x)))(hy:∀RT σ,PSs X xb (wS X RT Y old σ (exs P (call P n) σ y))) :
 PS X (.If (.Compare ea [o] [eb] p) xa xb pos) (wS X RT Y old σ (ex P (call P n) σ (.iffL o a b x y))):=by
 refine aZ (aBG (nL (eM (RT:=RT) (Y:=Y) (old:=old) M o) ha (lV hb) (fS hp)) (iQ hx) (iQ hy)) λD σV H t ⟨S,h⟩=>?_
 have h:=OE.from (show OE X.K RT Y old H (O.from σ (evl P (call P n) 0 σ a) λr=>O.from r.2 (ev P (call P n) r.2 b) λz=>(match bL o r.1.d z.d with
  | some k=>if k then exs P (call P n) r.2 x else exs P (call P n) r.2 y
  | none=>.bad)) D from h)
 refine⟨S,h.mono λr hr u H1 t1 ro=>⟨r.2,ro.sx,(OE.from hr).mono λz hz uz H2 t2 rz=>?_⟩⟩
 have S2:=ro.sx.grow rz.1 t2
 have k2:Kp RT H H2:=ro.kp.kp.trans (Kp.same rz.1)
 split at hz
 . rename_i k hk
   refine⟨r.2,σV,r.1.nr,z,k,(ro.rv.nr).grow rz.1,rz.rv ro.sx,hk,k,rfl,?_⟩
   cases k with
   | true=>rw[if_pos rfl] at hz ⊢;exact⟨RT,r.2,S2,(OE.mono k2 aP hz).tkE⟩
   | false=>rw[if_neg bN] at hz ⊢;exact⟨RT,r.2,S2,(OE.mono k2 aP hz).tkE⟩
 . exact hz.elim
theorem aHi{t:T}{c:EL}{b:Ss}{tg e:Ah}{body:List Br}{f:Str}{p p2:BX}(M:Mc X P Γ n)(hx:iB Γ t tg=true)(hf:f=("range" : Str))(hg:bZ Γ f=true)(he:PE X e (WL X P n RT Y old 0 σ c))(hpl:aK e=true)(hb:∀RT σ,PSs X body (wS X RT Y old σ (exs P (call P n) σ b))) :
 PS X (.For tg (.Call (.Name f p) [e] [] p2) body [] pos) (wS X RT Y old σ (ex P (call P n) σ (.forL t c b))):=by
 subst hf
 have hp:Dk (A3 X.prog X.w) X.A X.env X.xe:=by rw[M.xe];exact CB
 refine aZ (rP hp M.calm (lO (M.gl hg) (M.md.blt _ (by decide +kernel)) (bX he dO (aA hpl)) (aA hpl)) (xX M hx) (iQ hb) (fR rfl)) λD0 σV H t0 ⟨S,h⟩=>?_
 have h:=OE.tkE h
 revert h
 generalize tkE X.K D0=D
 intro h
 have h:=OE.from (show OE X.K RT Y old H (O.from σ (evl P (call P n) 0 σ c) λr=>(match r.1.d with
  | .int j=>if aH j then cN (λσ x=>O.from σ (bJ σ x t) λσ'=>exs P (call P n) σ' b) ((bY 0 j).map .cl) r.2 else .bad
  | _=>.bad)) D from h)
 refine⟨S,h.mono λr hr u H1 t1 ro=>?_⟩
 cases hd:r.1.d with
 | int j=>
  rw[hd] at hr
  have hr:OE X.K RT Y old H (if aH j then cN (λσ x=>O.from σ (bJ σ x t) λσ'=>exs P (call P n) σ' b) ((bY 0 j).map .cl) r.2 else .bad) D:=hr
  split at hr
  . rename_i hs
    have hs:=fT hs
    refine⟨j,by rw[(ro.rv.nr (σ:=r.2) (σV:=σV)).int hd],hs.1,hs.2,qY (xs:=((bY 0 j).map .cl,[])) ro.sx ro.kp.kp (sJ ?_) hr⟩
    rw[gH]
    simp
  . exact hr.elim
 | _=>rw[hd] at hr;exact hr.elim
end
section
variable {K:Fg}
theorem vL{ds:List D}{vs:List V}{H:Hp}{Y:Addr->Prop}{m:Nat}{R0:Addr->Prop}(hY:∀a,Y a->Od K H a)(t:Tk K H)(hR:∀a,R0 a->∃xs,H a=some (.lst xs))(r:Reps K H (λb=>R0 b\/Y b) ds vs):Sx K R0 Y (λb=>Od K H b) ((ds.map λd=>Sl.sh true d)++Ad m Sl.dead) (vs.map some++Ad m none) H:=by
 have len:=r.length
 have get:∀{i:Nat} {s:Sl},((ds.map λd=>Sl.sh true d)++Ad m Sl.dead)[i]? = some s->s=.dead\/∃d,s=.sh true d/\ds[i]? = some d:=λ{i s} e=>by
  by_cases hi:i<ds.length
  . rw[Bf (by simpa using hi),A4,Am hi] at e
    cases e
    exact .inr ⟨ds[i],rfl,Am hi⟩
  . rw[AT (by simpa using hi),B5] at e
    split at e
    . cases e;exact .inl rfl
    . cases e
 exact {
  sh:=λi pa d e=>by
   rcases get e with z|⟨d',z,q⟩
   . cases z
   . cases z
     obtain⟨v,hv,rv⟩:=r.get q
     have hi:i<vs.length:=(Aw.mp hv).1
     refine⟨v,?_,rv.weak λa z=>?_⟩
     . rw[Bf (by simpa using hi),A4,hv];rfl
     . rcases z with z|z|⟨z,_⟩
       . exact .inl z
       . exact .inr z
       . cases z
  own:=λi pa ds' e=>by
   rcases get e with z|⟨d',z,q⟩
   . cases z
   . cases z
  trk:=λa z q=>by
   rcases z with z|z|z
   . obtain⟨xs,e⟩:=hR a z
     rw[e] at q;cases q
   . exact hY a z q
   . exact z q
  yo:=hY
  tk:=t
  rt:=hR
  inj:=λi j pa pa' ds1 ds2 a e=>by
   rcases get e with z|⟨d',z,q⟩
   . cases z
   . cases z
  len:=by rw[lA,lA,lM,lM,AK,AK,len]
  lx:={
   at':=λi ds' e=>by
    rcases get e with z|⟨d',z,q⟩
    . cases z
    . cases z
   inj:=λi j ds1 ds2 a e=>by
    rcases get e with z|⟨d',z,q⟩
    . cases z
    . cases z
   dp:=by
    refine⟨λ_ _=>False,λi o e=>?_,λ_ _ _ _ _ _ _ z=>z.elim⟩
    rcases get e with z|⟨d',z,q⟩
    . cases z
    . cases z } }
end
section
variable {RT Y old:Addr->Prop} {σ:Sg}
theorem aCF{α:Type}{l:List α}{i:Nat}{x:α}(h:l[i]? = some x):l.set i x=l:=by
 apply Fi
 intro j
 by_cases hj:i=j
 . subst hj
   rw[Ap (Aw.mp h).1,h]
 . rw[Ac hj]
theorem Sx.putD{K:Fg}{σV:L2.St}{H H':Hp}{N M:Addr->Prop}{N0:Nat->Addr->Prop}(S:Sx K RT Y old σ σV H){i:Nat}{o:Option (List D)}{a:Addr}{xs:List V}
 (hd:∀(j:Nat) (o':Option (List D)),σ[j]? = some (.dp o')->Dpq K RT old σ σV H (N0 j) j o') (hdd:∀(j k:Nat) (o1 o2:Option (List D)) (b:Addr),σ[j]? = some (.dp o1)->σ[k]? = some (.dp o2)->N0 j b->N0 k b->j=k)
 (t:Tk K H') (hN:∀b,N b->H b=none/\∃xs,H' b=some (.lst xs)) (kp:∀b u,H b=some u->¬ M b->H' b=some u) (kr:∀b,M b->∃xs,H' b=some (.lst xs))
 (hM:∀b,M b->N b\/Pt RT old σ σV b) (hMo:∀(j:Nat) (o':Option (List D)) (b:Addr),j≠i->σ[j]? = some (.dp o')->N0 j b->¬ M b) (ha:H' a=some (.lst xs)) (hma:M a) (hr:∀ds,o=some ds->Reps K H' (λb=>b=a\/¬ M b) ds xs) :
 Sx K (λb=>RT b\/N b) Y old (σ.set i (.dp o)) (σV.set i (some (.ref a))) H':=by
 have nm:∀b u,H b=some u->¬ RT b->¬ M b:=λb u e n z=>by
  rcases hM b z with z|z
  . rw[(hN b z).1] at e;cases e
  . exact n z.1
 have np:∀b u,H b=some u->(∀xs,u≠.lst xs)->¬ M b:=λb u e n=>nm b u e λz=>by
  obtain⟨xs,e'⟩:=S.rt b z
  rw[e'] at e
  cases e
  exact n xs rfl
 have kT:∀b ks,SqT K H b ks->SqT K H' b ks:=λb ks q=>by
  rcases q with(q|⟨o,q⟩)|q
  . exact .inl (.inl (kp _ _ q (np _ _ q λ_ e=>by cases e)))
  . exact .inl (.inr ⟨o,kp _ _ q (np _ _ q λ_ e=>by cases e)⟩)
  . exact .inr q
 have kL:∀b xs,¬ RT b->SqL K H b xs->¬ N b/\SqL K H' b xs:=λb xs n q=>by
  refine⟨λz=>?_,?_⟩
  . obtain⟨z1,ys,z2⟩:=hN b z
    rcases q with(q|⟨o,q⟩)|⟨o,its,m,q,_⟩
    . rw[z1] at q;cases q
    . rw[z1] at q;cases q
    . rw[t b (by rw[z2];simp)] at q;cases q
  . rcases q with(q|⟨o,q⟩)|q
    . exact .inl (.inl (kp _ _ q (nm _ _ q n)))
    . exact .inl (.inr ⟨o,kp _ _ q (nm _ _ q n)⟩)
    . exact .inr q
 have kD:∀b ks,H b=some (.dK ks)->H' b=some (.dK ks):=λb ks q=>kp _ _ q (np _ _ q λ_ e=>by cases e)
 have kX:∀(pa:Bool) b xs,¬ (RT b\/exB Y old pa b)->SqL K H b xs->¬ ((RT b\/N b)\/exB Y old pa b)/\SqL K H' b xs:=λpa b xs n q=>by
  obtain⟨k1,k2⟩:=kL b xs (λz=>n (.inl z)) q
  refine⟨λz=>?_,k2⟩
  rcases z with(z|z)|z
  . exact n (.inl z)
  . exact k1 z
  . exact n (.inr z)
 have kH:∀(pa:Bool),Hd K (λb=>(RT b\/N b)\/exB Y old pa b)->Hd K (λb=>RT b\/exB Y old pa b):=λpa ⟨c,h1,h2⟩=>⟨c,h1,by
  rcases h2 with(z|z)|z
  . exact .inl z
  . obtain⟨_,ys,e⟩:=hN c z
    exact absurd (t c (by rw[e];simp)) h1
  . exact .inr z⟩
 have kY:∀(pa:Bool) b xs,¬ (RT b\/exB Y old pa b)->H b=some (.lst xs)->H' b=some (.lst xs):=λpa b xs n e=>kp _ _ e (nm _ _ e λz=>n (.inl z))
 have hne:∀b,H' b=none->H b=none:=λb q=>by
  by_cases hp:M b
  . obtain⟨xs,e⟩:=kr b hp
    rw[e] at q;cases q
  . cases e:H b with
    | none=>rfl
    | some u=>rw[kp b u e hp] at q;cases q
 have ow:∀(b:Addr),(∀(k:Nat) (pa:Bool) (ds:List D),σ[k]? = some (.own pa ds)->σV[k]?≠some (some (.ref b)))->∀(k:Nat) (pa:Bool) (ds:List D),(σ.set i (.dp o))[k]? = some (.own pa ds)->(σV.set i (some (.ref a)))[k]?≠some (some (.ref b)):=λb p k pa ds e=>by
  rcases set_some e with⟨_,z,_⟩|⟨hik,e⟩
  . cases z
  . rw[Ac hik];exact p k pa ds e
 exact {
  sh:=λj pa d e=>by
   rcases set_some e with⟨_,z,_⟩|⟨hij,e⟩
   . cases z
   . obtain⟨v,h1,h2⟩:=S.sh j pa d e
     exact⟨v,by rw[Ac hij];exact h1,Rep.imp kT (kX pa) (kH pa) (kY pa) kD d v h2⟩
  own:=λj pa ds e=>by
   rcases set_some e with⟨_,z,_⟩|⟨hij,e⟩
   . cases z
   . obtain⟨b,xs,h1,h2,h3,h4,h5⟩:=S.own j pa ds e
     refine⟨b,xs,by rw[Ac hij];exact h1,kp _ _ h2 λz=>?_,.inl h3,h4,Reps.imp kT (kX pa) (kH pa) (kY pa) kD ds xs h5⟩
     rcases hM b z with z|z
     . rw[(hN b z).1] at h2;cases h2
     . exact z.2.2 j pa ds e h1
  trk:=λb z q=>by
   rcases z with(z|z)|z
   . exact S.trk b (.inl z) (hne b q)
   . obtain⟨_,xs,e⟩:=hN b z
     rw[e] at q;cases q
   . exact S.trk b (.inr z) (hne b q)
  yo:=S.yo
  tk:=t
  rt:=λb z=>by
   rcases z with z|z
   . by_cases hp:M b
     . exact kr b hp
     . obtain⟨xs,e⟩:=S.rt b z
       exact⟨xs,kp _ _ e hp⟩
   . exact(hN b z).2
  inj:=λj j' pa pa' ds ds' b e1 e2 e3 e4=>by
   rcases set_some e1 with⟨_,z,_⟩|⟨h1,e1⟩
   . cases z
   rcases set_some e2 with⟨_,z,_⟩|⟨h2,e2⟩
   . cases z
   rw[Ac h1] at e3
   rw[Ac h2] at e4
   exact S.inj j j' pa pa' ds ds' b e1 e2 e3 e4
  len:=by rw[Ay,Ay];exact S.len
  lx:={
   at':=λj ds e=>by
    rcases set_some e with⟨_,z,_⟩|⟨hij,e⟩
    . cases z
    . obtain⟨b,xs,h1,h2,h3,h4,h5⟩:=S.lx.at' j ds e
      refine⟨b,xs,by rw[Ac hij];exact h1,kp _ _ h2 λz=>?_,.inl h3,h4,Reps.imp kT (kX true) (kH true) (kY true) kD ds xs h5⟩
      rcases hM b z with z|z
      . rw[(hN b z).1] at h2;cases h2
      . exact z.2.1 h4
   inj:=λj j' ds ds' b e1 e2 e3 e4=>by
    rcases set_some e1 with⟨_,z,_⟩|⟨h1,e1⟩
    . cases z
    rcases set_some e2 with⟨_,z,_⟩|⟨h2,e2⟩
    . cases z
    rw[Ac h1] at e3
    rw[Ac h2] at e4
    exact S.lx.inj j j' ds ds' b e1 e2 e3 e4
   dp:=by
    refine⟨λj=>if j=i then M else N0 j,λj o' e=>?_,λj j' o1 o2 b e1 e2 n1 n2=>?_⟩
    . rcases set_some e with⟨rfl,z,hl⟩|⟨hij,e⟩
      . cases z
        show Dpq _ _ _ _ _ _ (if i=i then M else N0 i) i o
        rw[if_pos rfl]
        refine⟨a,xs,Ap (by rw[<-S.len];exact hl),ha,hma,λb hb=>⟨?_,kr b hb⟩,hr⟩
        rcases hM b hb with z|z
        . have z1:=(hN b z).1
          have z2:K.lookup b=none:=t b (by obtain⟨ys,q⟩:=(hN b z).2;rw[q];simp)
          refine⟨.inr z,λq=>S.trk b (.inr (.inr q)) z1 z2,ow b λk pa ds e v=>?_⟩
          obtain⟨c,ys,h1,h2,_⟩:=S.own k pa ds e
          rw[v] at h1
          cases h1
          rw[z1] at h2
          cases h2
        . exact⟨.inl z.1,z.2.1,ow b z.2.2⟩
      . show Dpq _ _ _ _ _ _ (if j=i then M else N0 j) j o'
        rw[if_neg (Cz hij)]
        obtain⟨c,ys,g1,g2,g3,g4,g5⟩:=hd j o' e
        have nm':∀b,N0 j b->¬ M b:=λb z=>hMo j o' b (Cz hij) e z
        refine⟨c,ys,by rw[Ac hij];exact g1,kp _ _ g2 (nm' c g3),g3,λb hb=>?_,λds q=>Reps.imp kT (λb zs n s=>?_) id (λb zs n s=>kp _ _ s (nm' b (AF λz=>n (.inr z)))) kD ds ys (g5 ds q)⟩
        . obtain⟨z,ws,y⟩:=g4 b hb
          exact⟨⟨.inl z.1,z.2.1,ow b z.2.2⟩,ws,kp _ _ y (nm' b hb)⟩
        . have hb:N0 j b:=AF λz=>n (.inr z)
          obtain⟨z,ws,y⟩:=g4 b hb
          cases SqL.eq S.tk y s
          exact⟨n,SqL.of (kp _ _ y (nm' b hb))⟩
    . have key:∀(j:Nat) (o1:Option (List D)),(σ.set i (.dp o))[j]? = some (.dp o1)->j≠i->σ[j]? = some (.dp o1):=λj o1 e hj=>by
       rcases set_some e with⟨q,_,_⟩|⟨_,e⟩
       . exact absurd q.symm hj
       . exact e
      have n1:(if j=i then M else N0 j) b:=n1
      have n2:(if j'=i then M else N0 j') b:=n2
      by_cases h1:j=i
      . by_cases h2:j'=i
        . rw[h1,h2]
        . rw[if_pos h1] at n1
          rw[if_neg h2] at n2
          exact absurd n1 (hMo j' o2 b h2 (key j' o2 e2 h2) n2)
      . by_cases h2:j'=i
        . rw[if_neg h1] at n1
          rw[if_pos h2] at n2
          exact absurd n2 (hMo j o1 b h1 (key j o1 e1 h1) n1)
        . rw[if_neg h1] at n1
          rw[if_neg h2] at n2
          exact hdd j j' o1 o2 b (key j o1 e1 h1) (key j' o2 e2 h2) n1 n2 } }
end
section
variable {X:Cx} {P:Pg} {Γ:Ct} {n:Nat} {RT Y old:Addr->Prop} {σ:Sg} {pos:BX}
theorem aHj{b:Ss}{body:List Br}{h0:Gx}{hs:List Gx}(M:Mc X P Γ n)(hb:PSs X body (wS X RT Y old σ (exs P (call P n) σ b))) :
 PS X (.Try body (h0::hs) [] [] pos) (wS X RT Y old σ (ex P (call P n) σ (.tryN b))):=by
 intro pins s σV H D I h
 refine wpAny_Try_except (Cd (hb pins s σV H D I h) (λf s1 q=>?_) λe s1 q=>?_)
 . cases f with
   | next=>exact CA q
   | _=>exact q
 . rw[M.xe] at q
   exact q.elim
theorem aHk{i j:Nat}{e:Ah}{y:Str}{q:BX}(M:Mc X P Γ n)(hc:eW Γ i "extend" e=some [.Name y q])(hy:aO Γ j y=true):PS X (.Expr e pos) (wS X RT Y old σ (ex P (call P n) σ (.extV i j))):=by
 obtain⟨x,p,ap,cp,rfl,hx,hl⟩:=fD hc
 refine aZ (eL (uF AV D9 DA qO (bU M hx) (bX (bU M hy) dO rfl) rfl rfl hl rfl rfl)) λD σV H t ⟨S,h⟩=>?_
 have h:OE X.K RT Y old H (match σ[j]? with|some (.own pa ds)=>if i≠j then put σ i ⟨.non,false,pa&&!noLs ds,if noLs ds then [] else [j]⟩ λes=>some (es++ds) else .bad|_=>.bad) D:=h
 split at h
 . rename_i pb es ej
   split at h
   . rename_i hij
     obtain⟨pa,ds,ds',q1,q2,q3,q4,hpost⟩:=sN h
     cases q3
     obtain⟨b,xs,h1,h2,h3,h4,h5⟩:=S.own i pa ds q1
     obtain⟨c,ys,k1,k2,k3,k4,k5⟩:=S.own j pb es ej
     have hlen:=h5.length
     have hlen2:=k5.length
     refine⟨.ref b,h1,.inl ⟨rfl,xs,SqL.of h2⟩,.ref c,k1,b,c,xs,ys,rfl,rfl,h2,k2,?_,λ_=>?_⟩
     . rw[lA] at q4
       have:=oR
       omega
     . refine kJ S (aL.refl H) t q1 q2 h1 (((kI S (aL.refl H) q1 h1 h2).weak λc z=>z.imp id kG).append ?_) hpost
       have rr:=dX (σ:=σ) (σV:=σV) (pa:=pb) (al:=[j]) (k5.weak λb z=>z.imp (·.1) id)
       exact rr.weak λc z=>z.imp id nO
   . exact h.elim
 . exact h.elim
mutual
theorem Rep.str{K:Fg}{H:Hp}{ex:Addr->Prop}(h:Hd K ex):∀(d:D) (v:V),Rep K H ex d v->Rep K H (λb=>ex b\/∀ys,H b≠some (.lst ys)) d v
 | .non,_,q=>q
 | .bl _,_,q=>q
 | .int _,_,q=>q
 | .str _,_,q=>q
 | .tup ds,_,q=>by
  obtain⟨a,xs,e,q,r⟩:=q
  exact⟨a,xs,e,q,Reps.str h ds xs r⟩
 | .lst ds,_,q=>by
  obtain⟨a,xs,e,q,n,r⟩:=q
  exact⟨a,xs,e,q,⟨λz=>z.elim n.1 λz=>z xs (n.2 h),λ_=>n.2 h⟩,Reps.str h ds xs r⟩
 | .dic kvs,_,q=>by
  obtain⟨a,ks,e,q,r⟩:=q
  exact⟨a,ks,e,q,RepKV.str h kvs ks r⟩
 | .err _ _,_,q=>q.elim
theorem Reps.str{K:Fg}{H:Hp}{ex:Addr->Prop}(h:Hd K ex):∀(ds:List D) (xs:List V),Reps K H ex ds xs->Reps K H (λb=>ex b\/∀ys,H b≠some (.lst ys)) ds xs
 | [],_,q=>q
 | d::ds,_,q=>by
  obtain⟨x,r,e,h1,h2⟩:=q
  exact⟨x,r,e,Rep.str h d x h1,Reps.str h ds r h2⟩
theorem RepKV.str{K:Fg}{H:Hp}{ex:Addr->Prop}(h:Hd K ex):∀(ds:List (D×D)) (xs:List (Key×V)),RepKV K H ex ds xs->RepKV K H (λb=>ex b\/∀ys,H b≠some (.lst ys)) ds xs
 | [],_,q=>q
 | (k,d)::ds,_,q=>by
  obtain⟨k',x,r,e,ek,h1,h2⟩:=q
  exact⟨k',x,r,e,ek,Rep.str h d x h1,RepKV.str h ds r h2⟩
end
theorem aCG{σV:L2.St}{H H1 H':Hp}{i:Nat}{ex:Addr->Prop}{ds:List D}{u:V}(hk:∃c,X.K.lookup c≠none)(S:Sx X.K RT Y old σ σV H)(s1:aL H H1)(s':aL H1 H')(t':Tk X.K H')(rr:Rr X.K H1 H' ex (.lst ds,true,false) u) :
 ∃N:Addr->Prop,(∀b,N b->H b=none)/\Sx X.K (λb=>RT b\/N b) Y old (σ.set i (.dp (some ds))) (σV.set i (some u)) H':=by
 unfold Rr at rr
 rw[if_pos rfl] at rr
 obtain⟨a,xs,ds',e1,e2,e3,e4,rr⟩:=rr
 cases e2
 subst e1
 obtain⟨N0,hd,hdd⟩:=S.lx.dp
 refine⟨λb=>H1 b=none/\∃ys,H' b=some (.lst ys),λb z=>s1.free z.1,S.putD (N:=λb=>H1 b=none/\∃ys,H' b=some (.lst ys)) (M:=λb=>H1 b=none/\∃ys,H' b=some (.lst ys)) hd hdd t' (λb z=>⟨s1.free z.1,z.2⟩) (λb u e _=>s' _ _ (s1 _ _ e)) (λb z=>z.2) (λb z=>.inl z) (λj o' b _ e z w=>?_) e4 ⟨e3.1,xs,e4⟩ λds' q=>?_⟩
 . obtain⟨_,_,_,_,_,g4,_⟩:=hd j o' e
   obtain⟨_,ys,y⟩:=g4 b z
   have w1:=w.1
   rw[s1 _ _ y] at w1
   cases w1
 . cases q
   obtain⟨c,hc⟩:=hk
   refine(Reps.str (ex:=λb=>b=a\/ex b\/((Prod.mk (D.lst ds) (true,false)).2.2=false/\Od X.K H1 b)) ⟨c,hc,.inr (.inr ⟨rfl,λ_=>hc⟩)⟩ ds xs rr).weak λb z=>?_
   rcases z with z|z
   . exact .inl (.inl z)
   . by_cases hb:H1 b=none
     . exact .inr λys q=>z ⟨hb,ys,q⟩
     . exact .inl (.inr (.inr ⟨rfl,λq=>absurd q hb⟩))
theorem aHl{i f:Nat}{cs:Es}{x g:Str}{p1 p2 cpos:BX}{es:List Ah}(M:Mc X P Γ n)(hx:aU Γ i x=true)(hf:Γ.fns[f]? = some g)(hg:bZ Γ g=true)(ho:bD g=true)(hn:es.isEmpty=false)(ha:PA X es (WA X P n RT Y old σ cs))(hp:es.all aK=true) :
 PS X (.Assign [.Name x p1] (.Call (.Name g p2) es [] cpos) pos) (wS X RT Y old σ (ex P (call P n) σ (.tldD i f cs))):=by
 obtain⟨fa,fd,ps,h1,h2,h3,h4⟩:=M.md.fn f g hf
 unfold aU at hx
 obtain⟨x1,x2,x3⟩:=cS hx
 cases es with
 | nil=>cases hn
 | cons e es=>
  have hp':aK e=true/\es.all aK=true:=by simpa using hp
  refine aZ (lL (i:=i) M.nd (by rw[M.N];exact eq_of_beq x1) (M.loc x2) (gC h4 M.room (M.gl hg) h1 h2 h3 .nil mQ ha (aJ ho) (aA hp'.1) (bE hp'.2)) rfl (M.st x x2)) λD σV H t ⟨S,h⟩=>?_
  have h:=OE.from (show OE X.K RT Y old H (O.from σ (evs P (call P n) σ cs) λvs=>O.from σ (call P n f (vs.map (·.d))) λr=>match r with
   | (.lst ds,true,false)=>.next (σ.set i (.dp (some ds)))
   | _=>.bad) D from h)
  refine⟨S,h.mono λvs hv us H1 t1 s1 r1=>?_⟩
  have S1:=S.grow s1 t1
  have hk:X.K.lookup fa≠none:=λz=>by simp[BG,z] at h2
  refine .inl ⟨vs.map (·.d),λb=>Od X.K H1 b/\exV RT Y old σ σV (aT vs) (bS vs) b,λa z=>z.1,by rw[Ax];exact r1.all.weak λa z=>z.2,(OE.from hv).mono λr hr u H' t' s' rr _=>?_⟩
  split at hr
  . rename_i ds
    obtain⟨N,hN,S2⟩:=aCG (i:=i) ⟨fa,hk⟩ S s1 s' t' rr
    exact(show cJ X.K RT Y old H (σ.set i (.dp (some ds))) D.nx from hr) _ _ _ (Kp.same (s1.trans s')) (λb z=>z.imp id (hN b)) S2
  . exact hr.elim
theorem aHm{i f j:Nat}{a:E}{x g y:Str}{p1 p2 p3 cpos:BX}{ea:Ah}(M:Mc X P Γ n)(hx:aU Γ i x=true)(hf:Γ.fns[f]? = some g)(hg:bZ Γ g=true)(ho:bD g=true)(hy:aO Γ j y=true)(ha:PE X ea (WE X P n RT Y old σ a))(hp:aK ea=true) :
 PS X (.Assign [.Name x p1] (.Call (.Name g p2) [ea,.Name y p3] [] cpos) pos) (wS X RT Y old σ (ex P (call P n) σ (.tldO i f a j))):=by
 obtain⟨fa,fd,ps,h1,h2,h3,h4⟩:=M.md.fn f g hf
 unfold aU at hx
 obtain⟨x1,x2,x3⟩:=cS hx
 refine aZ (lL (i:=i) M.nd (by rw[M.N];exact eq_of_beq x1) (M.loc x2) (gC h4 M.room (M.gl hg) h1 h2 h3 .nil mQ (bX ha (bX (bU M hy) dO rfl) (aA hp)) (aJ ho) (aA hp) (bE rfl)) rfl (M.st x x2)) λD σV H t ⟨S,h⟩=>?_
 have h:=OE.from (show OE X.K RT Y old H (O.from σ (ev P (call P n) σ a) λx=>match dG σ j with
  | some es=>O.from σ (call P n f [x.d,.lst es]) λr=>(match r with
   | (.lst ds,true,false)=>.next (σ.set i (.dp (some ds)))
   | _=>.bad)
  | none=>.bad) D from h)
 refine wE.one S h λv u H1 hv t1 S1 r1=>?_
 have hk:X.K.lookup fa≠none:=λz=>by simp[BG,z] at h2
 cases e:dG σ j with
 | none=>rw[e] at hv;exact hv.elim
 | some es=>
  rw[e] at hv
  obtain⟨b,g1,g2⟩:=S1.dpv e
  refine⟨.ref b,g1,.inl ⟨[v.d,.lst es],λ_=>False,λ_ z=>z.elim,⟨u,[.ref b],rfl,Rep.weak (r1.rv S) λ_ z=>z.elim,.ref b,[],rfl,g2,rfl⟩,(OE.from (show OE X.K RT Y old H (O.from σ (call P n f [v.d,.lst es]) λr=>(match r with
   | (.lst ds,true,false)=>.next (σ.set i (.dp (some ds)))
   | _=>.bad)) D from hv)).mono λr hr u' H' t' s' rr _=>?_⟩⟩
  split at hr
  . rename_i ds
    obtain⟨N,hN,S2⟩:=aCG (i:=i) ⟨fa,hk⟩ S r1.1 s' t' rr
    exact(show cJ X.K RT Y old H (σ.set i (.dp (some ds))) D.nx from hr) _ _ _ (Kp.same (r1.1.trans s')) (λb z=>z.imp id (hN b)) S2
  . exact hr.elim
theorem aHn{i:Nat}{e:Ah}(M:Mc X P Γ n)(hc:eW Γ i "clear" e=some []):PS X (.Expr e pos) (wS X RT Y old σ (ex P (call P n) σ (.clrD i))):=by
 obtain⟨x,p,ap,cp,rfl,hx,hl⟩:=fD hc
 refine aZ (eL (xK AV DG DH uH (bU M hx) rfl hl)) λD σV H t ⟨S,h⟩=>?_
 have h:OE X.K RT Y old H (match σ[i]? with|some (.dp _)=>.next (σ.set i (.dp none))|_=>.bad) D:=h
 split at h
 . rename_i o ei
   obtain⟨N0,hd,hdd⟩:=S.lx.dp
   obtain⟨b,xs,g1,g2,g3,g4,g5⟩:=hd i o ei
   refine⟨.ref b,g1,.inl ⟨rfl,xs,SqL.of g2⟩,b,xs,rfl,rfl,g2,λt'=>?_⟩
   have S2:=S.putD (H':=upd H b (.lst [])) (N:=λ_=>False) (M:=N0 i) (i:=i) (o:=none) (a:=b) (xs:=[]) hd hdd t' (λ_ z=>z.elim) (λc u e z=>by rw[aN λw=>z (by rw[w];exact g3)];exact e) (λc z=>by
    by_cases hc:c=b
    . exact⟨[],by rw[hc,aW]⟩
    . obtain⟨_,ys,y⟩:=g4 c z
      exact⟨ys,by rw[aN hc];exact y⟩) (λc z=>.inr (g4 c z).1) (λj o' c hj e z w=>hj (hdd j i o' o c e ei z w)) aW g3 (λ_ z=>by cases z)
   rw[aCF g1,show(λb=>RT b\/False)=RT by funext d;simp] at S2
   exact(show cJ X.K RT Y old H (σ.set i (.dp none)) D.nx from h) RT σV _ (λc u e z=>by rw[aN λw=>z (by rw[w];exact(g4 b g3).1.1)];exact e) (λ_ z=>.inl z) S2
 . exact h.elim
theorem Sx.wrk{σV σV':L2.St}{H H':Hp}{i r:Nat}{o:Option (List D)}{b:Addr}{xs:List V}{N0:Nat->Addr->Prop}(S:Sx X.K RT Y old σ σV H)(hd:∀(j:Nat) (o':Option (List D)),σ[j]? = some (.dp o')->Dpq X.K RT old σ σV H (N0 j) j o')
 (hdd:∀(j k:Nat) (o1 o2:Option (List D)) (b:Addr),σ[j]? = some (.dp o1)->σ[k]? = some (.dp o2)->N0 j b->N0 k b->j=k) (ei:σ[i]? = some (.dp o)) (hir:i≠r) (g1:σV[i]? = some (some (.ref b))) (g3:N0 i b) (g4:∀c,N0 i c->Pt RT old σ σV c/\∃ys,H c=some (.lst ys))
 (t:Tk X.K H') (hl:σV'.length=σV.length) (hj:∀j,r≠j->σV'[j]? = σV[j]?) (kp:∀c u,H c=some u->¬ N0 i c->H' c=some u) (kr:∀c,N0 i c->∃ys,H' c=some (.lst ys)) (hb:H' b=some (.lst xs)) :
 Sx X.K RT Y old ((σ.set r .dead).set i (.dp none)) σV' H':=by
 have S0:Sx X.K RT Y old (σ.set r .dead) σV' H:=(S.forget (σ':=σ.set r .dead) (by rw[Ay]) λj s hs=>by
  rcases set_some hs with⟨_,q,_⟩|⟨_,q⟩
  . exact .inl q.symm
  . exact .inr q).reV hl λj s hs=>by
    rcases set_some hs with⟨_,q,_⟩|⟨q,_⟩
    . exact .inl q.symm
    . exact .inr (hj j q)
 have pt:∀c,Pt RT old σ σV c->Pt RT old (σ.set r .dead) σV' c:=λc z=>⟨z.1,z.2.1,λk pa ds e=>by
  rcases set_some e with⟨_,q,_⟩|⟨q,e⟩
  . cases q
  . rw[hj k q];exact z.2.2 k pa ds e⟩
 have dpr:∀(j:Nat) (o':Option (List D)),(σ.set r .dead)[j]? = some (.dp o')->r≠j/\σ[j]? = some (.dp o'):=λj o' e=>by
  rcases set_some e with⟨_,q,_⟩|⟨q,e⟩
  . cases q
  . exact⟨q,e⟩
 have S2:=S0.putD (H':=H') (N:=λ_=>False) (M:=N0 i) (i:=i) (o:=none) (a:=b) (xs:=xs) (N0:=N0) (λj o' e=>by
  obtain⟨q,e⟩:=dpr j o' e
  obtain⟨a,xs,k1,k2,k3,k4,k5⟩:=hd j o' e
  exact⟨a,xs,by rw[hj j q];exact k1,k2,k3,λc z=>⟨pt c (k4 c z).1,(k4 c z).2⟩,k5⟩) (λj k o1 o2 c e1 e2=>hdd j k o1 o2 c (dpr j o1 e1).2 (dpr k o2 e2).2) t (λ_ z=>z.elim) kp kr (λc z=>.inr (pt c (g4 c z).1)) (λj o' c hji e z w=>hji (hdd j i o' o c (dpr j o' e).2 ei z w)) hb g3 (λ_ z=>by cases z)
 rw[aCF (show σV'[i]? = some (some (.ref b)) by rw[hj i (Cz hir)];exact g1),show(λb=>RT b\/False)=RT by funext d;simp] at S2
 exact S2
theorem aHo{i r:Nat}{z x y:Str}{p1 p2 p3 p4 p5:BX}{c ix:Ah}(M:Mc X P Γ n)(hz:aU Γ r z=true)(hx:aO Γ i x=true)(hc:eW Γ r "append" c=some [.Subscript (.Name y p5) ix p4])(hy:aO Γ r y=true)(hi:∀RT σ,PE X ix (WE X P n RT Y old σ (.c (.int 0))))(hpl:aK ix=true) :
 PS X (.For (.Name z p1) (.Name x p2) [.Expr c p3] [] pos) (wS X RT Y old σ (ex P (call P n) σ (.wrkA i r))):=by
 obtain⟨w,p,ap,cp,rfl,hw,hl⟩:=fD hc
 have hp:Dk (A3 X.prog X.w) X.A X.env X.xe:=by rw[M.xe];exact CB
 unfold aU at hz
 obtain⟨z1,z2,z3⟩:=cS hz
 refine aZ (rP hp M.calm (zF (bU M hx)) (nK M.nd (by rw[M.N];exact eq_of_beq z1) (M.loc z2) (M.st z z2)) (rN (eL (uF AV C7 C8 lP (bU M hw)
  (bX (qM zJ (bU M hy) (tb:=λσV H Q=>∃RT σ,WE X P n RT Y old σ (.c (.int 0)) σV H Q) (λpins s σV H Q I ⟨RT,σ,hw⟩=>hi RT σ pins s σV H Q I hw) (dP hpl)) dO rfl) rfl rfl hl rfl rfl)))) λD0 σV H t ⟨S,h⟩=>?_
 have h:=OE.tkE h
 revert h
 generalize tkE X.K D0=Dn
 intro h
 have h:OE X.K RT Y old H (match dG σ i with|some ds=>if i≠r/\r<σ.length/\ds.length<1000/\ds.all qR=true then .next ((σ.set r .dead).set i (.dp none)) else .bad|none=>.bad) Dn:=h
 cases e:dG σ i with
 | none=>rw[e] at h;exact h.elim
 | some ds=>
  rw[e] at h
  have h:OE X.K RT Y old H (if i≠r/\r<σ.length/\ds.length<1000/\ds.all qR=true then .next ((σ.set r .dead).set i (.dp none)) else .bad) Dn:=h
  split at h
  . rename_i hh
    obtain⟨hir,hrl,hdl,hds⟩:=hh
    have ei:=sG e
    obtain⟨N0,hd,hdd⟩:=S.lx.dp
    obtain⟨b,xs,g1,g2,g3,g4,g5⟩:=hd i _ ei
    have g5:=g5 ds rfl
    have rl:r<σV.length:=by rw[<-S.len];exact hrl
    refine⟨.ref b,g1,b,rfl,⟨_,SqL.of g2⟩,?_⟩
    have Sw:∀{σV':L2.St} {H':Hp},Tk X.K H'->σV'.length=σV.length->(∀j,r≠j->σV'[j]? = σV[j]?)->(∀c u,H c=some u->¬ (N0 i c/\c≠b)->H' c=some u)->(∀c ys,N0 i c->H c=some (.lst ys)->∃zs,H' c=some (.lst zs))->Sx X.K RT Y old ((σ.set r .dead).set i (.dp none)) σV' H':=λ{σV' H'} t hl hj kp kr=>
     S.wrk hd hdd ei hir g1 g3 g4 t hl hj (λc u q n=>kp c u q λz=>n z.1) (λc z=>by obtain⟨_,ys,y⟩:=g4 c z;exact kr c ys z y) (kp b _ g2 λz=>z.2 rfl)
    refine uB (xs:=xs) (λk σV' H'=>Tk X.K H'/\σV'.length=σV.length/\(∀j,r≠j->σV'[j]? = σV[j]?)/\(∀c u,H c=some u->¬ (N0 i c/\c≠b)->H' c=some u)/\∀c ys,N0 i c->H c=some (.lst ys)->∃zs,H' c=some (.lst zs)/\zs.length<=ys.length+k/\(ys≠[]->zs≠[]))
     ⟨t,rfl,λ_ _=>rfl,λ_ _ q _=>q,λc ys _ q=>⟨ys,q,Aj _,id⟩⟩ (λk σV' H' _ q=>SqL.of (q.2.2.2.1 b _ g2 λz=>z.2 rfl)) (λk v σV' H' ev q=>?_) (λσV' H' q=>?_)
    . obtain⟨tk,hl',hj,kp,kr⟩:=q
      have hk:k<ds.length:=by rw[g5.length];exact(Aw.mp ev).1
      obtain⟨v',e',rp⟩:=g5.get (Am hk)
      rw[ev] at e'
      cases e'
      have w1:=Az.mp hds _ (A9 hk)
      revert rp w1
      generalize ds[k]=d
      intro rp w1
      unfold qR at w1
      split at w1
      . rename_i d0 dr
        obtain⟨c,ys,rfl,sq,⟨nc,_⟩,rs⟩:=rp
        have hcb:c≠b:=λw=>nc (.inl w)
        have hcn:N0 i c:=AF λw=>nc (.inr w)
        obtain⟨_,ys',hy'⟩:=g4 c hcn
        cases SqL.eq S.tk hy' sq
        obtain⟨zs,y1,y2,y3⟩:=kr c _ hcn hy'
        have hlen:=rs.length
        have hne:zs≠[]:=y3 λw=>by rw[w] at hlen;cases hlen
        have vr:(σV'.set r (some (.ref c)))[r]? = some (some (.ref c)):=Ap (by rw[hl'];exact rl)
        have hj':∀j,r≠j->(σV'.set r (some (.ref c)))[j]? = σV[j]? := λj w=>by rw[Ac w];exact hj j w
        have S2:=Sw (σV':=σV'.set r (some (.ref c))) tk (by rw[Ay];exact hl') hj' kp λc ys z q=>by obtain⟨zs,q,_⟩:=kr c ys z q;exact⟨zs,q⟩
        refine⟨.ref c,vr,.inl ⟨rfl,zs,SqL.of y1⟩,.ref c,vr,RT,_,S2,λu H1 t1 r1=>?_⟩
        have hu:u=.int 0:=(r1.rv S2).int rfl
        subst hu
        have s1:=r1.1
        cases zs with
        | nil=>exact absurd rfl hne
        | cons y0 yr=>
         have hsz:(y0::yr).length<sizeLine:=by
          have:=of_decide_eq_true w1
          rw[lC] at hlen
          have:=oR
          have:lim=1000000:=rfl
          omega
         have tk2:Tk X.K (upd H1 c (.lst (y0::yr++[y0]))):=λd hd=>by
          by_cases hdc:d=c
          . subst hdc;exact t1 d (by rw[s1 _ _ y1];simp)
          . rw[aN hdc] at hd;exact t1 d hd
         refine⟨c,y0::yr,0,y0,rfl,rfl,SqL.of (s1 _ _ y1),(by simp[atI,L2.ixN]),c,y0::yr,y0,rfl,rfl,s1 _ _ y1,hsz,tk2,by rw[Ay];exact hl',hj',λa u q n=>?_,λa as za q=>?_⟩
         . rw[aN λw=>n (by rw[w];exact⟨hcn,hcb⟩)]
           exact s1 _ _ (kp a u q n)
         . obtain⟨bs,b1,b2,b3⟩:=kr a as za q
           by_cases hac:a=c
           . subst hac
             rw[y1] at b1
             cases b1
             exact⟨_,aW,by rw[lA];simp at b2 ⊢;omega,λ_=>by simp⟩
           . exact⟨bs,by rw[aN hac];exact s1 _ _ b1,by omega,b3⟩
      . cases w1
    . obtain⟨tk,hl',hj,kp,kr⟩:=q
      exact h RT σV' H' (λc u q n=>kp c u q λz=>n (g4 c z.1).1.1) (λ_ w=>.inl w) (Sw tk hl' hj kp λc ys z q=>by obtain⟨zs,q,_⟩:=kr c ys z q;exact⟨zs,q⟩)
  . exact h.elim
theorem aHp{i r:Nat}{w z x y y':Str}{p1 p2 p3 p4 p5 p6 p7 p8 p9 ap cp:BX}{ce ix ix':Ah}(M:Mc X P Γ n)(hz:aU Γ r z=true)(hx:aO Γ i x=true)(hy:aO Γ r y=true)(hy':aO Γ r y'=true)(hl:(ap.endLine==cp.line)=true)
 (hi:∀RT σ,PE X ix (WE X P n RT Y old σ (.c (.int 0)))) (hpl:aK ix=true) (hi':∀RT σ,PE X ix' (WE X P n RT Y old σ (.c (.int 2)))) (hpl':aK ix'=true) (hc:∀RT σ,PE X ce (WE X P n RT Y old σ (.c (.str w)))) (hpc:aK ce=true) :
 PS X (.For (.Name z p1) (.Name x p2) [.If (.Compare (.Subscript (.Name y p3) ix p4) [.Eq] [ce] p5) [.Expr (.Call (.Attribute (.Subscript (.Name y' p6) ix' p7) "clear" ap) [] [] cp) p8] [] p9] [] pos) (wS X RT Y old σ (ex P (call P n) σ (.wrkC i r w))):=by
 have hp:Dk (A3 X.prog X.w) X.A X.env X.xe:=by rw[M.xe];exact CB
 unfold aU at hz
 obtain⟨z1,z2,z3⟩:=cS hz
 have any:∀{e:Ah} {k:E},(∀RT σ,PE X e (WE X P n RT Y old σ k))->PE X e (λσV H Q=>∃RT σ,WE X P n RT Y old σ k σV H Q):=λhk pins s σV H Q I ⟨RT,σ,hw⟩=>hk RT σ pins s σV H Q I hw
 refine aZ (rP hp M.calm (zF (bU M hx)) (nK M.nd (by rw[M.N];exact eq_of_beq z1) (M.loc z2) (M.st z z2)) (rN (aBG (nL (eM (RT:=λ_=>False) (Y:=λ_=>False) (old:=λ_=>False) M .Eq) (qM xH (bU M hy) (any hi) (dP hpl)) (any hc) (fS hpc))
  (rN (eL (xK AV DG DH uH (qM xH (bU M hy') (any hi') (dP hpl')) rfl hl))) zE))) λD0 σV H t ⟨S,h⟩=>?_
 have h:=OE.tkE h
 revert h
 generalize tkE X.K D0=Dn
 intro h
 have h:OE X.K RT Y old H (match dG σ i with|some ds=>if i≠r/\r<σ.length/\ds.all (jD w)=true then .next ((σ.set r .dead).set i (.dp none)) else .bad|none=>.bad) Dn:=h
 cases e:dG σ i with
 | none=>rw[e] at h;exact h.elim
 | some ds=>
  rw[e] at h
  have h:OE X.K RT Y old H (if i≠r/\r<σ.length/\ds.all (jD w)=true then .next ((σ.set r .dead).set i (.dp none)) else .bad) Dn:=h
  split at h
  . rename_i hh
    obtain⟨hir,hrl,hds⟩:=hh
    have ei:=sG e
    obtain⟨N0,hd,hdd⟩:=S.lx.dp
    obtain⟨b,xs,g1,g2,g3,g4,g5⟩:=hd i _ ei
    have g5:=g5 ds rfl
    have rl:r<σV.length:=by rw[<-S.len];exact hrl
    refine⟨.ref b,g1,b,rfl,⟨_,SqL.of g2⟩,?_⟩
    have Sw:∀{σV':L2.St} {H':Hp},Tk X.K H'->σV'.length=σV.length->(∀j,r≠j->σV'[j]? = σV[j]?)->(∀c u,H c=some u->¬ (N0 i c/\c≠b)->H' c=some u)->(∀c,N0 i c->∃zs,H' c=some (.lst zs))->Sx X.K RT Y old ((σ.set r .dead).set i (.dp none)) σV' H':=λ{σV' H'} t hl hj kp kr=>
     S.wrk hd hdd ei hir g1 g3 g4 t hl hj (λc u q n=>kp c u q λz=>n z.1) kr (kp b _ g2 λz=>z.2 rfl)
    refine uB (xs:=xs) (λk σV' H'=>Tk X.K H'/\σV'.length=σV.length/\(∀j,r≠j->σV'[j]? = σV[j]?)/\(∀c u,H c=some u->¬ (N0 i c/\c≠b)->H' c=some u)/\∀c,N0 i c->∃zs,H' c=some (.lst zs))
     ⟨t,rfl,λ_ _=>rfl,λ_ _ q _=>q,λc z=>(g4 c z).2⟩ (λk σV' H' _ q=>SqL.of (q.2.2.2.1 b _ g2 λz=>z.2 rfl)) (λk v σV' H' ev q=>?_) (λσV' H' q=>?_)
    . obtain⟨tk,hl',hj,kp,kr⟩:=q
      have hk:k<ds.length:=by rw[g5.length];exact(Aw.mp ev).1
      obtain⟨v',e',rp⟩:=g5.get (Am hk)
      rw[ev] at e'
      cases e'
      have w1:=Az.mp hds _ (A9 hk)
      revert rp w1
      generalize ds[k]=d
      intro rp w1
      unfold jD at w1
      split at w1
      . rename_i s0 es
        obtain⟨a,ws,rfl,sq,v0,wr,rfl,r0,rs⟩:=rp
        have hv0:v0=.str s0:=r0
        subst hv0
        have vr:(σV'.set r (some (.ref a)))[r]? = some (some (.ref a)):=Ap (by rw[hl'];exact rl)
        have hj':∀j,r≠j->(σV'.set r (some (.ref a)))[j]? = σV[j]? := λj w=>by rw[Ac w];exact hj j w
        have hl2:(σV'.set r (some (.ref a))).length=σV.length:=by rw[Ay];exact hl'
        have S2:=Sw tk hl2 hj' kp kr
        have sqT:∀{H1:Hp},aL H' H1->SqT X.K H1 a (.str s0::wr):=λ{H1} s1=>by
         refine aL.seqT s1 ?_
         have nl:∀c u,H c=some u->(∀zs,u≠.lst zs)->H' c=some u:=λc u q no=>kp c u q λz=>by
          obtain⟨_,ys,y⟩:=g4 c z.1
          rw[q] at y
          cases y
          exact no _ rfl
         rcases sq with(q|⟨o,q⟩)|q
         . exact .inl (.inl (nl _ _ q λ_ w=>by cases w))
         . exact .inl (.inr ⟨o,nl _ _ q λ_ w=>by cases w⟩)
         . exact .inr q
        refine⟨.ref a,vr,RT,_,S2,λu H1 t1 r1=>?_⟩
        have hu:u=.int 0:=(r1.rv S2).int rfl
        subst hu
        have s1:=r1.1
        have S3:=S2.grow s1 t1
        refine⟨a,_,0,.str s0,rfl,rfl,sqT s1,(by simp[atI,L2.ixN]),RT,_,S3,λu H2 t2 r2=>?_⟩
        have hu:u=.str w:=(r2.rv S3).str rfl
        subst hu
        have s2:=r2.1
        refine⟨[],[],.cl (.str s0),.cl (.str w),s0==w,rfl,rfl,rfl,s0==w,rfl,?_⟩
        cases hb:(s0==w) with
        | true=>
         have hw:s0=w:=eq_of_beq hb
         rw[if_pos rfl]
         rw[if_pos hw] at w1
         split at w1
         . rename_i d1 fs dr
           obtain⟨v1,wr1,rfl,_,v2,wr2,rfl,⟨c,ys,rfl,_,⟨nc,_⟩,_⟩,_⟩:=rs
           have hcb:c≠b:=λw=>nc (.inl w)
           have hcn:N0 i c:=AF λw=>nc (.inr w)
           obtain⟨zs,y1⟩:=kr c hcn
           have S4:=S3.grow s2 t2
           refine⟨.ref a,vr,RT,_,S4,λu H3 t3 r3=>?_⟩
           have hu:u=.int 2:=(r3.rv S4).int rfl
           subst hu
           have s3:=(s1.trans s2).trans r3.1
           refine⟨a,_,2,.ref c,rfl,rfl,sqT s3,(by simp only[atI,L2.ixN,lC];rw[if_pos (by decide),if_pos (by omega)];rfl),.inl ⟨rfl,zs,SqL.of (s3 _ _ y1)⟩,c,zs,rfl,rfl,s3 _ _ y1,?_⟩
           have tk2:Tk X.K (upd H3 c (.lst [])):=λd hd=>by
            by_cases hdc:d=c
            . subst hdc;exact t3 d (by rw[s3 _ _ y1];simp)
            . rw[aN hdc] at hd;exact t3 d hd
           refine⟨tk2,hl2,hj',λa u q n=>?_,λa za=>?_⟩
           . rw[aN λw=>n (by rw[w];exact⟨hcn,hcb⟩)]
             exact s3 _ _ (kp a u q n)
           . by_cases hac:a=c
             . exact⟨[],by rw[hac,aW]⟩
             . obtain⟨bs,b1⟩:=kr a za
               exact⟨bs,by rw[aN hac];exact s3 _ _ b1⟩
         . cases w1
        | false=>
         rw[if_neg bN]
         exact⟨t2,hl2,hj',λa u q n=>(s1.trans s2) _ _ (kp a u q n),λa za=>by obtain⟨bs,b1⟩:=kr a za;exact⟨bs,(s1.trans s2) _ _ b1⟩⟩
      . cases w1
    . obtain⟨tk,hl',hj,kp,kr⟩:=q
      exact h RT σV' H' (λc u q n=>kp c u q λz=>n (g4 c z.1).1.1) (λ_ w=>.inl w) (Sw tk hl' hj kp kr)
  . exact h.elim
end
section
variable {P:Pg} {n:Nat} {Y old:Addr->Prop}
theorem aCH{Γ:Ct}{is:List Nat}{tg:Ah}(h:iB Γ (.t is) tg=true):∃es k p,tg=.Tuple es k p:=by
 cases tg with
 | Tuple es k p=>exact⟨es,k,p,rfl⟩
 | _=>cases h
theorem aBi{Γ:Ct}{i:Nat}{tg:Ah}(h:iB Γ (.n i) tg=true):∃x p,tg=.Name x p/\aU Γ i x=true:=by
 cases tg with
 | Name x p=>exact⟨x,p,rfl,h⟩
 | _=>cases h
theorem lW{Γ:Ct}{i:Nat}{m:Str}{c:Ah}{xs:List Ah}(h:eW Γ i m c=some xs):fM c=false/\oD c=false:=by
 obtain⟨x,p,ap,cp,rfl,_⟩:=fD h
 exact⟨rfl,rfl⟩
theorem aBj{Γ:Ct}{c:E}{e:Ah}(h:aQ Γ c e=true)(hc:fM e=true):∃k caps t it cond elt,c=.comp k caps t it cond elt:=by
 cases c with
 | comp k caps t it cond elt=>exact⟨k,caps,t,it,cond,elt,rfl⟩
 | c d=>
  rcases(BM _ _).mp (show(oS (asC e) (eqC d)||oS (asN e) λx=>bZ Γ x&&bD x&&oB (Γ.cns.lookup x) (eqK d))=true from h) with h|h
  . obtain⟨_,⟨_,_,rfl⟩,_⟩:=aB h;cases hc
  . obtain⟨_,⟨_,rfl⟩,_⟩:=aB h;cases hc
 | v i=>obtain⟨_,⟨_,rfl⟩,_⟩:=aB h;cases hc
 | op o a b=>obtain⟨_,⟨_,rfl⟩,_⟩:=aB h;cases hc
 | neg a=>obtain⟨_,⟨_,rfl⟩,_⟩:=aB h;cases hc
 | nt a=>obtain⟨_,⟨_,rfl⟩,_⟩:=aB h;cases hc
 | an a b=>obtain⟨_,rfl,_⟩:=aB h;cases hc
 | orr a b=>obtain⟨_,rfl,_⟩:=aB h;cases hc
 | ife t a b=>obtain⟨_,⟨_,rfl⟩,_⟩:=aB h;cases hc
 | cmp o a b=>obtain⟨_,⟨_,rfl⟩,_⟩:=aB h;cases hc
 | cmp2 o1 o2 a b c=>obtain⟨_,⟨_,rfl⟩,_⟩:=aB h;cases hc
 | idx a b=>obtain⟨_,⟨_,rfl⟩,_⟩:=aB h;cases hc
 | sli a lo hi=>obtain⟨_,⟨_,rfl⟩,_⟩:=aB h;cases hc
 | tup es=>obtain⟨_,⟨_,_,rfl⟩,_⟩:=aB h;cases hc
 | lst es=>obtain⟨_,⟨_,rfl⟩,_⟩:=aB h;cases hc
 | call f es=>obtain⟨_,⟨_,_,rfl⟩,_⟩:=aB h;cases hc
 | bi b es=>obtain⟨_,⟨_,_,rfl⟩,_⟩:=aB h;cases hc
 | mth _ _ _=>cases h
 | isi a cs=>obtain⟨_,⟨_,_,rfl⟩,_⟩:=aB h;cases hc
 | numset _=>cases h
 | tget i a=>obtain⟨_,⟨_,_,rfl,_⟩,_⟩:=aB h;cases hc
 | lzip _ _=>cases h
 | dic ks vs=>cases h
 | lix i k=>obtain⟨_,⟨_,rfl⟩,_⟩:=aB h;cases hc
 | stp _ _=>cases h
 | callO f a i=>obtain⟨_,⟨_,_,rfl⟩,_⟩:=aB h;cases hc
 | neO i a=>obtain⟨_,⟨_,rfl⟩,_⟩:=aB h;cases hc
 | attr _ _=>cases h
theorem m1{Γ:Ct}{i:Nat}{m:Str}{c:Ah}{f:Ah->Bool}(h:(match eW Γ i m c with|some [a]=>f a|_=>false)=true):∃a,eW Γ i m c=some [a]/\f a=true:=by
 split at h
 . rename_i a q;exact⟨a,q,h⟩
 . cases h
theorem m0{Γ:Ct}{i:Nat}{m:Str}{c:Ah}(h:(match eW Γ i m c with|some []=>true|_=>false)=true):eW Γ i m c=some []:=by
 split at h
 . rename_i q;exact q
 . cases h
abbrev QS(P:Pg)(n:Nat)(Y old:Addr->Prop)(c:S):Prop:=∀{X:Cx} {Γ:Ct},Mc X P Γ n->∀{st:Br},cR Γ c st=true->∀(RT:Addr->Prop) (σ:Sg),PS X st (wS X RT Y old σ (ex P (call P n) σ c))
abbrev QSs(P:Pg)(n:Nat)(Y old:Addr->Prop)(c:Ss):Prop:=∀{X:Cx} {Γ:Ct},Mc X P Γ n->∀{st:List Br},chkSs Γ c st=true->∀(RT:Addr->Prop) (σ:Sg),PSs X st (wS X RT Y old σ (exs P (call P n) σ c))
theorem aJV{t:T}{e:E}:QS P n Y old (.set t e):=λ{X Γ} M {st} h RT σ=>by
 unfold cR at h
 obtain⟨⟨tg,v⟩,⟨p,rfl⟩,g⟩:=aB h
 clear h
 obtain⟨h1,h2,h3⟩:=cS g
 clear g
 cases t with
 | n i=>
  obtain⟨x,p,e1,hx⟩:=aBi h1
  have e1:tg=.Name x p:=e1
  subst e1
  cases hc:fM v with
  | false=>exact aGU M hx (sE e M h2 RT Y old σ) hc
  | true=>
   obtain⟨k,caps,t,it,cond,elt,rfl⟩:=aBj h2 hc
   obtain⟨el,tg,iter,ifs,scope,cpos,e2,O,g1,g2,g3,g4,g5⟩:=zW h2
   have e2:v=.ListComp el [⟨tg,iter,ifs,0⟩] scope cpos:=e2
   subst e2
   refine aBh M hx (O.scope M) O.ndc O.tk (sI it M g3 RT Y old σ) (λC s₀ H₀ ex=>?_) (fR (jM g3))
   have M':=O.mc M C s₀ H₀ ex
   exact⟨xX M' g2,λRT Y old σ1=>sTs cond M' g1 g4 RT Y old σ1,λRT Y old σ1=>sE elt M' g5 RT Y old σ1⟩
 | t is=>
  obtain⟨es,k,p,e1⟩:=aCH h1
  have e1:tg=.Tuple es k p:=e1
  subst e1
  refine aGV M h1 (sE e M h2 RT Y old σ) ?_
  have:(false||!oD v)=true:=h3
  simpa using this
theorem aJW{i j:Nat}:QS P n Y old (.mov i j):=λ{X Γ} M {st} h RT σ=>by
 unfold cR at h
 obtain⟨⟨tg,v⟩,⟨p,rfl⟩,g⟩:=aB h
 clear h
 obtain⟨x,⟨p1,e1⟩,g⟩:=aB g
 obtain⟨y,⟨p2,e2⟩,g⟩:=aB g
 have e1:tg=.Name x p1:=e1
 have e2:v=.Name y p2:=e2
 subst e1 e2
 obtain⟨h1,h2⟩:=cA g
 exact aJP M h1 h2
theorem aJX{i:Nat}{e:E}:QS P n Y old (.app i e):=λ{X Γ} M {st} h RT σ=>by
 unfold cR at h
 obtain⟨c,⟨p,rfl⟩,g⟩:=aB h
 obtain⟨a,h1,h2⟩:=m1 (f:=λa=>aQ Γ e a) g
 exact aJN M h1 (sE e M h2 RT Y old σ) (aI h2)
theorem aJY{i:Nat}{e:E}:QS P n Y old (.ext i e):=λ{X Γ} M {st} h RT σ=>by
 unfold cR at h
 obtain⟨c,⟨p,rfl⟩,g⟩:=aB h
 obtain⟨a,h1,h2⟩:=m1 (f:=λa=>aQ Γ e a) g
 exact aJO M h1 (sE e M h2 RT Y old σ) (aI h2)
theorem aEz{i:Nat}:QS P n Y old (.pop none i none):=λ{X Γ} M {st} h RT σ=>by
 unfold cR at h
 obtain⟨c,⟨p,rfl⟩,g⟩:=aB h
 have h1:=m0 (Γ:=Γ) (i:=i) (m:= "pop") (c:=c) g
 exact aGX (aCD M h1) (lW h1).1
theorem aEA{i:Nat}{t:T}:QS P n Y old (.pop (some t) i none):=λ{X Γ} M {st} h RT σ=>by
 unfold cR at h
 obtain⟨⟨tg,c⟩,⟨p,rfl⟩,g⟩:=aB h
 obtain⟨h0,g⟩:=cA g
 have h1:=m0 g
 exact aGY M h0 (aCD M h1) (lW h1).1 (lW h1).2
theorem aJZ{e:E}:QS P n Y old (.ret e):=λ{X Γ} M {st} h RT σ=>by
 unfold cR at h
 obtain⟨r,⟨p,rfl⟩,g⟩:=aB h
 clear h
 obtain⟨v,e1,g⟩:=uT g
 subst e1
 exact aJM (sE e M g RT Y old σ)
theorem aHq{i:Nat}:QS P n Y old (.retv i):=λ{X Γ} M {st} h RT σ=>by
 unfold cR at h
 obtain⟨r,⟨p,rfl⟩,g⟩:=aB h
 clear h
 obtain⟨v,e1,g⟩:=uT g
 subst e1
 obtain⟨x,⟨p1,e2⟩,g⟩:=aB g
 have e2:v=.Name x p1:=e2
 subst e2
 exact aGT M g
theorem aHr:QS P n Y old .retN:=λ{X Γ} M {st} h RT σ=>by
 unfold cR at h
 obtain⟨r,⟨p,rfl⟩,g⟩:=aB h
 cases r with
 | none=>exact aGS
 | some _=>cases g
theorem aKa{c:E}{a b:Ss}(ha:QSs P n Y old a)(hb:QSs P n Y old b):QS P n Y old (.iff c a b):=λ{X Γ} M {st} h RT σ=>by
 unfold cR at h
 obtain⟨⟨t,x,y⟩,⟨p,rfl⟩,g⟩:=aB h
 obtain⟨h1,h2,h3⟩:=cS g
 exact aLD (sT c M h1 RT Y old σ) (ha M h2) (hb M h3)
theorem aKb{t:T}{it:Hp.It}{b:Ss}(hb:QSs P n Y old b):QS P n Y old (.for t it b):=λ{X Γ} M {st} h RT σ=>by
 unfold cR at h
 obtain⟨⟨tg,iter,body⟩,⟨p,rfl⟩,g⟩:=aB h
 obtain⟨h1,h2,h3⟩:=cS g
 exact aJQ M h1 (sI it M h2 RT Y old σ) (hb M h3) (fR (jM h2))
theorem aKc{c:E}{b:Ss}(hb:QSs P n Y old b):QS P n Y old (.whl c b):=λ{X Γ} M {st} h RT σ=>by
 unfold cR at h
 obtain⟨⟨t,body⟩,⟨p,rfl⟩,g⟩:=aB h
 obtain⟨h1,h2⟩:=cA g
 exact aJR M (λRT σ=>sT c M h1 RT Y old σ) (hb M h2)
theorem aKd:QS P n Y old .brk:=λ{X Γ} M {st} h RT σ=>by
 unfold cR at h
 obtain⟨_,⟨p,rfl⟩,_⟩:=aB h
 exact aJJ
theorem aKe:QS P n Y old .cnt:=λ{X Γ} M {st} h RT σ=>by
 unfold cR at h
 obtain⟨_,⟨p,rfl⟩,_⟩:=aB h
 exact aJK
theorem aHs:QS P n Y old .pass:=λ{X Γ} M {st} h RT σ=>by
 unfold cR at h
 obtain⟨_,⟨p,rfl⟩,_⟩:=aB h
 exact aGR
theorem aLF{e:E}:QS P n Y old (.ex e):=λ{X Γ} M {st} h RT σ=>by
 unfold cR at h
 obtain⟨v,⟨p,rfl⟩,g⟩:=aB h
 obtain⟨h1,h2⟩:=cA g
 exact aLC (sE e M h1 RT Y old σ) (by simpa using h2)
theorem aKf{c:Nat}{k:Bool}{es:Es}:QS P n Y old (.rse c k es):=by
 intro X Γ M st h RT σ
 exact aJL
theorem kK{c:S}(z:∀Γ st,cR Γ c st=false):QS P n Y old c:=by
 intro X Γ M st h RT σ
 rw[z] at h
 cases h
theorem aHt{b:Ss}(hb:QSs P n Y old b):QS P n Y old (.tryN b):=λ{X Γ} M {st} h RT σ=>by
 unfold cR at h
 obtain⟨r,⟨hd,hs,p,rfl⟩,g⟩:=aB h
 exact aHj M (hb M g RT σ)
theorem aHu{i j:Nat}:QS P n Y old (.extV i j):=λ{X Γ} M {st} h RT σ=>by
 unfold cR at h
 obtain⟨c,⟨p,rfl⟩,g⟩:=aB h
 obtain⟨a,h1,h2⟩:=m1 (f:=λa=>oS (asN a) (λx=>aO Γ j x)) g
 obtain⟨x,⟨p2,rfl⟩,h3⟩:=aB h2
 exact aHk M h1 h3
theorem aHv{i f:Nat}{es:Es}:QS P n Y old (.tldD i f es):=λ{X Γ} M {st} h RT σ=>by
 unfold cR at h
 obtain⟨⟨tg,v⟩,⟨p,rfl⟩,g⟩:=aB h
 obtain⟨x,⟨p1,e1⟩,g⟩:=aB g
 have e1:tg=.Name x p1:=e1
 subst e1
 obtain⟨hx,g⟩:=cA g
 obtain⟨⟨y,ys⟩,⟨p2,p3,e2⟩,g⟩:=aB g
 have e2:v=.Call (.Name y p2) ys [] p3:=e2
 subst e2
 obtain⟨g,h5⟩:=cA g
 obtain⟨h1,h2,h3,h4⟩:=sL g
 exact aHl M hx (eq_of_beq h1) h2 h3 (by simpa using h4) ((qA es).a M h5 RT Y old σ) (fB h5)
theorem aHw{i f j:Nat}{a:E}:QS P n Y old (.tldO i f a j):=λ{X Γ} M {st} h RT σ=>by
 unfold cR at h
 obtain⟨⟨tg,v⟩,⟨p,rfl⟩,g⟩:=aB h
 obtain⟨x,⟨p1,e1⟩,g⟩:=aB g
 have e1:tg=.Name x p1:=e1
 subst e1
 obtain⟨hx,g⟩:=cA g
 obtain⟨⟨y,ys⟩,⟨p2,p3,e2⟩,g⟩:=aB g
 have e2:v=.Call (.Name y p2) ys [] p3:=e2
 subst e2
 obtain⟨h1,h2,h3,h4⟩:=sL g
 rcases ys with _|⟨ea,_|⟨z,_|⟨_,_⟩⟩⟩
 . cases h4
 . cases h4
 . obtain⟨h5,h6⟩:=cA (show(aQ Γ a ea&&oS (asN z) (λw=>aO Γ j w))=true from h4)
   obtain⟨w,⟨p4,e4⟩,h7⟩:=aB h6
   have e4:z=.Name w p4:=e4
   subst e4
   exact aHm M hx (eq_of_beq h1) h2 h3 h7 (sE a M h5 RT Y old σ) (aI h5)
 . cases h4
theorem aHx{i r:Nat}:QS P n Y old (.wrkA i r):=λ{X Γ} M {st} h RT σ=>by
 unfold cR at h
 obtain⟨⟨tg,it,bd⟩,⟨p,rfl⟩,g⟩:=aB h
 obtain⟨z,⟨p1,e1⟩,g⟩:=aB g
 have e1:tg=.Name z p1:=e1
 subst e1
 obtain⟨hz,g2,g3⟩:=cS g
 obtain⟨x,⟨p2,e2⟩,hx⟩:=aB g2
 have e2:it=.Name x p2:=e2
 subst e2
 rcases bd with _|⟨t,_|⟨_,_⟩⟩
 . cases g3
 . obtain⟨c,⟨p3,rfl⟩,g4⟩:=aB g3
   obtain⟨a,h1,h2⟩:=m1 (f:=λa=>oS (jW a) (λq=>oS (asN q.1) (λz=>aO Γ r z)&&aQ Γ (.c (.int 0)) q.2)) g4
   obtain⟨⟨w,ix⟩,⟨p4,rfl⟩,g5⟩:=aB h2
   obtain⟨g6,g7⟩:=cA g5
   obtain⟨y,⟨p5,e5⟩,hy⟩:=aB g6
   have e5:w=.Name y p5:=e5
   subst e5
   exact aHo M hz hx h1 hy (λRT σ=>sE (.c (.int 0)) M g7 RT Y old σ) (aI g7)
 . cases g3
theorem aHy{i r:Nat}{w:Str}:QS P n Y old (.wrkC i r w):=λ{X Γ} M {st} h RT σ=>by
 unfold cR at h
 obtain⟨⟨tg,it,bd⟩,⟨p,rfl⟩,g⟩:=aB h
 obtain⟨z,⟨p1,e1⟩,g⟩:=aB g
 have e1:tg=.Name z p1:=e1
 subst e1
 obtain⟨hz,g2,g3⟩:=cS g
 obtain⟨x,⟨p2,e2⟩,hx⟩:=aB g2
 have e2:it=.Name x p2:=e2
 subst e2
 rcases bd with _|⟨b,_|⟨_,_⟩⟩
 . cases g3
 . obtain⟨⟨te,th,el⟩,⟨p3,rfl⟩,g4⟩:=aB g3
   rcases th with _|⟨s,_|⟨_,_⟩⟩
   . cases g4
   . cases el with
     | cons _ _=>cases g4
     | nil=>
      obtain⟨g5,g6⟩:=cA g4
      clear g4 g3 g
      obtain⟨⟨lh,os,rs⟩,⟨p5,e5⟩,g7⟩:=aB g5
      clear g5
      obtain⟨c,⟨p8,e9⟩,g8⟩:=aB g6
      clear g6
      obtain⟨⟨rc,m,as,ln⟩,⟨ap,cp,e10,el⟩,g9⟩:=aB g8
      clear g8
      have e5:te=.Compare lh os rs p5:=e5
      have e9:s=.Expr c p8:=e9
      have e10:c=.Call (.Attribute rc m ap) as [] cp:=e10
      have el:(ap.endLine==cp.line)=ln:=el
      subst e10
      subst e9
      subst e5
      obtain⟨l1,l2,l3,l4⟩:=sL g9
      have lm:m=("clear" : Str):=eq_of_beq l1
      clear l1
      obtain⟨⟨o2,ix'⟩,⟨p9,e11⟩,l5⟩:=aB l4
      clear l4 g9
      obtain⟨l6,l7⟩:=cA l5
      clear l5
      obtain⟨y',⟨p10,e12⟩,hy'⟩:=aB l6
      clear l6
      have e11:rc=.Subscript o2 ix' p9:=e11
      have e12:o2=.Name y' p10:=e12
      subst e12
      subst e11
      subst lm
      cases as with
      | cons _ _=>cases l2
      | nil=>
      rcases os with _|⟨o,_|⟨_,_⟩⟩
      . cases g7
      . rcases rs with _|⟨ce,_|⟨_,_⟩⟩
        . cases g7
        . obtain⟨k1,k2,k3⟩:=cS g7
          clear g7
          have e6:HA=o:=eq_of_beq k1
          obtain⟨⟨o1,ix⟩,⟨p6,e7⟩,k4⟩:=aB k3
          clear k3
          obtain⟨k5,k6⟩:=cA k4
          clear k4
          obtain⟨y,⟨p7,e8⟩,hy⟩:=aB k5
          clear k5
          have e7:lh=.Subscript o1 ix p6:=e7
          have e8:o1=.Name y p7:=e8
          subst e8
          subst e7
          subst e6
          exact aHp M hz hx hy hy' (el.trans l3) (λRT σ=>sE (.c (.int 0)) M k6 RT Y old σ) (aI k6) (λRT σ=>sE (.c (.int 2)) M l7 RT Y old σ) (aI l7) (λRT σ=>sE (.c (.str w)) M k2 RT Y old σ) (aI k2)
        . cases g7
      . cases g7
   . cases g4
 . cases g3
theorem aHz{i:Nat}:QS P n Y old (.clrD i):=λ{X Γ} M {st} h RT σ=>by
 unfold cR at h
 obtain⟨c,⟨p,rfl⟩,g⟩:=aB h
 exact aHn M (m0 g)
theorem aHA{i:Nat}{k e:E}:QS P n Y old (.lset i k e):=λ{X Γ} M {st} h RT σ=>by
 unfold cR at h
 obtain⟨⟨tg,v⟩,⟨p,rfl⟩,g⟩:=aB h
 clear h
 obtain⟨⟨o,ix⟩,⟨p1,e1⟩,g⟩:=aB g
 obtain⟨x,⟨p2,e2⟩,g⟩:=aB g
 have e1:tg=.Subscript o ix p1:=e1
 have e2:o=.Name x p2:=e2
 subst e1 e2
 obtain⟨h1,h2,h3⟩:=cS g
 exact aHd M h1 (sE k M h2 RT Y old σ) (sE e M h3 RT Y old σ) (aI h2)
theorem aHB{i l:Nat}{fz:List Nat}{e:EL}:QS P n Y old (.setL i l fz e):=λ{X Γ} M {st} h RT σ=>by
 unfold cR at h
 obtain⟨⟨tg,v⟩,⟨p,rfl⟩,g⟩:=aB h
 clear h
 obtain⟨x,⟨p1,e1⟩,g⟩:=aB g
 have e1:tg=.Name x p1:=e1
 subst e1
 obtain⟨h1,h2,h3⟩:=cS g
 exact aHe M h1 (qEL M e h2) (by simpa using h3)
theorem aHC{i l:Nat}{e:EL}:QS P n Y old (.appL i l e):=λ{X Γ} M {st} h RT σ=>by
 unfold cR at h
 obtain⟨c,⟨p,rfl⟩,g⟩:=aB h
 obtain⟨a,h1,h2⟩:=m1 (f:=λa=>bR Γ l e a) g
 exact aHf M h1 (qEL M e h2 RT σ) (dE h2)
theorem aHD{e:EL}:QS P n Y old (.retL e):=λ{X Γ} M {st} h RT σ=>by
 unfold cR at h
 obtain⟨r,⟨p,rfl⟩,g⟩:=aB h
 clear h
 obtain⟨v,e1,g⟩:=uT g
 subst e1
 exact aHg (qEL M e g RT σ)
theorem aEB{i:Nat}:QS P n Y old (.retvL i):=λ{X Γ} M {st} h RT σ=>by
 unfold cR at h
 obtain⟨r,⟨p,rfl⟩,g⟩:=aB h
 clear h
 obtain⟨v,e1,g⟩:=uT g
 subst e1
 obtain⟨x,⟨p1,e2⟩,g⟩:=aB g
 have e2:v=.Name x p1:=e2
 subst e2
 exact aEy M g
theorem aHE{o:CmpOp}{a:EL}{b:E}{x y:Ss}(hx:QSs P n Y old x)(hy:QSs P n Y old y):QS P n Y old (.iffL o a b x y):=λ{X Γ} M {st} h RT σ=>by
 unfold cR at h
 obtain⟨⟨t,u,v⟩,⟨p,rfl⟩,g0⟩:=aB h
 obtain⟨h1,h2,h3⟩:=cS g0
 obtain⟨⟨l,os,rs⟩,⟨p2,e2⟩,g⟩:=aB h1
 clear h1 g0 h
 have e2:t=.Compare l os rs p2:=e2
 subst e2
 rcases os with _|⟨o',_|⟨_,_⟩⟩
 . cases g
 . rcases rs with _|⟨z,_|⟨_,_⟩⟩
   . cases g
   . obtain⟨g1,g2,g3⟩:=cS g
     have e3:o=o':=eq_of_beq g1
     subst e3
     exact aHh M (qEL M a g2 RT σ) (λσ=>sE b M g3 RT Y old σ) (aI g3) (hx M h2) (hy M h3)
   . cases g
 . cases g
theorem aHF{t:T}{e:EL}{b:Ss}(hb:QSs P n Y old b):QS P n Y old (.forL t e b):=λ{X Γ} M {st} h RT σ=>by
 unfold cR at h
 obtain⟨⟨tg,iter,body⟩,⟨p,rfl⟩,g0⟩:=aB h
 obtain⟨h1,h2,h3⟩:=cS g0
 obtain⟨⟨f,xs⟩,⟨p1,p2,e2⟩,g⟩:=aB h2
 clear h2 g0 h
 have e2:iter=.Call (.Name f p1) xs [] p2:=e2
 subst e2
 obtain⟨g1,g2,g3⟩:=cS g
 rcases xs with _|⟨x,_|⟨_,_⟩⟩
 . cases g3
 . exact aHi M h1 (eq_of_beq g1) g2 (qEL M e g3 RT σ) (dE g3) (hb M h3)
 . cases g3
theorem aHG{cs:Ss}:QSs P n Y old (.cons .lend cs):=λ{X Γ} M {st} h RT σ=>kE (t:=λ_ _ _=>False) (λpins s σV H D I hw=>hw.elim) λD σV H t ⟨S,hh⟩=>by
 have hh:OE X.K RT Y old H (O.on (match σ[(0:Nat)]? with|some (.sh true (.err 0 cs))=>.next (σ.set 0 (.lent cs))|_=>.bad) λσ'=>exs P (call P n) σ' cs) D:=hh
 split at hh
 . rename_i ds e
   obtain⟨v,_,h2⟩:=S.sh 0 true (.err 0 ds) e
   exact h2
 . exact hh
theorem aKg:QSs P n Y old .nil:=λ{X Γ} M {st} h RT σ=>by
 cases st with
 | nil=>exact aJI
 | cons _ _=>exact nf h
theorem xY{Γ:Ct}{c:S}{cs:Ss}{st:List Br}(hl:qT (.cons c .nil)=false)(h:chkSs Γ (.cons c cs) st=true):∃x xs,st=x::xs/\cR Γ c x=true/\chkSs Γ cs xs=true:=by
 cases st with
 | nil=>cases c <;> first|exact nf h|cases hl
 | cons x xs=>
  have h:(cR Γ c x&&chkSs Γ cs xs)=true:=by
   cases c <;> first|exact h|cases hl
  obtain⟨h1,h2⟩:=cA h
  exact⟨x,xs,rfl,h1,h2⟩
theorem aHH{c:S}{cs:Ss}(hc:QS P n Y old c)(hs:QSs P n Y old cs)(hl:qT (.cons c .nil)=false):QSs P n Y old (.cons c cs):=λ{X Γ} M {st} h RT σ=>by
 obtain⟨x,xs,rfl,h1,h2⟩:=xY hl h
 exact aGQ (hc M h1) (hs M h2)
theorem aEC{c:S}{cs:Ss}(hc:QS P n Y old c)(hs:QSs P n Y old cs):QSs P n Y old (.cons c cs):=by
 cases c with
 | lend=>exact aHG
 | _=>exact aHH hc hs rfl
mutual
theorem sS:(c:S)->QS P n Y old c
 | .set _ _=>aJV
 | .mov _ _=>aJW
 | .setIx _ _ _=>kK λ_ _=>rfl
 | .app _ _=>aJX
 | .ext _ _=>aJY
 | .pop none _ none=>aEz
 | .pop none _ (some _)=>kK λ_ _=>rfl
 | .pop (some _) _ none=>aEA
 | .pop (some _) _ (some _)=>kK λ_ _=>rfl
 | .clr _=>kK λ_ _=>rfl
 | .ins _ _ _=>kK λ_ _=>rfl
 | .rev _=>kK λ_ _=>rfl
 | .appCall _ _ _=>kK λ_ _=>rfl
 | .ret _=>aJZ
 | .retv _=>aHq
 | .retN=>aHr
 | .iff _ a b=>aKa (sSs a) (sSs b)
 | .for _ _ b=>aKb (sSs b)
 | .whl _ b=>aKc (sSs b)
 | .brk=>aKd
 | .cnt=>aKe
 | .pass=>aHs
 | .ex _=>aLF
 | .rse _ _ _=>aKf
 | .try _ _=>kK λ_ _=>rfl
 | .tryN b=>aHt (sSs b)
 | .extV _ _=>aHu
 | .tldD _ _ _=>aHv
 | .tldO _ _ _ _=>aHw
 | .wrkA _ _=>aHx
 | .wrkC _ _ _=>aHy
 | .clrD _=>aHz
 | .lend=>kK λ_ _=>rfl
 | .lset _ _ _=>aHA
 | .setL _ _ _ _=>aHB
 | .appL _ _ _=>aHC
 | .retL _=>aHD
 | .retvL _=>aEB
 | .iffL _ _ _ x y=>aHE (sSs x) (sSs y)
 | .forL _ _ b=>aHF (sSs b)
theorem sSs:(c:Ss)->QSs P n Y old c
 | .nil=>aKg
 | .cons c cs=>aEC (sS c) (sSs cs)
end
end
structure Tx where
 x:Str
 qual:Str
 st:Br
 N:List Str
def rA(Γ:Ct)(F:Fn)(t:Tx):Bool:=
 t.N.length==F.ns&&decide (F.np<=F.ns)&&decide t.N.Nodup&&(bM t.st).kind==.function&&!(bM t.st).isCoroutine&&!(bM t.st).isGenerator &&
 ((t.N.take F.np).all λx=>(bM t.st).names.lookup x==some .local||(bM t.st).names.lookup x==some .cell)&&((bM t.st).names.all λp=>p.2 != .free) &&
 chkSs { Γ with N:=t.N,sc:=(bM t.st).names,fn:=true } F.body (iN t.st)
def iG(Γ:Ct):List Fn->List Tx->Bool
 | [],[]=>true
 | F::Fs,t::ts=>rA Γ F t&&iG Γ Fs ts
 | _,_=>false
theorem gJ{Γ:Ct}:∀{Fs:List Fn} {ts:List Tx},iG Γ Fs ts=true->∀{f:Nat} {t:Tx},ts[f]? = some t->∃F,Fs[f]? = some F/\rA Γ F t=true
 | [],[],_,_,_,e=>by simp at e
 | [],_::_,h,_,_,_=>by cases h
 | _::_,[],h,_,_,_=>by cases h
 | F::Fs,t::ts,h,0,t',e=>by
  obtain⟨h1,h2⟩:=cA (show(rA Γ F t&&iG Γ Fs ts)=true from h)
  have e':t=t':=by simpa using e
  subst e'
  exact⟨F,rfl,h1⟩
 | F::Fs,t::ts,h,f+1,t',e=>by
  obtain⟨h1,h2⟩:=cA (show(rA Γ F t&&iG Γ Fs ts)=true from h)
  obtain⟨F',q1,q2⟩:=gJ h2 (f:=f) (t:=t') (by simpa using e)
  exact⟨F',by simpa using q1,q2⟩
section
variable {prog:Av} {w:AG} {K:Fg} {mg:Str->Option Value} {base:Heap} {P:Pg} {Γ:Ct} {txs:List Tx}
structure Top (prog:Av) (w:AG) (K:Fg) (mg:Str->Option Value) (P:Pg) (Γ:Ct) (txs:List Tx):Prop where
 fn:∀(f:Nat) (t:Tx),txs[f]? = some t->∃fa fd,mg t.x=some (.ref fa)/\Fun K t.x t.qual t.st fa fd/\∀F,P.fns[f]? = some F->jC K fd (t.N.take F.np) []
 fns:∀(f:Nat) (x:Str),Γ.fns[f]? = some x->∃t,txs[f]? = some t/\t.x=x
 blt:∀x∈bltNames,mg x=none
 cns:∀(x:Str) (d:D),Γ.cns.lookup x=some d->∃u v,mg x=some u/\bI v u/\∀H ex,Rep K H ex d v
 tab:∀(i:Nat) (x:Str),Γ.tbs[i]? = some x->∃a t,mg x=some (.ref a)/\P.tabs[i]? = some t/\qV prog w K a t
 chk:iG Γ P.fns txs=true
theorem aAa{k f:Nat}{F:Fn}(hF:P.fns[f]? = some F){vs:List V}{H:Hp}{Q:VK}{E:XK}(h:spF K P (k+1) f vs H Q E):vs.length=F.np:=by
 obtain⟨ds,Y,_,r,hr⟩:=h
 obtain⟨x,e,_⟩:=hr.eq
 have e:iZ P (call P k) f ds=.ok x:=e
 unfold iZ at e
 rw[hF] at e
 have e:(if ds.length=F.np then _ else R.bad)=R.ok x:=e
 split at e
 . rename_i hl;rw[<-r.length];exact hl
 . cases e
theorem aAb{k f:Nat}{F:Fn}(hF:P.fns[f]? = some F){vs:List V}{H:Hp}{Q:VK}{E:XK}(h:spL K P (k+1) f vs H Q E):vs.length=F.np:=by
 obtain⟨_,cs,ds,p,xs,us,Y,rfl,_,_,_,r,hr⟩:=h
 obtain⟨x,e,_⟩:=hr.eq
 have e:iZ P (call P k) f (.err 0 cs::ds)=.ok x:=e
 unfold iZ at e
 rw[hF] at e
 have e:(if (D.err 0 cs::ds).length=F.np then _ else R.bad)=R.ok x:=e
 split at e
 . rename_i hl
   rw[<-hl,lC,lC,r.length]
 . cases e
theorem aED{ds cs:List D}{us xs:List V}{p:Addr}{H:Hp}{Y:Addr->Prop}{m:Nat}(hY:∀a,Y a->Od K H a)(t:Tk K H)(hp:H p=some (.lst xs))(rc:Reps K H (λb=>b=p\/Y b) cs xs)(r:Reps K H (λb=>b=p\/Y b) ds us) :
 Sx K (λb=>b=p) Y (λb=>Od K H b) ((((D.err 0 cs::ds).map λd=>Sl.sh true d)++Ad m Sl.dead).set 0 (.lent cs)) (((V.ref p::us).map some)++Ad m none) H:=by
 have S0:Sx K (λb=>b=p) Y (λb=>Od K H b) (((D.non::ds).map λd=>Sl.sh true d)++Ad m Sl.dead) (((V.non::us).map some)++Ad m none) H:=vL hY t (λa z=>⟨xs,by rw[z];exact hp⟩) (.cons rfl r)
 have tl:∀{j:Nat},0≠j->(((V.ref p::us).map some)++Ad m none)[j]? = (((V.non::us).map some)++Ad m none)[j]? := λ{j} hj=>by
  cases j with
  | zero=>exact absurd rfl hj
  | succ j=>rfl
 have sl:∀{j:Nat} {s:Sl},((((D.err 0 cs::ds).map λd=>Sl.sh true d)++Ad m Sl.dead).set 0 (.lent cs))[j]? = some s->(j=0/\s=.lent cs)\/(0≠j/\(((D.non::ds).map λd=>Sl.sh true d)++Ad m Sl.dead)[j]? = some s):=λ{j s} e=>by
  cases j with
  | zero=>exact .inl ⟨rfl,(Ai e).symm⟩
  | succ j=>exact .inr ⟨by omega,e⟩
 have nol:∀{j:Nat} {ds':List D},(((D.non::ds).map λd=>Sl.sh true d)++Ad m Sl.dead)[j]? = some (.lent ds')->False:=λ{j ds'} e=>by
  rcases AS.mp (mG e) with z|z
  . obtain⟨_,_,e⟩:=AH.mp z
    cases e
  . cases B0 z
 have no2:∀{j:Nat} {ds':Option (List D)},(((D.non::ds).map λd=>Sl.sh true d)++Ad m Sl.dead)[j]? = some (.dp ds')->False:=λ{j ds'} e=>by
  rcases AS.mp (mG e) with z|z
  . obtain⟨_,_,e⟩:=AH.mp z
    cases e
  . cases B0 z
 exact {
  sh:=λj pa d e=>by
   rcases sl e with⟨_,z⟩|⟨hj,e⟩
   . cases z
   . rw[tl hj];exact S0.sh j pa d e
  own:=λj pa d e=>by
   rcases sl e with⟨_,z⟩|⟨hj,e⟩
   . cases z
   . rw[tl hj];exact S0.own j pa d e
  trk:=S0.trk
  yo:=S0.yo
  tk:=S0.tk
  rt:=S0.rt
  inj:=λi j pa pa' ds1 ds2 a e1 e2 e3 e4=>by
   rcases sl e1 with⟨_,z⟩|⟨h1,e1⟩
   . cases z
   rcases sl e2 with⟨_,z⟩|⟨h2,e2⟩
   . cases z
   rw[tl h1] at e3
   rw[tl h2] at e4
   exact S0.inj i j pa pa' ds1 ds2 a e1 e2 e3 e4
  len:=by
   rw[Ay]
   exact S0.len
  lx:={
   at':=λj ds' e=>by
    rcases sl e with⟨rfl,z⟩|⟨hj,e⟩
    . cases z
      exact⟨p,xs,rfl,hp,rfl,(λq=>by rw[hp] at q;cases q),rc.weak λb z=>z.imp id λz=>z.elim id λz=>by cases z.1⟩
    . exact(nol e).elim
   inj:=λi j ds1 ds2 a e1 e2 e3 e4=>by
    rcases sl e1 with⟨rfl,_⟩|⟨h1,e1⟩
    . rcases sl e2 with⟨rfl,_⟩|⟨h2,e2⟩
      . rfl
      . exact(nol e2).elim
    . exact(nol e1).elim
   dp:=by
    refine⟨λ_ _=>False,λj o e=>?_,λ_ _ _ _ _ _ _ z=>z.elim⟩
    rcases sl e with⟨rfl,z⟩|⟨hj,e⟩
    . cases z
    . exact(no2 e).elim } }
theorem aCI{b:Ss}(h:qT b=true):∃r,b=.cons .lend r:=by
 unfold qT at h
 split at h
 . exact⟨_,rfl⟩
 . cases h
theorem xZ{Γ:Ct}{cs:Ss}{st:List Br}(h:chkSs Γ (.cons .lend cs) st=true):chkSs Γ cs st=true:=by
 cases st <;> exact h
theorem aEE{x d:D}{cs:List D}(h:aCc x=some (d,cs)):x=.tup [d,.err 0 cs]:=by
 unfold aCc at h
 split at h
 . cases h;rfl
 . cases h
theorem aAc{k f:Nat}{t:Tx}{F:Fn}{fa:Addr}{fd:Cy}(hmd:∀(f:Nat) (x:Str),Γ.fns[f]? = some x->∃fa fd ps,mg x=some (.ref fa)/\BG K (.ref fa)=true/\jC K fd ps []/\nD prog w K mg base CX0 k fa fd ps (spA K P k f))
 (hblt:∀x∈bltNames,mg x=none) (hcns:∀(x:Str) (d:D),Γ.cns.lookup x=some d->∃u v,mg x=some u/\bI v u/\∀H ex,Rep K H ex d v) (htab:∀(i:Nat) (x:Str),Γ.tbs[i]? = some x->∃a t,mg x=some (.ref a)/\P.tabs[i]? = some t/\qV prog w K a t) (h2:Fun K t.x t.qual t.st fa fd) (hF:P.fns[f]? = some F) (hc:rA Γ F t=true) :
 nD prog w K mg base CX0 (k+1) fa fd (t.N.take F.np) (spA K P (k+1) f):=by
 unfold rA at hc
 simp only[bA,beq_iff_eq,A7,D3,Az,BM,bne_iff_ne,ne_eq] at hc
 obtain⟨⟨⟨⟨⟨⟨⟨⟨c1,c2⟩,c3⟩,c4⟩,c5⟩,c6⟩,c7⟩,c8⟩,c9⟩:=hc
 have lt:(t.N.take F.np).length=F.np:=by rw[BE];omega
 have sc:nM t.N (t.N.take F.np) (bM t.st):=⟨c4,c5,c6,c3,by rw[lt],c7,c8⟩
 refine h2.ok sc (λvs H Q E h=>by rw[lt];exact h.elim (aAa hF) (aAb hF)) λcdv A outer s H vs Q E hr h=>?_
 have M:Mc (xE CX0 prog w K mg base t.N t.qual (bM t.st) fa cdv A outer s H E).nox P { Γ with N:=t.N,sc:=(bM t.st).names,fn:=true } k:={
  md:=⟨hmd,hblt,hcns,htab⟩
  N:=rfl
  nd:=c3
  sc:=rfl
  calm:=rfl
  room:=hr
  xe:=rfl
  st:=λ_ _=>.inl rfl
  fk:=c4 }
 rcases h with h|h
 . have hlen:=aAa hF h
   obtain⟨ds,Y,hY,r,hq⟩:=h
   obtain⟨res,er,hq⟩:=hq.eq
   have er:iZ P (call P k) f ds=.ok res:=er
   unfold iZ at er
   rw[hF] at er
   have er:(if ds.length=F.np then (match exs P (call P k) ((ds.map λd=>Sl.sh true d)++Ad (F.ns-F.np) Sl.dead) F.body with
    | .ret v=>R.ok (v.d,v.fr,v.pa)
    | .next _=>R.ok (.non,false,false)
    | .exc x _=>R.exc x
    | _=>R.bad) else R.bad)=R.ok res:=er
   have hdl:ds.length=F.np:=by rw[r.length];exact hlen
   rw[if_pos hdl] at er
   refine⟨_,kE (t':=λD σV H'=>Tk K H'->wS _ (λ_=>False) Y (λb=>Od K H b) ((ds.map λd=>Sl.sh true d)++Ad (F.ns-F.np) Sl.dead) (exs P (call P k) ((ds.map λd=>Sl.sh true d)++Ad (F.ns-F.np) Sl.dead) F.body) D σV H') (sSs (Y:=Y) (old:=λb=>Od K H b) F.body M c9 (λ_=>False) ((ds.map λd=>Sl.sh true d)++Ad (F.ns-F.np) Sl.dead)) (λD σV H' tk hw=>⟨(hw tk).1,OE.tkE (hw tk).2⟩),λtk=>⟨?_,?_⟩⟩
   . have e:L2.start t.N vs=vs.map some++Ad (F.ns-F.np) none:=by unfold L2.start;rw[hlen,c1]
     rw[e]
     exact vL hY tk (λ_ z=>z.elim) (r.weak λa z=>z.elim BS id)
   . have same:∀{H':Hp},Kp (λ_=>False) H H'->aL H H':=λk b o e=>k b o e id
     show OE K (λ_=>False) Y (λb=>Od K H b) H (exs P (call P k) ((ds.map λd=>Sl.sh true d)++Ad (F.ns-F.np) Sl.dead) F.body) _
     cases q:exs P (call P k) ((ds.map λd=>Sl.sh true d)++Ad (F.ns-F.np) Sl.dead) F.body with
     | next σ'=>
      rw[q] at er
      cases(show R.ok (D.non,false,false)=R.ok res from er)
      exact λRT' σV' H' kp sub S'=>hq .non H' S'.tk (same kp) (show(if false=true then _ else _) from aGm rfl)
     | ret v=>
      rw[q] at er
      cases(show R.ok (v.d,v.fr,v.pa)=R.ok res from er)
      refine λu H' kp tk' rt=>hq u H' tk' (same kp) ?_
      replace rt:Rtv K Y (λb=>Od K H b) H' v u:=rt.resolve_right λ⟨_,_,R2,p,_,_,hsub,hR,ho,hx,_⟩=>(hsub p hR).elim id λq=>ho q (tk' p (by rw[hx];simp))
      unfold Rr
      unfold Rtv at rt
      cases hfr:v.fr with
      | true=>
       rw[hfr,if_pos rfl] at rt
       obtain⟨a,xs,ds',e1,e2,e3,e4,rr⟩:=rt
       exact aIN ⟨a,xs,ds',e1,e2,aCo e3,e4,rr⟩
      | false=>
       rw[hfr,if_neg bN] at rt
       exact aGm rt
     | brk σ'=>rw[q] at er;cases er
     | cnt σ'=>rw[q] at er;cases er
     | exc e σ'=>rw[q] at er;cases er
     | bad=>rw[q] at er;cases er
 . have hlen:=aAb hF h
   obtain⟨hl,cs,ds,p,xs,us,Y,rfl,hY,hp,rc,r,hq⟩:=h
   unfold mR at hl
   rw[hF] at hl
   obtain⟨rest,hb⟩:=aCI (show qT F.body=true from hl)
   rw[hb] at c9
   have c9:=xZ c9
   obtain⟨res,er,hq⟩:=hq.eq
   obtain⟨d,cs',eu,hq⟩:=hq
   have er:iZ P (call P k) f (.err 0 cs::ds)=.ok res:=er
   unfold iZ at er
   rw[hF] at er
   have er:(if (D.err 0 cs::ds).length=F.np then (match exs P (call P k) (((D.err 0 cs::ds).map λd=>Sl.sh true d)++Ad (F.ns-F.np) Sl.dead) F.body with
    | .ret v=>R.ok (v.d,v.fr,v.pa)
    | .next _=>R.ok (.non,false,false)
    | .exc x _=>R.exc x
    | _=>R.bad) else R.bad)=R.ok res:=er
   have hdl:(D.err 0 cs::ds).length=F.np:=by rw[lC,r.length,<-lC (a:=V.ref p)];exact hlen
   rw[if_pos hdl,hb] at er
   have er:(match exs P (call P k) ((((D.err 0 cs::ds).map λd=>Sl.sh true d)++Ad (F.ns-F.np) Sl.dead).set 0 (.lent cs)) rest with
    | .ret v=>R.ok (v.d,v.fr,v.pa)
    | .next _=>R.ok (.non,false,false)
    | .exc x _=>R.exc x
    | _=>R.bad)=R.ok res:=er
   have S0:Tk K H->Sx K (λb=>b=p) Y (λb=>Od K H b) ((((D.err 0 cs::ds).map λd=>Sl.sh true d)++Ad (F.ns-F.np) Sl.dead).set 0 (.lent cs)) (((V.ref p::us).map some)++Ad (F.ns-F.np) none) H:=λtk=>aED hY tk hp rc r
   revert er S0
   generalize (((D.err 0 cs::ds).map λd=>Sl.sh true d)++Ad (F.ns-F.np) Sl.dead).set 0 (.lent cs)=σ0
   intro er S0
   refine⟨_,kE (t':=λD σV H'=>Tk K H'->wS _ (λb=>b=p) Y (λb=>Od K H b) σ0 (exs P (call P k) σ0 rest) D σV H') (sSs (Y:=Y) (old:=λb=>Od K H b) rest M c9 (λb=>b=p) σ0) (λD σV H' tk hw=>⟨(hw tk).1,OE.tkE (hw tk).2⟩),λtk=>⟨?_,?_⟩⟩
   . have e:L2.start t.N (V.ref p::us)=(V.ref p::us).map some++Ad (F.ns-F.np) none:=by unfold L2.start;rw[hlen,c1]
     rw[e]
     exact S0 tk
   . show OE K (λb=>b=p) Y (λb=>Od K H b) H (exs P (call P k) σ0 rest) _
     cases q:exs P (call P k) σ0 rest with
     | next σ'=>
      rw[q] at er
      cases(show R.ok (D.non,false,false)=R.ok res from er)
      cases eu
     | ret v=>
      rw[q] at er
      cases(show R.ok (v.d,v.fr,v.pa)=R.ok res from er)
      have eu:=aEE eu
      intro u H' kp tk' rt
      rcases rt with rt|⟨d2,cs2,R2,p2,xs2,e2,hsub,hR,ho,hx,rr,hv⟩
      . exfalso
        unfold Rtv at rt
        cases hfr:v.fr with
        | true=>
         rw[hfr,if_pos rfl] at rt
         obtain⟨_,_,_,_,e3,_⟩:=rt
         rw[show v.d=_ from eu] at e3
         cases e3
        | false=>
         rw[hfr,if_neg bN,show v.d=_ from eu] at rt
         obtain⟨_,_,_,_,x1,r1,_,_,x2,r2,_,z,_⟩:=rt
         exact z
      . rw[show v.d=_ from eu] at e2
        cases e2
        have hpp:p2=p:=(hsub p2 hR).resolve_right λq=>ho q (tk' p2 (by rw[hx];simp))
        subst hpp
        refine hq u H' R2 xs2 tk' kp hR hsub hx rr ?_
        show(if v.fr=true then _ else _)
        by_cases hfr:v.fr=true
        . rw[if_pos hfr] at hv ⊢
          obtain⟨a,ys,es,v1,v2,v3,v4,v5,v6⟩:=hv
          exact⟨a,ys,es,v1,v2,aCo v3,v4,v5,v6⟩
        . rw[if_neg hfr] at hv ⊢
          exact hv
     | brk σ'=>rw[q] at er;cases er
     | cnt σ'=>rw[q] at er;cases er
     | exc e σ'=>rw[q] at er;cases er
     | bad=>rw[q] at er;cases er
theorem aCJ(T:Top prog w K mg P Γ txs):∀(k f:Nat) (x:Str),Γ.fns[f]? = some x->∃fa fd ps,mg x=some (.ref fa)/\BG K (.ref fa)=true/\jC K fd ps []/\nD prog w K mg base CX0 k fa fd ps (spA K P k f)
 | 0,f,x,hf=>by
  obtain⟨t,ht,rfl⟩:=T.fns f x hf
  obtain⟨fa,fd,h1,h2,h3⟩:=T.fn f t ht
  obtain⟨F,hF,_⟩:=gJ T.chk ht
  have no:∀vs H Q E,¬ spA K P 0 f vs H Q E:=λvs H Q E h=>by
   rcases h with⟨ds,Y,_,r,hr⟩|⟨_,_,_,_,_,_,_,_,_,_,_,_,hr⟩
   . exact hr
   . exact hr
  exact⟨fa,fd,_,h1,h2.kp,h3 F hF,λvs H Q E h=>absurd h (no vs H Q E),λA outer s H args us vs Q E _ _ _ _ h=>absurd h (no vs H Q E)⟩
 | k+1,f,x,hf=>by
  obtain⟨t,ht,rfl⟩:=T.fns f x hf
  obtain⟨fa,fd,h1,h2,h3⟩:=T.fn f t ht
  obtain⟨F,hF,hc⟩:=gJ T.chk ht
  exact⟨fa,fd,_,h1,h2.kp,h3 F hF,aAc (λf x hf=>aCJ T k f x hf) T.blt T.cns T.tab h2 hF hc⟩
theorem aHI(T:Top prog w K mg P Γ txs){f:Nat}{t:Tx}{F:Fn}{fa:Addr}{fd:Cy}(ht:txs[f]? = some t)(hF:P.fns[f]? = some F)(h2:Fun K t.x t.qual t.st fa fd)(k:Nat):nD prog w K mg base CX0 (k+1) fa fd (t.N.take F.np) (spF K P (k+1) f):=by
 obtain⟨F',hF',hc⟩:=gJ T.chk ht
 rw[hF] at hF'
 cases hF'
 have h:=aAc (aCJ (base:=base) T k) T.blt T.cns T.tab h2 hF hc
 exact⟨λvs H Q E q=>h.1 vs H Q E (.inl q),λA outer s H args us vs Q E a b c d q=>h.2 A outer s H args us vs Q E a b c d (.inl q)⟩
theorem aHJ{k f:Nat}{K:Fg}{H:Hp}{a:Addr}{ns:List Int}(hO:aDZ H)(hS:SqL K H a (ns.map V.int))(h:∃fr pa,call P k f [.lst (ns.map D.int)]=.ok (.bl true,fr,pa)) :
 spF K P k f [.ref a] H (λv _=>v=.bl true) λ_ _ _=>False:=by
 obtain⟨fr,pa,e⟩:=h
 have ri:∀(ns:List Int),Reps K H (λ_=>False) (ns.map D.int) (ns.map V.int):=by
  intro ns
  induction ns with
  | nil=>exact .nil
  | cons i ns ih=>exact .cons rfl ih
 refine⟨[.lst (ns.map D.int)],λ_=>False,λ_ z=>z.elim,.cons ⟨a,_,rfl,hS,⟨id,λ⟨_,_,z⟩=>z.elim⟩,ri ns⟩ .nil,?_⟩
 rw[e]
 intro u H' _ _ rr
 unfold Rr at rr
 cases fr with
 | true=>
  rw[if_pos rfl] at rr
  obtain⟨_,_,_,_,e2,_⟩:=rr
  cases e2
 | false=>
  rw[if_neg bN] at rr
  exact rr
end
end Hp
end
noncomputable section
namespace Hp
open PySem PySem.Spec PyProof.Rows L2
def ER(w:AG)(K:Fg)(e:Dl)(p:Str×D):Prop:=e.hash=Hk w p.1/\(∃tk,e.key=.str p.1 tk)/\∃v,bI v e.val/\∀(H:Hp) (ex:Addr->Prop),Rep K H ex p.2 v
theorem rB{K:Fg}{H:Hp}{ex:Addr->Prop}:∀xs:List Str,Reps K H ex (xs.map D.str) (xs.map V.str)
 | []=>rfl
 | x::xs=>⟨.str x,xs.map V.str,rfl,rfl,rB xs⟩
theorem aCK{K:Fg}{b:Addr}{od:Option Addr}{its:Array Value}{n:Nat}{sl:Array (Option Value)}(h:K.lookup b=some ⟨.type "tuple",od,.seq its n,sl⟩)(xs:List Str)(hz:its.size<=1000)(hv:aV (xs.map V.str) its.toList) :
 ∀(H:Hp) (ex:Addr->Prop),Rep K H ex (.tup (xs.map D.str)) (.ref b):=λH ex=>
 ⟨b,xs.map V.str,rfl,.inr ⟨_,its,n,h,rfl,rfl,AW hz (by rw[B1];decide),hv⟩,rB xs⟩
theorem aCL{prog:Av}{w:AG}{K:Fg}:∀{es:List Dl} {t:List (Str×D)},EC (ER w K) es t->∃vs:List (Key×Value),(∀e∈es,∃k:Key,(eY prog w).is k e.key=true/\e.hash=(eY prog w).hash k) /\
 Pairs (eY prog w) es vs/\vs.map (·.1)=t.map (λp=>(Bp p.1:Key)) /\
 ∀k:Str,(t.lookup k=none/\DZ vs (Bp k:Key)=none)\/∃d u v,t.lookup k=some d/\DZ vs (Bp k:Key)=some u/\bI v u/\∀(H:Hp) (ex:Addr->Prop),Rep K H ex d v
 | _,_,.nil=>⟨[],λe he=>absurd he (by simp),.nil,rfl,λk=>.inl ⟨rfl,rfl⟩⟩
 | e::es,p::t,.cons ⟨h1,⟨tk,h2⟩,v,h3,h4⟩ r=>by
  obtain⟨vs,g1,g2,g3,g4⟩:=aCL (prog:=prog) r
  have hk:tV (Bp p.1:Key) e.key=true:=by rw[h2];exact pZ p.1 tk
  refine⟨(Bp p.1,e.val)::vs,λe' he=>?_,.cons hk rfl g2,by rw[mC,mC,g3],λk=>?_⟩
  . rcases AD.mp he with rfl|he
    . exact⟨Bp p.1,hk,h1⟩
    . exact g1 e' he
  . by_cases hkp:k=p.1
    . subst hkp
      refine .inr ⟨p.2,e.val,v,?_,?_,h3,h4⟩
      . obtain⟨a,b⟩:=p
        simp[CH]
      . simp[DZ]
    . have n1:(p::t).lookup k=t.lookup k:=by
       obtain⟨a,b⟩:=p
       have:(k==a)=false:=beq_eq_false_iff_ne.mpr hkp
       simp[CH,this]
      have n2:DZ ((Bp p.1,e.val)::vs) (Bp k:Key)=DZ vs (Bp k:Key):=by
       unfold DZ
       have:decide ((Bp p.1:Key)=Bp k)=false:=Ao λz=>hkp (F2 z).symm
       rw[List.find?_cons]
       simp only[this]
      rw[n1,n2]
      exact g4 k
theorem aHK{prog:Av}{w:AG}{K:Fg}{a:Addr}{es:Array Dl}{ep:Nat}{t:List (Str×D)}(hs:(a==Dm)=false)(h:K.lookup a=some ⟨.type "dict",none,.dict es ep,#[]⟩)(hp:EC (ER w K) es.toList t)(hn:(t.map (·.1)).Nodup):qV prog w K a t:=by
 obtain⟨vs,g1,g2,g3,g4⟩:=aCL (prog:=prog) hp
 refine⟨hs,vs,λhh X=>⟨_,es,ep,X a _ h,⟨rfl,rfl,rfl⟩,rfl,λe he=>g1 e (by simpa using he),g2,?_⟩,g4⟩
 rw[g3]
 have e:t.map (λp=>(Bp p.1:Key))=(t.map (·.1)).map Bp:=by rw[Bc];rfl
 rw[e]
 unfold List.Nodup at hn ⊢
 rw[List.pairwise_map]
 exact hn.imp λhne z=>hne (F2 z)
end Hp
end
noncomputable section
namespace Hh
open PySem PySem.W PySem.Calls PyProof.Rows
def go(st:Ey->Gh->Option (Ey×Gh))(ok:Gh->Bool)(n:Nat):Ey->Gh->Option Ey:=
 @Nat.rec (λ_=>Ey->Gh->Option Ey) (λ_ _=>none) (λ_ ih s t=>match Ho t with
  | true=>some s
  | false=>match ok t with
   | false=>none
   | true=>match st s t with
    | some (s',t')=>ih s' t'
    | none=>none) n
theorem nX{tb:String->Option DM}{p:Av}{w:AG}{n₀:Nat}{ann:Option Value}:∀(n:Nat) (s s':Ey) (t:Gh),go (Hq (GI tb) p w) (GJ n₀ ann) n s t=some s'->topRun tb p w n₀ ann n s.abs t=some s'.abs
 | 0,_,_,_,h=>by cases h
 | n+1,s,s',t,h=>by
  have h:(match Ho t with
   | true=>some s
   | false=>match GJ n₀ ann t with
    | false=>none
    | true=>match Hq (GI tb) p w s t with
     | some (s',t')=>go (Hq (GI tb) p w) (GJ n₀ ann) n s' t'
     | none=>none)=some s':=h
  unfold topRun
  cases ht:Ho t with
  | true=>rw[ht] at h;cases h;rfl
  | false=>
   rw[ht] at h
   cases hk:GJ n₀ ann t with
   | false=>rw[hk] at h;cases h
   | true=>
    rw[hk] at h
    cases hs:Hq (GI tb) p w s t with
    | none=>rw[hs] at h;cases h
    | some r=>obtain⟨s₂,t₂⟩:=r;rw[hs] at h;rw[stepT_spec hs];exact nX n _ _ _ h
def bt(l:List Obj)(n:Nat):Nat->Nat->BT:=
 @Nat.rec (λ_=>Nat->Nat->BT) (λ_ _=>.nil) (λ_ ih a b=>match l[b]? with
  | some o=>.node o (ih (2*a) (a+b)) (ih (2*a) (2*a+b))
  | none=>.nil) n
end Hh
namespace Hh
open PySem PySem.W PySem.Calls PyProof.Rows
def aCM{α:Type}(p q:Av)(loose:List Str)(Xt:Ae->Bool)(Yf:Ae->α)(h0:Heap)(s:Ae):=
 ((G8 (Eh p.main.body) h0 s.heap&&Gi p s.heap&&GW s&&GX h0 s.heap),openSeen q loose (Eh p.main.body) Xt true s,Yf s)
theorem aEF{p q:Av}{loose:List Str}{Xt:Ae->Bool}{α:Type}{Yf:Ae->α}{Ya:AG->α}{N m₀:Nat}{ann:Option Value}{T₀:FW->BT}{l₀:Life}(e:opening p=plainProg p.main.scope.names)(hN:Nat.ble 600 N=true)(f:∀s,Gy p s=some s)
 (hb:∀P,absHeap (T₀ P) m₀ l₀=Bv P) (hz:∀P:FW,((Bv P).isNs AZ,(Bv P).objs.size,(Bv P).nsMap AZ "__annotations__")=(true,m₀,ann))
 (h:∀(w:AG) (os:FG),(go (Hq (GI Fy) p w) (GJ m₀ ann) N ⟨T₀ w.params,m₀,l₀,Gj [],EM,Fz,os⟩ (Hr p)).map (λs=>aCM p q loose Xt Yf (Bv w.params) s.abs)=some (true,GY q loose,Ya w)):HC p q loose Xt Yf Ya N:=λw=>by
 obtain⟨⟨hh,gs,d,k,os⟩,e1,e2⟩:=AX.mp (boot_open e hN f w)
 simp only[BW] at e2
 obtain⟨rfl,rfl,rfl,rfl⟩:=e2
 obtain⟨s,g1,g2⟩:=AX.mp (h w os)
 have r:=nX N _ _ _ g1
 have r:topRun Fy p w m₀ ann N ⟨Bv w.params,Gj [],EM,Fz,os⟩ (Hr p)=some s.abs:=by
  rw[<-hb];exact r
 have z:=hz w.params
 simp only[BW] at z
 obtain⟨z1,z2,z3⟩:=z
 unfold aCM at g2
 simp only[BW] at g2
 obtain⟨l1,l2,l3⟩:=g2
 have t:Ht Fy p w N ⟨Bv w.params,Gj [],EM,Fz,os⟩=some s.abs:=by
  unfold Ht
  dsimp only
  rw[z1,z2,z3,r]
  show(match G8 (Eh p.main.body) (Bv w.params) s.abs.heap&&Gi p s.abs.heap&&GW s.abs&&GX (Bv w.params) s.abs.heap with|true=>_|false=>_)=_
  rw[l1]
 unfold openEnds
 rw[e1]
 show(Ht Fy p w N _).map _=_
 rw[t]
 exact congrArg some (H0 l2 l3)
def T0(P:FW):BT:=bt (Bv P).objs.toList 5 1 0
theorem aHL:∀P,absHeap (T0 P) 11 {}=Bv P:=λP=>by kernel_rfl
theorem aEG:∀P:FW,((Bv P).isNs AZ,(Bv P).objs.size,(Bv P).nsMap AZ "__annotations__")=(true,11,some (.ref 6)):=λP=>by kernel_rfl
abbrev aKh:=@PySem.W.Fast.tw10156331382660048174
abbrev qOk:=@PySem.W.Fast.tw6613529449190102663
abbrev aLG:=@PySem.W.Fast.tw11892475500146522536
abbrev aLH:=@PySem.W.Fast.tw14364793385576792824
abbrev aKi:=@PySem.W.Fast.tw4187177175401517315
abbrev aKj:=@PySem.W.Fast.tw5923862056798008813
def aKk{α:Type}(p q:Av)(loose:List Str)(Yf:Ae->α)(N:Nat)(w:AG)(os:FG):=
 (go (aKh (aLG aLH) p w) (qOk 11 (some (.ref 6))) N ⟨T0 w.params,11,{},Gj [],EM,Fz,os⟩ (Hr p)).map λs=>
  ((G8 (aKj p.main.body) (Bv w.params) s.abs.heap&&Gi p s.abs.heap&&GW s.abs&&GX (Bv w.params) s.abs.heap),aKi q loose (aKj p.main.body) (λ_=>true) true s.abs,Yf s.abs)
theorem aHM{p q:Av}{loose:List Str}{α:Type}{Yf:Ae->α}{Ya:AG->α}{N:Nat}(e:opening p=plainProg p.main.scope.names)(hN:Nat.ble 600 N=true)(f:∀s,Gy p s=some s)
 (h:∀w os,aKk p q loose Yf N w os=some (true,GY q loose,Ya w)):HC p q loose (λ_=>true) Yf Ya N:=by
 refine aEF e hN f aHL aEG λw os=>?_
 unfold aCM
 rw[E9,EN,EA,EB,EO,EQ]
 exact h w os
end Hh
end
noncomputable section
namespace Hh
open PySem PySem.W PySem.Calls PyProof.Rows L2 Hp
def jN(h:Heap):Ak:=(AO h.objs.size).filterMap λa=>(h.get? a).map λo=>(a,o)
theorem oT{α:Type}(f:Nat->Option α)(a:Nat):∀n,((AO n).filterMap λi=>(f i).map λo=>(i,o)).lookup a=if a<n then f a else none
 | 0=>rfl
 | n+1=>by
  rw[List.range_succ,List.filterMap_append,List.lookup_append,oT f a n]
  by_cases h:a<n
  . rw[if_pos h,if_pos (BP h)]
    cases q:f a with
    | some o=>rfl
    | none=>
     have hne:(a==n)=false:=beq_eq_false_iff_ne.mpr (A6 h)
     cases q2:f n with
     | none=>simp[q2]
     | some o=>simp[q2,CH,hne]
  . rw[if_neg h]
    by_cases e:a=n
    . subst e
      rw[if_pos (Bk _)]
      cases q:f a with
      | none=>simp[q]
      | some o=>simp[q,CH]
    . rw[if_neg (by omega)]
      have hne:(a==n)=false:=beq_eq_false_iff_ne.mpr e
      cases q2:f n with
      | none=>simp[q2]
      | some o=>simp[q2,CH,hne]
theorem cT(h:Heap)(a:Addr):(jN h).lookup a=h.get? a:=by
 unfold jN
 rw[oT]
 by_cases q:a<h.objs.size
 . rw[if_pos q]
 . rw[if_neg q]
   cases e:h.get? a with
   | none=>rfl
   | some o=>exact absurd (An e) q
theorem aAd{h h':Heap}(k:∀b o,h.get? b=some o->h'.get? b=some o):(jN h).In h':=λa o e=>k a o (by rw[<-cT];exact e)
def lX(h:Heap)(x:Str):Option (Option Value):=match h.get? AZ with
 | some ⟨_,_,.dict es _,_⟩=>(match es.toList.find? (λe=>match e.key with|.str y _=>Fj y x|_=>false) with
  | some e=>some (some e.val)
  | none=>if es.toList.any (·.refKey) then none else some none)
 | _=>none
theorem aCN(v:Value)(x:Str):v.isStr x=(match v with|.str y _=>Fj y x|_=>false):=by
 cases v with
 | str y t=>
  show(y==x)=Fj y x
  rw[F9,beq_iff_eq,GK]
 | _=>rfl
theorem gK(h:Heap)(x:Str):nsIn (jN h) AZ x=lX h x:=by
 unfold nsIn lX
 rw[cT]
 simp only[aCN]
 rfl
def oU(h:Heap)(cd:Value):Option Str:=match cd with
 | .ref c=>(match h.get? c with
  | some ⟨_,_,.fields vs,_⟩=>(match vs.toList with|_::.str n _::_=>some n|_=>none)
  | _=>none)
 | _=>none
theorem aBk{h:Heap}{cd:Value}{q:Str}(e:oU h cd=some q):codeIn (jN h) cd q=true:=by
 unfold oU at e
 unfold codeIn
 split at e
 . rename_i c
   simp only[cT]
   split at e
   . rename_i vs _ ho
     rw[ho]
     split at e
     . rename_i a n t r hv
       cases e
       simp only[hv,beq_self_eq_true]
     . cases e
   . cases e
 . cases e
abbrev Pin:=Str×Str×Ex×FuncBody×Cu×Addr×List (Str×Addr)×Value×Addr×Option Str
def yA(h:Heap)(x:Str):Option Pin:=match lX h x with
 | some (some (.ref a))=>(match h.get? a with
  | some ⟨_,_,.func fd,_⟩=>some (fd.name,fd.qualname,fd.params,fd.body,fd.scope,fd.globals,fd.closure,fd.defaults,fd.builtins,oU h fd.code)
  | _=>none)
 | _=>none
def cO(s:Br):Str:=match s with
 | .FunctionDef x _ _ _ _ _ _ _ _ _=>x
 | _=>⟨#[]⟩
def aCO(st:Br):Pin:=(cO st,cO st,iM st,.stmts (iN st),bM st,AZ,[],.none,ED,some (cO st))
theorem aEH{h:Heap}{st:Br}(e:yA h (cO st)=some (aCO st)):∃fa fd,nsIn (jN h) AZ (cO st)=some (some (.ref fa))/\Fun (jN h) (cO st) (cO st) st fa fd:=by
 unfold yA at e
 split at e
 . rename_i a hn
   split at e
   . rename_i c d fd sl ho
     obtain⟨n,qn,ps,b,sc,g,cl,df,kd,doc,pm,an,cd,ct,bn⟩:=fd
     unfold aCO at e
     simp only[BO,BW] at e
     obtain⟨rfl,rfl,rfl,rfl,rfl,rfl,rfl,rfl,rfl,hc⟩:=e
     refine⟨a,_,by rw[gK];exact hn,⟨⟨c,d,kd,doc,pm,an,cd,ct,sl,rfl,by rw[cT];exact ho,aBk hc⟩,?_⟩⟩
     unfold keepIn
     simp only[cT,ho]
   . cases e
 . cases e
theorem vM{α:Type}{x:Str}{u:α}:∀{ps:List Str} {us:List α},ps.Nodup->ps.length=us.length->(x,u)∈ps.zip us->(ps.zip us).lookup x=some u
 | [],_,_,_,h=>by simp at h
 | p::ps,[],_,h,_=>by simp at h
 | p::ps,v::us,hn,hl,h=>by
  rw[AA] at h ⊢
  obtain⟨h1,h2⟩:=B8.mp hn
  rcases AD.mp h with h|h
  . cases h;simp[CH]
  . have hx:x∈ps:=(Db h).1
    have:(x==p)=false:=beq_eq_false_iff_ne.mpr λz=>h1 (z▸hx)
    simp only[CH,this]
    exact vM h2 (by simpa using hl) h
theorem aCP{α:Type}(L:List (Str×α)):∀{ps:List Str} {us:List α},ps.length=us.length->(∀p∈ps.zip us,L.lookup p.1=some p.2)->(ps.filterMap λn=>(L.lookup n).map (n,·))=ps.zip us
 | [],_,_,_=>by simp
 | p::ps,[],h,_=>by simp at h
 | p::ps,v::us,hl,h=>by
  rw[AA,C2,h (p,v) (by simp),aCP L (ps:=ps) (us:=us) (by simpa using hl) λq hq=>h q (by rw[AA];exact Ag _ hq)]
  rfl
theorem aCQ{α:Type}(L:List (Str×α)):∀{ps:List Str} {us:List α},ps.length=us.length->(∀p∈ps.zip us,L.lookup p.1=some p.2)->(ps.filter λn=>(L.lookup n).isNone)=[]
 | [],_,_,_=>by simp
 | p::ps,[],h,_=>by simp at h
 | p::ps,v::us,hl,h=>by
  rw[List.filter_cons,h (p,v) (by simp),aCQ L (ps:=ps) (us:=us) (by simpa using hl) λq hq=>h q (by rw[AA];exact Ag _ hq)]
  rfl
def iR(a:Ex)(ps:List Str):Bool:=match a with
 | ⟨[],as,none,[],[],none,[]⟩=>decide (as.map (·.arg)=ps)&&decide ps.Nodup
 | _=>false
theorem oV{x q:Str}{a:Ex}{b:List Br}{sc:Cu}{kV doc pm:Value}{an:Option Addr}{cdv ct:Value}{ps:List Str}{us:List Value}(h:iR a ps=true)(hl:us.length=ps.length) :
 FO (fnOf x q a b sc .none kV doc pm an cdv ct) ⟨us,[]⟩=pure (ps.zip us):=by
 unfold iR at h
 split at h
 . rename_i as
   obtain⟨h1,h2⟩:=Bool.and_eq_true_iff.mp h
   have h1:=of_decide_eq_true h1
   have h2:=of_decide_eq_true h2
   have z:∀p∈ps.zip us,(ps.zip us).lookup p.1=some p.2:=λp hp=>vM h2 hl.symm hp
   have e1:=aCQ (ps.zip us) hl.symm z
   have e2:=aCP (ps.zip us) hl.symm z
   unfold FO
   have e3:∀s:Value,s=.none->(G7 s)=pure none:=λs e=>by subst e;rfl
   simp only[mN,Dc,h1,e3,Et,pure_bind,hl,gt_iff_lt,AM,decide_false,CI,CQ,lN,Nat.zero_sub,List.drop_nil,GE,Ca,e1,List.isEmpty_nil,CW,Bl,List.zip_nil_right,Ax,e2,if_false,bF]
 . cases h
def vN(s:Br):Bool:=match s with
 | .FunctionDef _ _ _ _ _ _ _ _ _ _=>true
 | _=>false
def aCR:D->Value->Bool
 | .int i,.int j _=>decide (i=j)
 | .str a,.str b _=>Fj a b
 | .non,.none=>true
 | .bl a,.bool b=>a==b
 | _,_=>false
def yB(h:Heap)(c:Str×D):Bool:=match lX h c.1 with
 | some (some u)=>aCR c.2 u
 | _=>false
def kM:Value->Option Str
 | .str x _=>some x
 | _=>none
abbrev aCS:=Int×Option Str×Option (Value×List (Option Str))
def nQ(h:Heap)(e:Dl):aCS:=(e.hash,kM e.key,match e.val with
 | .ref b=>(match h.get? b with
  | some ⟨c,_,.seq its _,_⟩=>some (c,its.toList.map kM)
  | _=>none)
 | _=>none)
def sQ(h:Heap)(x:Str):Option (Bool×Value×Option Addr×Array (Option Value)×List aCS):=match lX h x with
 | some (some (.ref a))=>(match h.get? a with
  | some ⟨c,d,.dict es _,sl⟩=>some (a==Dm,c,d,sl,es.toList.map (nQ h))
  | _=>none)
 | _=>none
def sR(w:AG)(p:Str×List Str):aCS:=(Hk w p.1,some p.1,some (.type "tuple",p.2.map some))
def yC(w:AG)(t:List (Str×List Str)):Option (Bool×Value×Option Addr×Array (Option Value)×List aCS):=some (false,.type "dict",none,#[],t.map (sR w))
def aBl(t:List (Str×List Str)):List (Str×D):=t.map λp=>(p.1,.tup (p.2.map D.str))
theorem aAe:∀{us:List Value} {xs:List Str},us.map kM=xs.map some->aV (xs.map V.str) us
 | [],[],_=>.nil
 | [],_::_,h=>by cases h
 | _::_,[],h=>by cases h
 | u::us,x::xs,h=>by
  rw[mC,mC] at h
  obtain⟨h1,h2⟩:=Gz h
  refine .cons ?_ (aAe h2)
  unfold kM at h1
  split at h1
  . cases h1;exact⟨_,rfl⟩
  . cases h1
theorem aHN{h:Heap}{w:AG}{e:Dl}{p:Str×List Str}(q:nQ h e=sR w p)(hl:p.2.length<=1000):ER w (jN h) e (p.1,.tup (p.2.map D.str)):=by
 unfold nQ sR at q
 simp only[BW] at q
 obtain⟨q1,q2,q3⟩:=q
 refine⟨q1,?_,?_⟩
 . unfold kM at q2
   split at q2
   . rename_i y tk he
     exact⟨tk,by rw[he];exact congrArg (λz=>G0 z tk) (Ai q2)⟩
   . cases q2
 . split at q3
   . rename_i b he
     split at q3
     . rename_i c d its n sl ho
       have q3:=Ai q3
       simp only[BW] at q3
       obtain⟨e1,e2⟩:=q3
       subst e1
       have hz:=congrArg F4 e2
       rw[lM,lM] at hz
       exact⟨.ref b,by rw[he];rfl,aCK (by rw[cT];exact ho) p.2 (by rw[<-B9,hz];exact hl) (aAe e2)⟩
     . cases q3
   . cases q3
theorem rC{h:Heap}{w:AG}:∀{es:List Dl} {t:List (Str×List Str)},es.map (nQ h)=t.map (sR w)->(∀p∈t,p.2.length<=1000)->EC (ER w (jN h)) es (aBl t)
 | [],[],_,_=>.nil
 | [],_::_,q,_=>by cases q
 | _::_,[],q,_=>by cases q
 | e::es,p::t,q,hl=>by
  rw[mC,mC] at q
  obtain⟨h1,h2⟩:=Gz q
  exact .cons (aHN h1 (hl p (Aq ..))) (rC h2 λp' hp=>hl p' (Ag _ hp))
def aAf(t:List (Str×List Str)):Bool:=(t.all λp=>decide (p.2.length<=1000))&&decide (t.map (·.1)).Nodup
theorem aCT{prog:Av}{h:Heap}{w:AG}{x:Str}{t:List (Str×List Str)}(e:sQ h x=yC w t)(ok:aAf t=true):∃a,nsIn (jN h) AZ x=some (some (.ref a))/\qV prog w (jN h) a (aBl t):=by
 unfold aAf at ok
 rw[bA,Az] at ok
 unfold sQ yC at e
 split at e
 . rename_i a hn
   split at e
   . rename_i c d es ep sl ho
     have e:=Ai e
     simp only[BW] at e
     obtain⟨e1,rfl,rfl,rfl,e5⟩:=e
     refine⟨a,(gK h x).trans hn,aHK e1 (by rw[cT];exact ho) (rC e5 λp hp=>of_decide_eq_true (ok.1 p hp)) ?_⟩
     unfold aBl
     rw[Bc]
     exact of_decide_eq_true ok.2
   . cases e
 . cases e
structure Sn where
 cns:List (Str×D)
 tbs:List (Str×List (Str×List Str))
abbrev aFA:=List (Option Pin)×List (Option (Option Value))×Bool×List (Option (Bool×Value×Option Addr×Array (Option Value)×List aCS))
def iS(p:Av)(n:Sn)(h:Heap):aFA:=
 ((p.main.body.filter vN).map (λst=>yA h (cO st)),bltNames.map (lX h),n.cns.all (yB h),n.tbs.map (λq=>sQ h q.1))
def lY(p:Av)(n:Sn)(w:AG):aFA:=
 ((p.main.body.filter vN).map (λst=>some (aCO st)),bltNames.map (λ_=>some none),true,n.tbs.map (λq=>yC w q.2))
def vO(p:Av)(i:Nat):Br:=p.main.body.getD i (.Pass ⟨0,0,0,0⟩)
def nG(p:Av)(c:Nat×List Str):Tx:=⟨cO (vO p c.1),cO (vO p c.1),vO p c.1,c.2⟩
theorem aHO{p:Av}{i:Nat}(h:vN (vO p i)=true):vO p i∈p.main.body:=by
 unfold vO at h ⊢
 rw[List.getD_eq_getElem?_getD] at h ⊢
 cases e:p.main.body[i]? with
 | none=>rw[e] at h;cases h
 | some s=>exact mG e
theorem aEI{h:Heap}{c:Str×D}(e:yB h c=true):∃u v,nsIn (jN h) AZ c.1=some (some u)/\bI v u/\∀H ex,Rep (jN h) H ex c.2 v:=by
 unfold yB at e
 split at e
 . rename_i u hn
   obtain⟨x,d⟩:=c
   have e:aCR d u=true:=e
   unfold aCR at e
   split at e
   . cases of_decide_eq_true e;exact⟨_,.int _,(gK _ _).trans hn,⟨_,rfl⟩,λ_ _=>rfl⟩
   . cases GK.mp e;exact⟨_,.str _,(gK _ _).trans hn,⟨_,rfl⟩,λ_ _=>rfl⟩
   . exact⟨_,.non,(gK _ _).trans hn,rfl,λ_ _=>rfl⟩
   . cases eq_of_beq e;exact⟨_,.bl _,(gK _ _).trans hn,rfl,λ_ _=>rfl⟩
   . cases e
 . cases e
theorem aHP{prog p:Av}{w:AG}{h0 h:Heap}{mg:Str->Option Value}{P:Pg}{Γ:Ct}{ix:List (Nat×List Str)}{n:Sn}(S:iS p n h0=lY p n w)(k:∀b o,h0.get? b=some o->h.get? b=some o)(G:h.Ns AZ mg)
 (hi:(ix.all λc=>vN (vO p c.1))=true) (h1:Γ.fns=(ix.map (nG p)).map (·.x)) (h2:Γ.cns=n.cns) (h3:Γ.tbs=n.tbs.map (·.1)) (h4:P.tabs=n.tbs.map λq=>aBl q.2) (h5:(n.tbs.all λq=>aAf q.2)=true)
 (hb:((P.fns.zip (ix.map (nG p))).all λq=>iR (iM q.2.st) (q.2.N.take q.1.np))=true) (chk:iG Γ P.fns (ix.map (nG p))=true) :
 Top prog w (jN h0) mg P Γ (ix.map (nG p)):=by
 unfold iS lY at S
 simp only[BW] at S
 obtain⟨s1,s2,s3,s4⟩:=S
 have X:=aAd k
 exact {
  fn:=λf t ht=>by
   rw[A4] at ht
   obtain⟨c,hc,rfl⟩:=AX.mp ht
   have hd:=Az.mp hi c (mG hc)
   obtain⟨fa,fd,g1,g2⟩:=aEH (D4.mp s1 _ (Ec.mpr ⟨aHO hd,hd⟩))
   refine⟨fa,fd,mg_of X G g1,g2,λF hF=>g2.binds λkV doc pm an cdv ct us hl=>oV (Az.mp hb (F,nG p c) (mG (i:=f) ?_)) hl⟩
   rw[Dy]
   exact⟨hF,by rw[A4,hc];rfl⟩
  fns:=λf x hx=>by
   rw[h1,A4] at hx
   obtain⟨t,ht,rfl⟩:=AX.mp hx
   exact⟨t,ht,rfl⟩
  blt:=λx hx=>mg_none_of X G ((gK h0 x).trans (D4.mp s2 x hx))
  cns:=λx d hx=>by
   rw[h2] at hx
   obtain⟨u,v,g1,g2⟩:=aEI (Az.mp s3 _ (Bg hx))
   exact⟨u,v,mg_of X G g1,g2⟩
  tab:=λi x hx=>by
   rw[h3,A4] at hx
   obtain⟨q,hq,rfl⟩:=AX.mp hx
   have hm:=mG hq
   obtain⟨a,g1,g2⟩:=aCT (prog:=prog) (D4.mp s4 q hm) (Az.mp h5 q hm)
   exact⟨a,aBl q.2,mg_of X G g1,by rw[h4,A4,hq];rfl,g2⟩
  chk:=chk }
theorem aCU{l:FB}{n k:Nat}{q:Av}{loose:List Str}{XP:(Str->Option Value)->Heap->Prop}{YP:AG->Heap->Prop}{d:DefRec}{sp:Ak->Sp}{x:Str}(hn:l.most=some n)(hn2:n<=sizeLine)(hdf:d.params.defaults=[])(hr:jH k DX)
 (F:∀(w:AG) (mg:Str->Option Value) (fa:Addr) (h:Heap),YP w h->h.Ns AZ mg->mg d.name=some (.ref fa)->∃K:Ak,K.In h/\∃fd:Cy,(∀(s:Ae) (u:Value),GB s fd ⟨[u],[]⟩ [(x,u)])/\∀base:Heap,K.In base->base.Ns AZ mg->nD l.prog w K mg base CX0 k fa fd [x] (sp K))
 (hsp:∀(K:Ak) (H:Hp) (a:Addr) (ns:List Int),ns.length<=n->aDZ H->SqL K H a (ns.map V.int)->sp K [.ref a] H (λv _=>v=.bl true) λ_ _ _=>False):PySem.W.WalkO q loose XP YP l.row.toRowW d [] (λf vs=>FX f vs):=by
 refine Att.attach_call hn hdf λw s₀ s₁ mg mb fa o pm cd doc a vs ns G Y ho hd hcd hmg hobj hints hlen hg=>?_
 obtain⟨K,KX,fd,hb,hF⟩:=F w mg fa _ Y G.T.g hmg
 exact aBY KX G.T.g G.T.b G.T.builtins G.T.nolimit hg hobj hints (AW hlen hn2) hr hF hb (λH hO hS=>hsp K H a ns hlen hO hS) λ_ _ _ z=>z
def lst(p:Av):Br:=p.main.body.getLastD (.Pass ⟨0,0,0,0⟩)
def rD(p:Av):Av:={ p with main:={ p.main with body:=[lst p] } }
def sU(p:Av):List Str:=(p.main.scope.names.map (·.1)).filter λx=>!(Fj x (cO (lst p)))
def aHQ(s:Br):BX:=match s with
 | .FunctionDef _ _ _ _ _ _ _ _ _ p=>p
 | _=>⟨0,0,0,0⟩
def jO(p:Av):DefRec:=⟨cO (lst p),iM (lst p),iN (lst p),bM (lst p),aHQ (lst p)⟩
theorem aHR{l:FB}{P:Pg}{n:Sn}{ix:List (Nat×List Str)}{k f N:Nat}{x:Str}{sl:List Str}(said:l.row.wellSaid=true)(left:HC l.prog (rD l.prog) (sU l.prog) (λ_=>true) (λs=>iS l.prog n s.heap) (λw=>lY l.prog n w) N)
 (hdef:defOf (rD l.prog) l.name=some (jO l.prog,[])) (hp:l.prog.theDef l.name=some ((jO l.prog).params,(jO l.prog).body,(jO l.prog).scope)) (hk:kwWritten? (jO l.prog).params.kwonlyargs (jO l.prog).params.kw_defaults=some []) (hwr:(!l.writes||([]:WRecords).isEmpty)=true)
 (ok:(chainsOk (rD l.prog)&&opensWell l.prog&&(frees l.row.toRowW&&l.row.within.isEmpty))=true) (hb:l.prog.bare) (hw:l.row.toRowW.promised) (hn:l.most=some 63) (hdf:(jO l.prog).params.defaults=[])
 (hi:(ix.all λc=>vN (vO l.prog c.1))=true) (hbd:((P.fns.zip (ix.map (nG l.prog))).all λq=>iR (iM q.2.st) (q.2.N.take q.1.np))=true) (chk:iG ⟨[],[],(ix.map (nG l.prog)).map (·.x),n.cns,[],true,n.tbs.map (·.1)⟩ P.fns (ix.map (nG l.prog))=true)
 (h4:P.tabs=n.tbs.map λq=>aBl q.2) (h5:(n.tbs.all λq=>aAf q.2)=true) (hr:jH (k+1) DX) (hx:(ix.map (nG l.prog))[f]? = some ⟨cO (lst l.prog),cO (lst l.prog),lst l.prog,x::sl⟩) (hnp:(P.fns[f]?).map (·.np)=some 1)
 (pure:∀ns:List Int,ns.length<=63->∃fr pa,Hp.call P (k+1) f [.lst (ns.map D.int)]=.ok (.bl true,fr,pa)):l.row.Holds:=by
 refine holds_open (XP:=λ_ _=>True) (YP:=λw h=>∃h0,iS l.prog n h0=lY l.prog n w/\∀b o,h0.get? b=some o->h.get? b=some o) left (λw s e=>⟨s.heap,e,λ_ _ z=>z⟩) (λw h h' ⟨h0,e,k⟩ k'=>⟨h0,e,λb o z=>k' b o (k b o z)⟩) (λ_ _=>trivial) (λ_ _ _ _ _=>trivial) hdef hp hk (λ_ _=>recFacts_nil rfl) hwr said ok hb hw ?_
 obtain⟨F,hF,hFn⟩:=AX.mp hnp
 refine aCU (sp:=λK=>spF K P (k+1) f) (x:=x) hn (by decide) hdf hr (λw mg fa h ⟨h0,e,kk⟩ G hmg=>?_) λK H a ns hl hO hS=>aHJ hO hS (pure ns hl)
 have T:=aHP (prog:=l.prog) (w:=w) (P:=P) (Γ:=⟨[],[],(ix.map (nG l.prog)).map (·.x),n.cns,[],true,n.tbs.map (·.1)⟩) e kk G hi rfl rfl rfl h4 h5 hbd chk
 obtain⟨fa',fd,g1,g2,g3⟩:=T.fn f _ hx
 have e:=hmg.symm.trans g1
 cases e
 have b:=g3 F hF
 refine⟨jN h0,aAd kk,fd,λs u=>?_,λbase _ _=>?_⟩
 . obtain⟨oc,od,kV,doc,pm,an,cdv,ct,osl,rfl,lk,hcd⟩:=g2.ex
   refine .of_eq ((oV (ps:=[x]) ?_ rfl).trans rfl)
   have:=Az.mp hbd (F,_) (mG (i:=f) (Dy.mpr ⟨hF,hx⟩))
   rw[hFn] at this
   exact this
 . have:=aHI (base:=base) T hx hF g2 k
   rw[hFn] at this
   exact this
end Hh
end
noncomputable section
namespace Hp
open PySem (Str Operator CmpOp)
section
variable {P:Pg} {cl:Caller} {σ:Sg}
@[simp] theorem aC {α β:Type} (a:α) (f:α->R β):((R.ok a:R α) >>= f)=f a:=id rfl
@[simp] theorem rE {α:Type} (x:R α):R.iff true x=x:=id rfl
@[simp] theorem aMk {α:Type} (x:α):R.of (some x)=.ok x:=id rfl
@[simp] theorem aG {α:Type} (a:α) (f:α->O):O.from σ (.ok a) f=f a:=id rfl
@[simp] theorem nH (f:Sg->O):(O.next σ).on f=f σ:=id rfl
@[simp] theorem kN (v:Vl) (f:Sg->O):(O.ret v).on f=.ret v:=id rfl
@[simp] theorem bT (d:D):ev P cl σ (.c d)=.ok (.cl d):=id rfl
@[simp] theorem eB (i:Nat):ev P cl σ (.v i)=bV σ i:=id rfl
@[simp] theorem eV (o:Operator) (a b:E):ev P cl σ (.op o a b)=(ev P cl σ a >>= λx=>ev P cl σ b >>= λy=>opD o x y):=id rfl
@[simp] theorem aLI (a:E):ev P cl σ (.neg a)=(ev P cl σ a >>= λx=>match x.d with|.int i=>.ok (.cl (.int (-i)))|_=>.bad):=id rfl
@[simp] theorem aMg (a:E):ev P cl σ (.nt a)=(ev P cl σ a >>= λx=>eA x >>= λk=>.ok (.cl (.bl (!k)))):=id rfl
@[simp] theorem aMh (a b:E):ev P cl σ (.an a b)=(ev P cl σ a >>= λx=>match x.d with|.bl true=>ev P cl σ b|.bl false=>.ok (.cl (.bl false))|_=>.bad):=id rfl
@[simp] theorem aLJ (a b:E):ev P cl σ (.orr a b)=(ev P cl σ a >>= λx=>match x.d with|.bl true=>.ok (.cl (.bl true))|.bl false=>ev P cl σ b|_=>.bad):=id rfl
@[simp] theorem yD (t a b:E):ev P cl σ (.ife t a b)=(tst P cl σ t >>= λx=>if x then ev P cl σ a else ev P cl σ b):=id rfl
@[simp] theorem aHS (o:CmpOp) (a b:E):ev P cl σ (.cmp o a b)=(ev P cl σ a >>= λx=>ev P cl σ b >>= λy=>match bL o x.d y.d with|some k=>.ok (.cl (.bl k))|none=>.bad):=id rfl
@[simp] theorem aKL (o o':CmpOp) (a b c:E):ev P cl σ (.cmp2 o o' a b c)=(ev P cl σ a >>= λx=>ev P cl σ b >>= λy=>match bL o x.d y.d with
 | some true=>ev P cl σ c >>= λz=>(match bL o' y.d z.d with|some k=>.ok (.cl (.bl k))|none=>.bad)
 | some false=>.ok (.cl (.bl false))
 | none=>.bad):=id rfl
@[simp] theorem fO (a b:E):ev P cl σ (.idx a b)=(ev P cl σ a >>= λx=>ev P cl σ b >>= λy=>cG x y):=id rfl
@[simp] theorem yE (es:Es):ev P cl σ (.tup es)=(evs P cl σ es >>= λvs=>.ok (zK vs)):=id rfl
@[simp] theorem jP (es:Es):ev P cl σ (.lst es)=(evs P cl σ es >>= λvs=>.ok (gW vs)):=id rfl
@[simp] theorem cV (f:Nat) (es:Es):ev P cl σ (.call f es)=(evs P cl σ es >>= λvs=>cl f (vs.map (·.d)) >>= λr=>.ok (eT vs r)):=id rfl
@[simp] theorem iH (b:Bi) (es:Es):ev P cl σ (.bi b es)=(evs P cl σ es >>= λvs=>biD b vs):=id rfl
@[simp] theorem aLK (m:Mt) (o:E) (es:Es):ev P cl σ (.mth m o es)=(ev P cl σ o >>= λx=>evs P cl σ es >>= λys=>mtD m x ys):=id rfl
@[simp] theorem aLL (a:E) (cs:List Cl):ev P cl σ (.isi a cs)=(ev P cl σ a >>= λx=>match isI cs P x.d with|some k=>.ok (.cl (.bl k))|none=>.bad):=id rfl
@[simp] theorem aKM (a:E) (h:E):ev P cl σ (.sli a .nil (.cons h .nil))=(ev P cl σ a >>= λx=>ev P cl σ h >>= λh=>match h.d with|.int h=>.iff (aH h) (eE x none (some h))|_=>.bad):=by
 show(ev P cl σ a >>= λx=>evs P cl σ .nil >>= λl=>evs P cl σ (.cons h .nil) >>= λh=>_)=_
 cases ev P cl σ a with
 | ok x=>
  show(evs P cl σ (.cons h .nil) >>= λh=>_)=(ev P cl σ h >>= λh=>_)
  show((ev P cl σ h >>= λx=>evs P cl σ .nil >>= λxs=>R.ok (x::xs)) >>= λh=>_)=_
  cases ev P cl σ h <;> rfl
 | exc e=>rfl
 | bad=>rfl
theorem sV(k:Nat)(caps:List Nat)(t:T)(it:It)(cond:Es)(elt:E):ev P cl σ (.comp k caps t it cond elt)=(walk P cl σ it >>= λxs=>
 cY (λx=>bJ (Ad k .dead++caps.map λi=>((freeze σ xs.2)[i]?).getD .dead) x t >>= λσ1=>tsts P cl σ1 cond >>= λk=>if k then (ev P cl σ1 elt >>= λy=>.ok (some y)) else .ok none) xs.1 >>= λvs=>
 .iff (decide (vs.length<=lim)) (.ok (hG k caps xs.2 vs))):=rfl
@[simp] theorem aIg (a:E):ev P cl σ (.numset a)=(ev P cl σ a >>= λx=>match x.d with
 | .lst ds=>(match sA ds with|some ks=>.iff (decide (ds.length<=1000)) (.ok (.cl (.int (aCa ks).length)))|none=>.bad)
 | _=>.bad):=id rfl
@[simp] theorem aY:evs P cl σ .nil=.ok []:=id rfl
@[simp] theorem aE (e:E) (es:Es):evs P cl σ (.cons e es)=(ev P cl σ e >>= λx=>evs P cl σ es >>= λxs=>.ok (x::xs)):=id rfl
@[simp] theorem yF (a:E):tst P cl σ (.nt a)=(tst P cl σ a >>= λx=>.ok (!x)):=id rfl
@[simp] theorem yG (a b:E):tst P cl σ (.an a b)=(tst P cl σ a >>= λx=>if x then tst P cl σ b else .ok false):=id rfl
@[simp] theorem eN (a b:E):tst P cl σ (.orr a b)=(tst P cl σ a >>= λx=>if x then .ok true else tst P cl σ b):=id rfl
@[simp] theorem aMi (d:D):tst P cl σ (.c d)=eA (.cl d):=id rfl
@[simp] theorem aFB (i:Nat):tst P cl σ (.v i)=(bV σ i >>= λx=>eA x):=id rfl
@[simp] theorem bP (o:CmpOp) (a b:E):tst P cl σ (.cmp o a b)=(ev P cl σ a >>= λx=>ev P cl σ b >>= λy=>match bL o x.d y.d with|some k=>.ok k|none=>.bad):=id rfl
@[simp] theorem aCV (o o':CmpOp) (a b c:E):tst P cl σ (.cmp2 o o' a b c)=(ev P cl σ a >>= λx=>ev P cl σ b >>= λy=>match bL o x.d y.d with
 | some true=>ev P cl σ c >>= λz=>(match bL o' y.d z.d with|some k=>.ok k|none=>.bad)
 | some false=>.ok false
 | none=>.bad):=id rfl
@[simp] theorem vP (f:Nat) (es:Es):tst P cl σ (.call f es)=(evs P cl σ es >>= λvs=>cl f (vs.map (·.d)) >>= λr=>eA (eT vs r)):=id rfl
@[simp] theorem aAg (a:E) (cs:List Cl):tst P cl σ (.isi a cs)=(ev P cl σ a >>= λx=>match isI cs P x.d with|some k=>.ok k|none=>.bad):=id rfl
@[simp] theorem aKN (a b:E):tst P cl σ (.idx a b)=(ev P cl σ a >>= λx=>ev P cl σ b >>= λy=>cG x y >>= λz=>eA z):=id rfl
@[simp] theorem aKl:tsts P cl σ .nil=.ok true:=id rfl
@[simp] theorem aIh (e:E) (es:Es):tsts P cl σ (.cons e es)=(tst P cl σ e >>= λx=>if x then tsts P cl σ es else .ok false):=id rfl
@[simp] theorem vQ (a b:E):walk P cl σ (.rng a b)=(ev P cl σ a >>= λx=>ev P cl σ b >>= λy=>match x.d,y.d with|.int i,.int j=>.iff (aH i&&aH j) (.ok ((bY i j).map .cl,[]))|_,_=>.bad):=id rfl
@[simp] theorem iI (e:E):walk P cl σ (.seq e)=(ev P cl σ e >>= λx=>match x.d with
 | .lst ds=>.ok (items x ds,x.al)
 | .tup ds=>.ok (items x ds,x.al)
 | .str a=>.iff (decide (a.length<=lim)) (.ok (a.cps.toList.map λn=>.cl (.str ⟨#[n]⟩),[]))
 | _=>.bad):=id rfl
@[simp] theorem vR (a b:E):walk P cl σ (.zip a b)=(ev P cl σ a >>= λx=>ev P cl σ b >>= λy=>match gY x.d,gY y.d with
 | some as,some bs=>.ok (items ⟨.non,false,x.pa||y.pa,x.al++y.al⟩ (gX as bs),x.al++y.al)
 | _,_=>.bad):=id rfl
@[simp] theorem dI (t:T) (e:E):ex P cl σ (.set t e)=O.from σ (ev P cl σ e) λv=>O.from σ (bJ (freeze σ v.al) v t) .next:=id rfl
@[simp] theorem aHT (i:Nat) (e:E):ex P cl σ (.app i e)=O.from σ (ev P cl σ e) λv=>put σ i v λds=>some (ds++[v.d]):=id rfl
@[simp] theorem aLM (i:Nat) (e:E):ex P cl σ (.ext i e)=O.from σ (ev P cl σ e) λv=>match qS v with|some (v',ds')=>put σ i v' λds=>some (ds++ds')|none=>.bad:=id rfl
@[simp] theorem aLN (i:Nat):ex P cl σ (.clr i)=put σ i (.cl .non) λ_=>some []:=id rfl
@[simp] theorem aKm (i:Nat) (k e:E):ex P cl σ (.setIx i k e)=O.from σ (ev P cl σ e) λv=>O.from σ (ev P cl σ k) λkv=>match kv.d with
 | .int k=>put σ i v λds=>(match ixN ds.length k with|some j=>some (ds.set j v.d)|none=>none)
 | _=>.bad:=id rfl
@[simp] theorem sW (e:E):ex P cl σ (.ret e)=O.from σ (ev P cl σ e) .ret:=id rfl
@[simp] theorem aS (c:E) (a b:Ss):ex P cl σ (.iff c a b)=O.from σ (tst P cl σ c) λk=>if k then exs P cl σ a else exs P cl σ b:=id rfl
theorem jQ(t:T)(it:It)(b:Ss):ex P cl σ (.for t it b)=O.from σ (walk P cl σ it) λxs=>cN (λσ x=>O.from σ (bJ σ x t) λσ'=>exs P cl σ' b) xs.1 (freeze σ xs.2):=rfl
@[simp] theorem aLO (i j:Nat):ex P cl σ (.mov i j)=(match σ[j]? with
 | some (.own pa ds)=>if i=j then .bad else .next ((σ.set j .dead).set i (.own pa ds))
 | some (.sh pa d)=>.next (σ.set i (.sh (pa&&!noL d) d))
 | _=>.bad):=id rfl
@[simp] theorem nR (i:Nat):ex P cl σ (.retv i)=(match σ[i]? with|some (.own pa ds)=>.ret ⟨.lst ds,true,pa,[]⟩|_=>O.from σ (bV σ i) .ret):=id rfl
@[simp] theorem aKn (i:Nat) (k:E):ex P cl σ (.pop none i (some k))=O.from σ (ev P cl σ k >>= λv=>match v.d with|.int k=>.iff (aH k) (.ok (some k))|_=>.bad) λk=>O.from σ (iA σ i k) λr=>.next r.2:=id rfl
@[simp] theorem dJ:exs P cl σ .nil=.next σ:=id rfl
@[simp] theorem bO (s:S) (ss:Ss):exs P cl σ (.cons s ss)=(ex P cl σ s).on λσ'=>exs P cl σ' ss:=id rfl
end
theorem aM{P:Pg}{cl:Caller}{f:Nat}{F:Fn}{ds:List D}(hF:P.fns[f]? = some F)(hl:ds.length=F.np){v:Vl}
 (h:exs P cl ((ds.map λd=>Sl.sh true d)++Ad (F.ns-F.np) Sl.dead) F.body=.ret v):iZ P cl f ds=.ok (v.d,v.fr,v.pa):=by
 unfold iZ
 rw[hF]
 simp only[hl,if_true,h]
theorem oW{f:Sg->Vl->O}:∀(xs:List Vl) (I:Nat->Sg->Prop) (σ:Sg),I 0 σ->(∀(i:Nat) (h:i<xs.length) (σ:Sg),I i σ->∃σ',f σ xs[i]=.next σ'/\I (i+1) σ')->∃σ',cN f xs σ=.next σ'/\I xs.length σ'
 | [],I,σ,h0,_=>⟨σ,rfl,h0⟩
 | x::xs,I,σ,h0,hs=>by
  obtain⟨σ1,e1,h1⟩:=hs 0 (by simp) σ h0
  obtain⟨σ2,e2,h2⟩:=oW xs (λi=>I (i+1)) σ1 h1 λi h σ hI=>by
   have:=hs (i+1) (by simpa using h) σ hI
   simpa using this
  refine⟨σ2,?_,by simpa using h2⟩
  have e1:f σ x=.next σ1:=by simpa using e1
  unfold cN
  rw[e1]
  exact e2
theorem oX{f:Vl->R (Option Vl)}{g:Vl->Vl}:∀{xs:List Vl},(∀x∈xs,f x=.ok (some (g x)))->cY f xs=.ok (xs.map g)
 | [],_=>rfl
 | x::xs,h=>by
  have h1:=h x Aq
  have h2:=oX (f:=f) (g:=g) (xs:=xs) λy hy=>h y (Ag _ hy)
  show(f x >>= λy=>cY f xs >>= λys=>(match y with|some y=>R.ok (y::ys)|none=>R.ok ys))=_
  rw[h1,h2]
  rfl
theorem sX(n:Nat):(bY 0 (n:Int)).map Vl.cl=(AO n).map λ(k:Nat)=>Vl.cl (.int (k:Int)):=by
 unfold bY
 rw[Bc]
 simp
theorem aAh{P:Pg}{cl:Caller}{σ:Sg}{k:Nat}{caps:List Nat}{t:T}{it:It}{elt:E}{xs:List Vl}{al:List Nat}(g:Vl->Vl)(hw:walk P cl σ it=.ok (xs,al))(hl:xs.length<=lim)
 (hb:∀x∈xs,∃σ1,bJ (Ad k .dead++caps.map λi=>((freeze σ al)[i]?).getD .dead) x t=.ok σ1/\ev P cl σ1 elt=.ok (g x)):ev P cl σ (.comp k caps t it .nil elt)=.ok (hG k caps al (xs.map g)):=by
 rw[sV,hw,aC,oX (g:=g) λx hx=>by
  obtain⟨σ1,e1,e2⟩:=hb x hx
  show(bJ _ x t >>= λσ1=>_)=_
  rw[e1]
  show(ev P cl σ1 elt >>= λy=>R.ok (some y))=_
  rw[e2]
  rfl]
 have hl2:decide ((xs.map g).length<=lim)=true:=Al (by rw[lM];exact hl)
 rw[aC,hl2,rE]
theorem fP{P:Pg}{cl:Caller}{σ:Sg}{t:T}{it:It}{b:Ss}{xs:List Vl}{al:List Nat}(I:Nat->Sg->Prop)(hw:walk P cl σ it=.ok (xs,al))(h0:I 0 (freeze σ al))
 (hs:∀(i:Nat) (h:i<xs.length) (σ:Sg),I i σ->∃σ1 σ',bJ σ xs[i] t=.ok σ1/\exs P cl σ1 b=.next σ'/\I (i+1) σ'):∃σ',ex P cl σ (.for t it b)=.next σ'/\I xs.length σ':=by
 rw[jQ,hw]
 refine oW xs I _ h0 λi h σ hI=>?_
 obtain⟨σ1,σ',e1,e2,h'⟩:=hs i h σ hI
 refine⟨σ',?_,h'⟩
 show O.from σ (bJ σ xs[i] t) _=_
 rw[e1]
 exact e2
theorem aAi:aH 0=true:=by decide
theorem gL{n:Nat}(hn:n<=1000000):aH (n:Int)=true:=by
 unfold aH
 rw[bA,A7,A7]
 exact⟨Fk (b:=0) (by decide) (Dx n),Int.lt_of_le_of_lt (b:=1000000) (by omega) (by decide)⟩
theorem aBm{k:Nat}{caps al:List Nat}{vs:List Vl}(h:noLs (vs.map (·.d))=true):hG k caps al vs=⟨.lst (vs.map (·.d)),true,false,[]⟩:=by
 unfold hG
 rw[if_pos h]
end Hp
end
noncomputable section
namespace HpS
open Hp PySem
def box(b:Str×Int):D:=.tup [.str b.1,.int b.2]
def aD(bs:List (Str×Int)):List D:=bs.map box
structure aLP (bs:List (Str×Int)):Prop where
 few:bs.length<=5
 one:∀b∈bs,1<=b.2/\b.2<=7
 room:(bs.map λb=>b.2+1).foldl (·*·) 1<=24
def mB(bs:List (Str×Int)):Int:=(bs.map λb=>b.2+1).foldl (·*·) 1
theorem sY:∀(xs:List Int) (a:Int),1<=a->(∀x∈xs,1<=x)->a<=xs.foldl (·*·) a
 | [],a,_,_=>Int.le_refl _
 | x::xs,a,ha,h=>by
  have hx:=h x Aq
  have h1:a<=a*x:=by
   have:=Int.mul_le_mul_of_nonneg_left hx (show 0<=a by omega)
   omega
  exact Fk h1 (sY xs (a*x) (by omega) λy hy=>h y (Ag _ hy))
def aHU(b:List Int)(top:Int):List (List Int):=(AO (top+1).toNat).map λ(h:Nat)=>b++[(h:Int)]
def extend(found:List (List Int))(top:Int):List (List Int):=found.flatMap λb=>aHU b top
end HpS
end
noncomputable section
namespace Hp
open PySem (Str)
@[simp] theorem aKO (d:D):(⟨d,false,false,[]⟩:Vl)=.cl d:=id rfl
@[simp] theorem cQ (d:D):(Vl.cl d).d=d:=id rfl
@[simp] theorem aMj (d:D):(Vl.cl d).fr=false:=id rfl
@[simp] theorem aAj (d:D):(Vl.cl d).pa=false:=id rfl
@[simp] theorem gQ (d:D):(Vl.cl d).al=[]:=id rfl
@[simp] theorem cC (d:D):(Vl.cl d).slot=.sh false d:=by cases d <;> rfl
@[simp] theorem aKP (ds:List D) (pa:Bool) (al:List Nat):(⟨.lst ds,true,pa,al⟩:Vl).slot=.own pa ds:=id rfl
@[simp] theorem bC (i:Nat) (d:D):Sl.val i (.sh false d)=.ok (.cl d):=id rfl
@[simp] theorem iT (i:Nat) (pa:Bool) (k:Int):Sl.val i (.sh pa (.int k))=.ok (.cl (.int k)):=by cases pa <;> rfl
@[simp] theorem nS (i:Nat) (pa:Bool) (k:Str):Sl.val i (.sh pa (.str k))=.ok (.cl (.str k)):=by cases pa <;> rfl
@[simp] theorem mD (i:Nat) (pa:Bool) (k:Bool):Sl.val i (.sh pa (.bl k))=.ok (.cl (.bl k)):=by cases pa <;> rfl
@[simp] theorem aKQ (i:Nat) (pa:Bool):Sl.val i (.sh pa .non)=.ok (.cl .non):=by cases pa <;> rfl
@[simp] theorem fE (i:Nat) (ds:List D):Sl.val i (.sh true (.lst ds))=.ok ⟨.lst ds,false,true,[]⟩:=id rfl
theorem fF(i:Nat)(pa:Bool){d:D}(h:noL d=true):Sl.val i (.sh pa d)=.ok (.cl d):=by unfold Sl.val;simp[h]
@[simp] theorem sZ (i:Nat) (pa:Bool) (ds:List D):Sl.val i (.own pa ds)=.ok ⟨.lst ds,false,pa,[i]⟩:=id rfl
@[simp] theorem fV (σ:Sg) (v:Vl) (i:Nat):bJ σ v (.n i)=.ok (σ.set i v.slot):=id rfl
@[simp] theorem bG (σ:Sg):freeze σ []=σ:=id rfl
@[simp] theorem aCW (b:Bool):eA (.cl (.bl b))=.ok b:=id rfl
@[simp] theorem oY (args:List Vl) (d:D):eT args (d,false,false)=.cl d:=id rfl
@[simp] theorem aLQ (args:List Vl) (d:D):eT args (d,true,false)=⟨d,true,false,[]⟩:=id rfl
@[simp] theorem dL (a b:D):bL .Eq a b=eqD a b:=id rfl
@[simp] theorem yH (a b:D):bL .NotEq a b=(eqD a b).map (!·):=id rfl
@[simp] theorem oZ (a b:Int):bL .Lt (.int a) (.int b)=some (decide (a<b)):=id rfl
@[simp] theorem aCX (a b:Int):bL .Gt (.int a) (.int b)=some (decide (b<a)):=id rfl
@[simp] theorem aLR (a b:Int):bL .LtE (.int a) (.int b)=some (decide (a<=b)):=id rfl
@[simp] theorem aLS (a b:Int):bL .GtE (.int a) (.int b)=some (decide (b<=a)):=id rfl
@[simp] theorem fG (a b:Int):eqD (.int a) (.int b)=some (a==b):=id rfl
@[simp] theorem fH (a b:Str):eqD (.str a) (.str b)=some (a==b):=id rfl
@[simp] theorem aLT (a b:Bool):eqD (.bl a) (.bl b)=some (a==b):=id rfl
@[simp] theorem aKR (P:Pg) (k:Int):isI [.tInt] P (.int k)=some true:=id rfl
@[simp] theorem aKo (P:Pg) (k:Int):isI [.tBool] P (.int k)=some false:=id rfl
@[simp] theorem aAk (P:Pg) (k:Str):isI [.tStr] P (.str k)=some true:=id rfl
@[simp] theorem aAl (P:Pg) (k:List D):isI [.tTuple] P (.tup k)=some true:=id rfl
@[simp] theorem aKS (P:Pg) (k:List D):isI [.tList] P (.lst k)=some true:=id rfl
@[simp] theorem aLU (P:Pg) (k:Bool):isI [.tBool] P (.bl k)=some true:=id rfl
@[simp] theorem add_int (i j:Int):opD .Add (.cl (.int i)) (.cl (.int j))=.ok (.cl (.int (i+j))):=id rfl
@[simp] theorem sub_int (i j:Int):opD .Sub (.cl (.int i)) (.cl (.int j))=.ok (.cl (.int (i-j))):=id rfl
theorem mul_int{i j:Int}(h:qQ i j=true):opD .Mult (.cl (.int i)) (.cl (.int j))=.ok (.cl (.int (i*j))):=by
 show R.iff (qQ i j) _=_
 rw[h];rfl
theorem tB{i j:Int}(h:uI j=true):opD .FloorDiv (.cl (.int i)) (.cl (.int j))=.ok (.cl (.int (i / j))):=by
 show R.iff (uI j) _=_
 rw[h];rfl
theorem aAm{i j:Int}(h:0<j):opD .Mod (.cl (.int i)) (.cl (.int j))=.ok (.cl (.int (i % j))):=by
 show R.iff (decide (0<j)) _=_
 rw[Al h];rfl
@[simp] theorem cP (ds:List D) (fr pa:Bool) (al:List Nat):biD .len [⟨.lst ds,fr,pa,al⟩]=.ok (.cl (.int ds.length)):=id rfl
@[simp] theorem iU (ds:List D):biD .len [.cl (.tup ds)]=.ok (.cl (.int ds.length)):=id rfl
@[simp] theorem aKp (ds:List D):biD .len [.cl (.lst ds)]=.ok (.cl (.int ds.length)):=id rfl
end Hp
end
noncomputable section
namespace HpS
open Hp PySem
section
variable {P:Pg} {cl:Caller} {σ σ':Sg}
theorem cs{s:S}{ss:Ss}{o:O}(h:ex P cl σ s=.next σ')(r:exs P cl σ' ss=o):exs P cl σ (.cons s ss)=o:=by rw[bO,h,nH,r]
theorem jE{i:Nat}{e:E}{d:D}(h:ev P cl σ e=.ok (.cl d)):ex P cl σ (.set (.n i) e)=.next (σ.set i (.sh false d)):=by rw[dI,h,aG,gQ,bG,fV,aG,cC]
theorem cX{e:E}{ss:Ss}{v:Vl}(h:ev P cl σ e=.ok v):exs P cl σ (.cons (.ret e) ss)=.ret v:=by rw[bO,sW,h];rfl
theorem dW{c:E}{a:Ss}(h:tst P cl σ c=.ok false):ex P cl σ (.iff c a .nil)=.next σ:=by rw[aS,h];rfl
theorem pA{c:E}{a b ss:Ss}{v:Vl}(h:tst P cl σ c=.ok true)(r:exs P cl σ a=.ret v):exs P cl σ (.cons (.iff c a b) ss)=.ret v:=by
 rw[bO,aS,h,aG,if_pos rfl,r];rfl
theorem aX{a b:E}{x y z:Vl}(h:ev P cl σ a=.ok x)(k:ev P cl σ b=.ok y)(e:cG x y=.ok z):ev P cl σ (.idx a b)=.ok z:=by rw[fO,h,aC,k,aC,e]
theorem bH{a:E}{w x:Str}{b:Bool}(h:ev P cl σ a=.ok (.cl (.str w)))(q:(w==x)=b):tst P cl σ (.cmp .Eq a (.c (.str x)))=.ok b:=by
 rw[bP,h,aC,bT,aC,cQ,cQ,dL,fH,q]
theorem nT{f:Nat}{a b c:E}{x y z:Vl}{d:D}(h1:ev P cl σ a=.ok x)(h2:ev P cl σ b=.ok y)(h3:ev P cl σ c=.ok z)(hc:cl f [x.d,y.d,z.d]=.ok (d,false,false)):ev P cl σ (.call f (.cons a (.cons b (.cons c .nil))))=.ok (.cl d):=by
 have e:evs P cl σ (.cons a (.cons b (.cons c .nil)))=.ok [x,y,z]:=by rw[aE,h1,aC,aE,h2,aC,aE,h3,aC,aY];rfl
 rw[cV,e,aC,show [x,y,z].map (·.d)=[x.d,y.d,z.d] from rfl,hc];rfl
theorem eK{t a b:E}{k:Bool}{v:Vl}(h:tst P cl σ t=.ok k)(r:(if k then ev P cl σ a else ev P cl σ b)=.ok v):ev P cl σ (.ife t a b)=.ok v:=by rw[yD,h,aC,r]
theorem eC{o:Operator}{a b:E}{x y z:Vl}(h:ev P cl σ a=.ok x)(k:ev P cl σ b=.ok y)(e:opD o x y=.ok z):ev P cl σ (.op o a b)=.ok z:=by rw[eV,h,aC,k,aC,e]
theorem aKq{o:CmpOp}{a b:E}{x y:Vl}{k:Bool}(h:ev P cl σ a=.ok x)(g:ev P cl σ b=.ok y)(e:bL o x.d y.d=some k):ev P cl σ (.cmp o a b)=.ok (.cl (.bl k)):=by rw[aHS,h,aC,g,aC,e]
theorem fW{b:Bi}{a:E}{x z:Vl}(h:ev P cl σ a=.ok x)(e:biD b [x]=.ok z):ev P cl σ (.bi b (.cons a .nil))=.ok z:=by
 have h2:evs P cl σ (.cons a .nil)=.ok [x]:=by rw[aE,h];rfl
 rw[iH,h2,aC,e]
end
end HpS
end
noncomputable section
namespace Hp
open PySem (Str)
theorem pB{α:Type}{g:α->D}(ng:∀t,noL (g t)=true):∀ts:List α,noLs (ts.map g)=true
 | []=>rfl
 | t::ts=>by rw[mC,noLs,ng t,pB ng ts];rfl
theorem vS{α:Type}{F:Vl->R (Option Vl)}{f:α->Vl}{g:α->D}{p:α->Bool}:∀{ts:List α},(∀t∈ts,F (f t)=.ok (if p t then some (.cl (g t)) else none))->cY F (ts.map f)=.ok ((ts.filter p).map λt=>.cl (g t))
 | [],_=>rfl
 | t::ts,h=>by
  have h1:=h t Aq
  have h2:=vS (F:=F) (f:=f) (g:=g) (p:=p) (ts:=ts) λy hy=>h y (Ag _ hy)
  show(F (f t) >>= λy=>cY F (ts.map f) >>= λys=>(match y with|some y=>R.ok (y::ys)|none=>R.ok ys))=_
  rw[h1,h2]
  cases hp:p t with
  | true=>rw[List.filter_cons_of_pos hp];rfl
  | false=>rw[List.filter_cons_of_neg (by rw[hp];exact bN)];rfl
theorem aEJ{α:Type}{g:α->D}(ng:∀t,noL (g t)=true){k:Nat}{caps al:List Nat}(ts:List α):hG k caps al (ts.map λt=>Vl.cl (g t))=⟨.lst (ts.map g),true,false,[]⟩:=by
 have e:(ts.map λt=>Vl.cl (g t)).map (·.d)=ts.map g:=by rw[Bc];rfl
 rw[aBm (by rw[e];exact pB ng ts),e]
theorem aCY{P:Pg}{cl:Caller}{σ:Sg}{k:Nat}{caps al:List Nat}{T:T}{it:It}{elt:E}{α:Type}{ts:List α}(f:α->Vl)(g:α->D)(ng:∀t,noL (g t)=true)(hw:walk P cl σ it=.ok (ts.map f,al))(hl:ts.length<=lim)
 (hb:∀t∈ts,∃σ1,bJ (Ad k .dead++caps.map λi=>((freeze σ al)[i]?).getD .dead) (f t) T=.ok σ1/\ev P cl σ1 elt=.ok (.cl (g t))):ev P cl σ (.comp k caps T it .nil elt)=.ok ⟨.lst (ts.map g),true,false,[]⟩:=by
 rw[sV,hw,aC,vS (f:=f) (g:=g) (p:=λ_=>true) λt ht=>by
  obtain⟨σ1,e1,e2⟩:=hb t ht
  show(bJ _ (f t) T >>= λσ1=>_)=_
  rw[e1]
  show(ev P cl σ1 elt >>= λy=>R.ok (some y))=_
  rw[e2]
  rfl]
 have hf:ts.filter (λ_=>true)=ts:=List.filter_eq_self.mpr λ_ _=>rfl
 have hl2:decide ((ts.map λt=>Vl.cl (g t)).length<=lim)=true:=Al (by rw[lM];exact hl)
 rw[aC,hf,hl2,rE,aEJ ng]
theorem mE{α:Type}{v:Vl}{g:α->D}(ng:∀t,noL (g t)=true)(ts:List α):items v (ts.map g)=ts.map λt=>Vl.cl (g t):=by
 unfold items
 rw[Bc]
 refine Dh λt _=>?_
 show Vl.sub v (g t)=_
 unfold Vl.sub
 rw[if_pos (ng t)]
theorem aAn{a b:D}(ha:noL a=true)(hb:noL b=true):noL (.tup [a,b])=true:=by simp[noL,noLs,ha,hb]
@[simp] theorem aKT {P:Pg} {cl:Caller} {σ:Sg} (a b:E):ev P cl σ (.lzip a b)=(ev P cl σ a >>= λx=>ev P cl σ b >>= λy=>match gY x.d,gY y.d with
 | some as,some bs=>.iff (decide (as.length<=lim)) (.ok (aFp x y (gX as bs)))
 | _,_=>.bad):=id rfl
end Hp
end
noncomputable section
namespace Hp
section
variable {P:Pg} {cl:Caller} {σ:Sg} {l:Nat}
theorem aEK(d:D):noAl (.cl d) σ=.ok (.cl d,σ):=id rfl
theorem aFC(a:E):evl P cl l σ (.e a)=(ev P cl σ a >>= λx=>noAl x σ):=id rfl
theorem aHV(o:PySem.Operator)(a b:EL):evl P cl l σ (.op o a b)=(evl P cl l σ a >>= λx=>evl P cl l x.2 b >>= λy=>opD o x.1.nr y.1.nr >>= λz=>noAl z y.2):=id rfl
theorem tD(a b:EL):evl P cl l σ (.idx a b)=(evl P cl l σ a >>= λx=>evl P cl l x.2 b >>= λy=>cG x.1.nr y.1.nr >>= λz=>noAl z y.2):=id rfl
theorem tE(es:ELs):evl P cl l σ (.tup es)=(evls' P cl l σ es >>= λr=>.ok (⟨.tup (r.1.map (·.d)),false,aT r.1,[]⟩,r.2)):=id rfl
theorem gM(e:EL)(es:ELs):evls' P cl l σ (.cons e es)=(evl P cl l σ e >>= λx=>evls' P cl l x.2 es >>= λr=>.ok (x.1::r.1,r.2)):=id rfl
theorem fI(i l:Nat)(fz:List Nat)(e:EL):ex P cl σ (.setL i l fz e)=O.from σ (evl P cl l (freeze σ fz) e) λr=>.next (r.2.set i r.1.slot):=id rfl
theorem aAo(i l:Nat)(e:EL):ex P cl σ (.appL i l e)=if (hZ σ i).isSome then O.from σ (evl P cl l σ e) λr=>put r.2 i r.1.nr λds=>some (ds++[r.1.d]) else .bad:=id rfl
theorem tF(e:EL):ex P cl σ (.retL e)=O.from σ (evl P cl 0 σ e) λr=>mS r.1 r.2:=id rfl
theorem aAp(o:PySem.CmpOp)(a:EL)(b:E)(x y:Ss):ex P cl σ (.iffL o a b x y)=O.from σ (evl P cl 0 σ a) λr=>O.from r.2 (ev P cl r.2 b) λz=>match bL o r.1.d z.d with
 | some k=>if k then exs P cl r.2 x else exs P cl r.2 y
 | none=>.bad:=id rfl
theorem aCZ(d:D)(c:List D)(r:Sg):mS (.cl d) (.lent c::r)=.ret (.cl (.tup [d,.err 0 c])):=id rfl
theorem pC{f:Nat}{es:ELs}{vs:List Vl}{c c1 c2:List D}{r r1:Sg}{d:D}(hf:mR P f=true)(ha:evls' P cl 0 (.lent c::r) es=.ok (vs,.lent c1::r1))(hc:cl f (.err 0 c1::vs.map (·.d))=.ok (.tup [d,.err 0 c2],false,false)) :
 evl P cl 0 (.lent c::r) (.call f es)=.ok (.cl d,.lent c2::r1):=by
 show R.iff ((bK (.lent c::r) 0).isSome&&mR P f) (evls' P cl 0 (.lent c::r) es >>= λr=>_)=_
 rw[hf,ha]
 show(cl f (.err 0 c1::vs.map (·.d)) >>= λq=>_)=_
 rw[hc]
 rfl
theorem pD{f:Nat}{es:ELs}{vs:List Vl}{σ1:Sg}{z:Bool×List D}{pa fr pr:Bool}{cs cs':List D}{d:D}(h0:bK σ l=some z)(hf:mR P f=true)(ha:evls' P cl l σ es=.ok (vs,σ1))(h1:bK σ1 l=some (pa,cs))(hc:cl f (.err 0 cs::vs.map (·.d))=.ok (.tup [d,.err 0 cs'],fr,pr)) :
 evl P cl l σ (.call f es)=.ok (⟨d,fr,pr&&(pa||aT vs),[]⟩,cB σ1 l (pa||aT vs) cs'):=by
 show R.iff ((bK σ l).isSome&&mR P f) (evls' P cl l σ es >>= λr=>(match bK r.2 l with
  | some (pa,cs)=>cl f (.err 0 cs::r.1.map (·.d)) >>= λq=>gE r.2 l pa r.1 q
  | none=>.bad))=_
 rw[h0,hf,ha]
 show(match bK σ1 l with
  | some (pa,cs)=>cl f (.err 0 cs::vs.map (λv:Vl=>v.d)) >>= λq=>gE σ1 l pa vs q
  | none=>.bad)=_
 rw[h1]
 show(cl f (.err 0 cs::vs.map (·.d)) >>= λq=>gE σ1 l pa vs q)=_
 rw[hc]
 rfl
theorem aHW{a b:EL}{x y z:Vl}{σ1 σ2:Sg}(h:evl P cl l σ a=.ok (x,σ1))(h2:evl P cl l σ1 b=.ok (y,σ2))(h3:cG x.nr y.nr=.ok z)(h4:z.al=[]):evl P cl l σ (.idx a b)=.ok (z,σ2):=by
 rw[tD,h,aC,h2,aC]
 show(cG x.nr y.nr >>= λz=>noAl z σ2)=_
 rw[h3,aC]
 unfold noAl
 rw[h4]
 rfl
theorem pE{f:Sg->Vl->R (Vl×Sg)}(I:Nat->List D->Sg->Prop):∀(N a:Nat) (ds:List D) (σ:Sg),I a ds σ ->
 (∀i σ ds,a<=i->i<a+N->I i ds σ->∃y σ',f σ (.cl (.int (i:Int)))=.ok (y,σ')/\y.pa=false/\I (i+1) (ds++[y.d]) σ') ->
 ∃vs σ',dH f ((List.range' a N).map λ(k:Nat)=>Vl.cl (.int (k:Int))) σ=.ok (vs,σ')/\aT vs=false/\vs.length=N/\I (a+N) (ds++vs.map (·.d)) σ'
 | 0,a,ds,σ,h,_=>⟨[],σ,rfl,rfl,rfl,by rw[mN,Ax];exact h⟩
 | N+1,a,ds,σ,h,hs=>by
  obtain⟨y,σ1,e1,p1,h1⟩:=hs a σ ds (Aj _) (by omega) h
  obtain⟨vs,σ',e2,p2,l2,h2⟩:=pE I N (a+1) (ds++[y.d]) σ1 h1 λi σ ds ha hb=>hs i σ ds (by omega) (by omega)
  refine⟨y::vs,σ',?_,?_,by rw[lC,l2],?_⟩
  . rw[List.range'_succ,mC]
    show(f σ (Vl.cl (.int (a:Int))) >>= λy=>dH f _ y.2 >>= λr=>R.ok (y.1::r.1,r.2))=_
    rw[e1,aC,e2]
    rfl
  . show(y.pa||aT vs)=false
    rw[p1,p2];rfl
  . rw[show a+(N+1)=a+1+N by omega]
    simpa using h2
theorem vT{k l' N:Nat}{caps:List Nat}{t:T}{n elt:EL}{σ0:Sg}(I:Nat->List D->Sg->Prop)(hn:evl P cl l σ n=.ok (.cl (.int (N:Int)),σ0))(hN:N<=1000000)(h0:I 0 [] σ0)
 (hs:∀i σ ds,i<N->I i ds σ->∃σ1 y σ2 z pa cs,bJ (chB k caps σ) (.cl (.int (i:Int))) t=.ok σ1/\evl P cl l' σ1 elt=.ok (y,σ2)/\y.pa=false/\bK σ l=some z/\bK σ2 l'=some (pa,cs)/\I (i+1) (ds++[y.d]) (cB σ l pa cs)) :
 ∃ds σ',evl P cl l σ (.comp k caps t n l' elt)=.ok (⟨.lst ds,true,false,[]⟩,σ')/\I N ds σ':=by
 let f:Sg->Vl->R (Vl×Sg):=λσ x=>bJ (chB k caps σ) x t >>= λσ1=>evl P cl l' σ1 elt >>= λy=>(match bK σ l,bK y.2 l' with
  | some _,some (pa,cs)=>R.ok (y.1,cB σ l pa cs)
  | _,_=>.bad)
 obtain⟨vs,σ',e1,p1,l1,h1⟩:=pE (f:=f) I N 0 [] σ0 h0 λi σ ds _ hi hI=>by
  obtain⟨σ1,y,σ2,z,pa,cs,g1,g2,g3,g4,g5,g6⟩:=hs i σ ds (by omega) hI
  refine⟨y,cB σ l pa cs,?_,g3,g6⟩
  show(bJ (chB k caps σ) _ t >>= λσ1=>evl P cl l' σ1 elt >>= λy=>(match bK σ l,bK y.2 l' with
   | some _,some (pa,cs)=>R.ok (y.1,cB σ l pa cs)
   | _,_=>.bad))=_
  rw[g1,aC,g2,aC]
  show(match bK σ l,bK σ2 l' with
   | some _,some (pa,cs)=>R.ok (y,cB σ l pa cs)
   | _,_=>.bad)=_
  rw[g4,g5]
 refine⟨vs.map (·.d),σ',?_,by simpa using h1⟩
 show(evl P cl l σ n >>= λr=>(match r.1.d with
  | .int j=>R.iff (aH j) (dH f ((bY 0 j).map .cl) r.2 >>= λq=>R.iff (decide (q.1.length<=lim)) (.ok (Vl.mk (.lst (q.1.map (·.d))) true (aT q.1) [],q.2)))
  | _=>.bad))=_
 rw[hn,aC]
 show R.iff (aH (N:Int)) (dH f ((bY 0 (N:Int)).map .cl) σ0 >>= λq=>R.iff (decide (q.1.length<=lim)) (.ok (Vl.mk (.lst (q.1.map (·.d))) true (aT q.1) [],q.2)))=_
 rw[gL hN,sX,List.range_eq_range',e1]
 show R.iff (decide (vs.length<=lim)) (.ok (Vl.mk (.lst (vs.map (·.d))) true (aT vs) [],σ'))=_
 rw[l1,p1,Al (by unfold lim;omega)]
 rfl
theorem dM{f:Nat}{F:Fn}{b:Ss}{c:List D}{ds:List D}(hF:P.fns[f]? = some F)(hb:F.body=.cons .lend b)(hl:ds.length+1=F.np){v:Vl}
 (h:exs P cl (.lent c::((ds.map λd=>Sl.sh true d)++Ad (F.ns-F.np) Sl.dead)) b=.ret v):iZ P cl f (.err 0 c::ds)=.ok (v.d,v.fr,v.pa):=by
 refine aM (ds:=.err 0 c::ds) hF hl (v:=v) ?_
 rw[hb]
 exact h
end
end Hp
end
noncomputable section
namespace Hp
open PySem (Str Operator CmpOp)
section
variable {P:Pg} {cl:Caller} {σ:Sg}
@[simp] theorem tG (a l:E):ev P cl σ (.sli a (.cons l .nil) .nil)=(ev P cl σ a >>= λx=>ev P cl σ l >>= λl=>match l.d with|.int l=>.iff (aH l) (eE x (some l) none)|_=>.bad):=by
 show(ev P cl σ a >>= λx=>evs P cl σ (.cons l .nil) >>= λl=>evs P cl σ .nil >>= λh=>_)=_
 cases ev P cl σ a with
 | ok x=>
  show((ev P cl σ l >>= λx=>evs P cl σ .nil >>= λxs=>R.ok (x::xs)) >>= λl=>_)=(ev P cl σ l >>= λl=>_)
  cases ev P cl σ l <;> rfl
 | exc e=>rfl
 | bad=>rfl
@[simp] theorem aKU (a l h:E):ev P cl σ (.sli a (.cons l .nil) (.cons h .nil))=(ev P cl σ a >>= λx=>ev P cl σ l >>= λl=>ev P cl σ h >>= λh=>match l.d,h.d with|.int l,.int h=>.iff (aH l&&aH h) (eE x (some l) (some h))|_,_=>.bad):=by
 show(ev P cl σ a >>= λx=>evs P cl σ (.cons l .nil) >>= λl=>evs P cl σ (.cons h .nil) >>= λh=>_)=_
 cases ev P cl σ a with
 | ok x=>
  show((ev P cl σ l >>= λx=>evs P cl σ .nil >>= λxs=>R.ok (x::xs)) >>= λl=>_)=(ev P cl σ l >>= λl=>_)
  cases ev P cl σ l with
  | ok l=>
   show((ev P cl σ h >>= λx=>evs P cl σ .nil >>= λxs=>R.ok (x::xs)) >>= λh=>_)=(ev P cl σ h >>= λh=>_)
   cases ev P cl σ h <;> rfl
  | exc e=>rfl
  | bad=>rfl
 | exc e=>rfl
 | bad=>rfl
end
theorem kO{n k:Nat}(h:k<n):ixN n (k:Int)=some k:=by
 unfold ixN
 rw[if_pos (Dx k),if_pos (by omega)]
 simp
def num(c:Int):Nat->Int
 | 0=>c % 2147483647+48271
 | k+1=>(num c k*num c k+48271*num c k+(k:Int)) % 2147483647
def aKr(b:Str×Int):D:=.tup [.str b.1,.int b.2]
@[simp] theorem aKs (b:Str×Int):noL (aKr b)=true:=by simp[aKr,noL,noLs]
end Hp
end
noncomputable section
namespace HpS
open Hp PySem
inductive Sm where
 | num (n:Int)|box (k:Nat)|aft (k:Nat)|two (p:Bool) (a b:Sm)
def yI(p:Bool):Str:=if p then "plus" else "minus"
def Sm.d:Sm->D
 | .num n=>.tup [.str "number",.int n]
 | .box k=>.tup [.str "box",.int k]
 | .aft k=>.tup [.str "after",.int k]
 | .two p a b=>.tup [.str (yI p),a.d,b.d]
def Sm.sz:Sm->Nat
 | .two _ a b=>1+a.sz+b.sz
 | _=>1
def Sm.wf(c:Nat)(pl:Bool):Sm->Prop
 | .num n=>0<=n/\n<=99
 | .box k=>k<c
 | .aft k=>k<c/\pl=false
 | .two _ a b=>a.wf c pl/\b.wf c pl
theorem Sm.noL:∀s:Sm,Hp.noL s.d=true
 | .num _=>rfl
 | .box _=>rfl
 | .aft _=>rfl
 | .two _ a b=>by simp[Sm.d,Hp.noL,noLs,a.noL,b.noL]
theorem dY{v:Vl}{d:D}(h:Hp.noL d=true):Vl.sub v d=.cl d:=by unfold Vl.sub;rw[if_pos h]
theorem aDa(x:D)(r:List D)(h:Hp.noL x=true):cG (.cl (.tup (x::r))) (.cl (.int 0))=.ok (.cl x):=by
 have:ixN (x::r).length 0=some 0:=kO (k:=0) (by simp)
 unfold cG
 simp only[cQ,this,gZ,dY h]
theorem aKt(x y:D)(r:List D)(h:Hp.noL y=true):cG (.cl (.tup (x::y::r))) (.cl (.int 1))=.ok (.cl y):=by
 have:ixN (x::y::r).length 1=some 1:=kO (k:=1) (by simp)
 unfold cG
 simp only[cQ,this,gZ,gS,dY h]
theorem aLV(x y z:D)(r:List D)(h:Hp.noL z=true):cG (.cl (.tup (x::y::z::r))) (.cl (.int 2))=.ok (.cl z):=by
 have:ixN (x::y::z::r).length 2=some 2:=kO (k:=2) (by simp)
 unfold cG
 simp only[cQ,this,gZ,gS,dY h]
theorem aLW:(("number" : Str) == "number")=true:=by decide +kernel
theorem aKu:(("box" : Str) == "number")=false:=by decide +kernel
theorem aLX:∀p,(yI p == "after")=false:=by decide +kernel
theorem fX{P:Pg}{cl:Caller}{f:Nat}{F:Fn}{ds:List D}(hF:P.fns[f]? = some F)(hl:ds.length=F.np){σ:Sg}
 (h:exs P cl ((ds.map λd=>Sl.sh true d)++Ad (F.ns-F.np) Sl.dead) F.body=.next σ):iZ P cl f ds=.ok (.non,false,false):=by
 unfold iZ
 rw[hF]
 simp only[hl,if_true,h]
@[simp] theorem vU {P:Pg} {cl:Caller} {σ:Sg} (i:Nat) (a:E):ev P cl σ (.tget i a)=(ev P cl σ a >>= λx=>match x.d,P.tabs[i]? with|.str k,some t=>.ok (.cl ((t.lookup k).getD .non))|_,_=>.bad):=id rfl
def fWhole:Fn:=⟨1,1,(.cons (.ret (.an (.isi (.v 0) [.tInt]) (.nt (.isi (.v 0) [.tBool])))) .nil)⟩
def fWithin(wh:Nat):Fn:=⟨3,3,(.cons (.ret (.an (.call wh (.cons (.v 0) .nil)) (.cmp2 .LtE .LtE (.v 1) (.v 0) (.v 2)))) .nil)⟩
def fCheck(wi:Nat):Fn:=⟨3,4,
 (.cons (.set (.n 3) (.ife (.cmp .Eq (.v 1) (.c (.str "number"))) (.c (.int 99)) (.op .Sub (.bi .len (.cons (.v 0) .nil)) (.c (.int 1)))))
 (.cons (.iff (.nt (.call wi (.cons (.v 2) (.cons (.c (.int 0)) (.cons (.v 3) .nil)))))
  (.cons (.rse 1 false (.cons (.c (.str "a number is a whole one from 0 to 99, a box the number of one")) .nil))
  .nil)
  .nil)
 .nil))⟩
theorem aDb{P:Pg}{wh:Nat}(hF:P.fns[wh]? = some fWhole)(n:Nat)(i:Int):call P (n+1) wh [.int i]=.ok (.bl true,false,false):=aM (F:=fWhole) hF rfl (v:=.cl (.bl true)) rfl
theorem mF{P:Pg}{wh wi:Nat}(hW:P.fns[wh]? = some fWhole)(hF:P.fns[wi]? = some (fWithin wh))(n:Nat)(i a b:Int)(h1:a<=i)(h2:i<=b):call P (n+2) wi [.int i,.int a,.int b]=.ok (.bl true,false,false):=by
 refine aM (F:=fWithin wh) hF rfl (v:=.cl (.bl true)) ?_
 simp[fWithin,bV,aDb hW,h1,h2]
theorem aDc{P:Pg}{wh wi ch:Nat}(hW:P.fns[wh]? = some fWhole)(hI:P.fns[wi]? = some (fWithin wh))(hF:P.fns[ch]? = some (fCheck wi))(n:Nat){bs:List D}{due:Str}{i:Int}(h0:0<=i)(h1:i<=(if due == "number" then 99 else (bs.length:Int)-1)) :
 call P (n+3) ch [.lst bs,.str due,.int i]=.ok (.non,false,false):=by
 have c1:=mF hW hI n i 0 _ h0 h1
 cases q:due == "number" with
 | true=>
  rw[q,if_pos rfl] at c1
  refine fX (F:=fCheck wi) hF rfl (σ:=[.sh true (.lst bs),.sh true (.str due),.sh true (.int i),.sh false (.int 99)]) ?_
  simp[fCheck,bV,q,c1]
 | false=>
  rw[q,if_neg bN] at c1
  refine fX (F:=fCheck wi) hF rfl (σ:=[.sh true (.lst bs),.sh true (.str due),.sh true (.int i),.sh false (.int ((bs.length:Int)-1))]) ?_
  simp[fCheck,bV,q,c1]
def sumTab:List (Str×D):=[("number",.tup [.str "number"]),("box",.tup [.str "box"]),("after",.tup [.str "box"]),("plus",.tup [.str "sum",.str "sum"]),("minus",.tup [.str "sum",.str "sum"])]
def fForm:Fn:=⟨3,5,
 (.cons (.iff (.orr (.nt (.isi (.v 1) [.tTuple])) (.orr (.cmp .Eq (.bi .len (.cons (.v 1) .nil)) (.c (.int 0))) (.nt (.isi (.idx (.v 1) (.c (.int 0))) [.tStr]))))
  (.cons (.rse 1 false (.cons (.c (.str "a part is a tuple that begins with a word")) .nil))
  .nil)
  .nil)
 (.cons (.set (.n 3) (.idx (.v 1) (.c (.int 0))))
 (.cons (.set (.n 4) (.ife (.cmp .Eq (.v 0) (.c (.str "sum"))) (.tget 0 (.v 3)) (.tget 1 (.v 3))))
 (.cons (.iff (.orr (.cmp .Is (.v 4) (.c .non)) (.cmp .NotEq (.bi .len (.cons (.v 1) .nil)) (.op .Add (.bi .len (.cons (.v 4) .nil)) (.c (.int 1)))))
  (.cons (.rse 1 false (.cons (.c (.str "a part has a word that is due there, and as many things as go with it")) .nil))
  .nil)
  .nil)
 (.cons (.iff (.an (.v 2) (.cmp .Eq (.v 3) (.c (.str "after"))))
  (.cons (.rse 1 false (.cons (.c (.str "no after stands where a plain one is due")) .nil))
  .nil)
  .nil)
 (.cons (.retv 4)
 .nil))))))⟩
def Sm.word:Sm->Str
 | .num _ => "number" | .box _ => "box" | .aft _ => "after" | .two p _ _=>yI p
def Sm.rest:Sm->List D
 | .num n=>[.int n]|.box k=>[.int k]|.aft k=>[.int k]|.two _ a b=>[a.d,b.d]
def Sm.form:Sm->List Str
 | .num _=>["number"]|.box _=>["box"]|.aft _=>["box"]|.two _ _ _=>["sum", "sum"]
theorem Sm.d_eq:∀s:Sm,s.d=.tup (.str s.word::s.rest)
 | .num _=>rfl|.box _=>rfl|.aft _=>rfl|.two _ _ _=>rfl
theorem Sm.rest_noL:∀s:Sm,noLs s.rest=true
 | .num _=>rfl|.box _=>rfl|.aft _=>rfl
 | .two _ a b=>by simp[Sm.rest,noLs,a.noL,b.noL]
theorem Sm.len_eq:∀s:Sm,s.rest.length=s.form.length
 | .num _=>rfl|.box _=>rfl|.aft _=>rfl|.two _ _ _=>rfl
theorem Sm.look:∀s:Sm,sumTab.lookup s.word=some (.tup (s.form.map D.str))
 | .num _=>by rfl
 | .box _=>by rfl
 | .aft _=>by rfl
 | .two true _ _=>by rfl
 | .two false _ _=>by rfl
theorem aEL{P:Pg}{fo:Nat}(hF:P.fns[fo]? = some fForm)(hT:P.tabs[0]? = some sumTab)(n:Nat)(s:Sm){c:Nat}{pl:Bool}(w:s.wf c pl):call P (n+1) fo [.str "sum",s.d,.bl pl]=.ok (.tup (s.form.map D.str),false,false):=by
 have v1:=fF 1 true s.noL
 rw[s.d_eq] at v1 ⊢
 have i0:=aDa (.str s.word) s.rest rfl
 have qs:(("sum" : Str) == "sum")=true:=by decide +kernel
 have hln:((.str s.word::s.rest:List D).length:Int)=(s.form.length:Int)+1:=by rw[lC,s.len_eq];omega
 have h0:((((.str s.word::s.rest:List D).length:Int))==0)=false:=by rw[hln];exact beq_eq_false_iff_ne.mpr (by omega)
 have t1:tst P (call P n) [.sh true (.str "sum"),.sh true (.tup (.str s.word::s.rest)),.sh true (.bl pl),.dead,.dead] (.orr (.nt (.isi (.v 1) [.tTuple])) (.orr (.cmp .Eq (.bi .len (.cons (.v 1) .nil)) (.c (.int 0))) (.nt (.isi (.idx (.v 1) (.c (.int 0))) [.tStr]))))=.ok false:=by
  simp only[eN,yF,aAg,bP,eB,bT,iH,fO,aE,aY,bV,gS,gZ,v1,aC,cQ,aAl,CW,bF,if_false,iU,dL,fG,h0,i0,aAk]
 have t2:tst P (call P n) [.sh true (.str "sum"),.sh true (.tup (.str s.word::s.rest)),.sh true (.bl pl),.sh false (.str s.word),.sh false (.tup (s.form.map D.str))] (.orr (.cmp .Is (.v 4) (.c .non)) (.cmp .NotEq (.bi .len (.cons (.v 1) .nil)) (.op .Add (.bi .len (.cons (.v 4) .nil)) (.c (.int 1)))))=.ok false:=by
  have hi:bL .Is (.tup (s.form.map D.str)) .non=some false:=rfl
  have hq:(((s.form.length:Int)+1==(s.form.length:Int)+1))=true:=beq_self_eq_true _
  simp only[eN,bP,eB,bT,iH,eV,aE,aY,bV,gS,gZ,v1,bC,aC,cQ,hi,bF,if_false,iU,hln,lM,add_int,yH,fG,hq,Eg,CW]
 have t3:tst P (call P n) [.sh true (.str "sum"),.sh true (.tup (.str s.word::s.rest)),.sh true (.bl pl),.sh false (.str s.word),.sh false (.tup (s.form.map D.str))] (.an (.v 2) (.cmp .Eq (.v 3) (.c (.str "after"))))=.ok false:=by
  simp only[yG,aFB,bP,eB,bT,bV,gS,gZ,mD,bC,aC,aCW,cQ,dL,fH]
  cases pl with
  | false=>rfl
  | true=>
   have:(s.word == "after")=false:=by
    cases s with
    | num _=>exact(show((("number" : Str)) == "after")=false by decide +kernel)
    | box _=>exact(show((("box" : Str)) == "after")=false by decide +kernel)
    | aft k=>obtain⟨_,z⟩:k<c/\true=false:=w;cases z
    | two p _ _=>exact aLX p
   rw[if_pos rfl,this]
 refine aM (F:=fForm) hF rfl (v:=.cl (.tup (s.form.map D.str))) ?_
 have hnl:Hp.noL (.tup (s.form.map D.str))=true:=by cases s <;> rfl
 have hl:=s.look
 show exs P (call P n) [.sh true (.str "sum"),.sh true (.tup (.str s.word::s.rest)),.sh true (.bl pl),.dead,.dead] fForm.body=_
 unfold fForm
 simp only[bO,dJ,aS,t1,aG,bF,if_false,nH,dI,fO,eB,bT,bV,gS,gZ,v1,aC,i0,gQ,bG,fV,cC,lS,lZ,yD,bP,nS,cQ,dL,fH,qs,if_true,vU,bC,hT,hl,DD,t2,t3,nR,kN]
def fLook(fo ch lo:Nat):Fn:=⟨5,8,
 (.cons (.iff (.cmp .Eq (.v 4) (.c (.int 40)))
  (.cons (.rse 2 false (.cons (.c (.str "a condition or sum has at most forty parts")) .nil))
  .nil)
  .nil)
 (.cons (.set (.n 4) (.op .Add (.v 4) (.c (.int 1))))
 (.cons (.set (.n 5) (.call fo (.cons (.v 1) (.cons (.v 2) (.cons (.v 3) .nil)))))
 (.cons (.for (.t [6,7]) (.zip (.v 5) (.sli (.v 2) (.cons (.c (.int 1)) .nil) .nil))
  (.cons (.iff (.orr (.cmp .Eq (.v 6) (.c (.str "sum"))) (.cmp .Eq (.v 6) (.c (.str "cond"))))
   (.cons (.set (.n 4) (.call lo (.cons (.v 0) (.cons (.v 6) (.cons (.v 7) (.cons (.v 3) (.cons (.v 4) .nil)))))))
   .nil)
   (.cons (.ex (.call ch (.cons (.v 0) (.cons (.v 6) (.cons (.v 7) .nil)))))
   .nil))
  .nil))
 (.cons (.retv 4)
 .nil)))))⟩
def cU(ch lo:Nat):Ss:=(.cons (.iff (.orr (.cmp .Eq (.v 6) (.c (.str "sum"))) (.cmp .Eq (.v 6) (.c (.str "cond"))))
 (.cons (.set (.n 4) (.call lo (.cons (.v 0) (.cons (.v 6) (.cons (.v 7) (.cons (.v 3) (.cons (.v 4) .nil)))))))
 .nil)
 (.cons (.ex (.call ch (.cons (.v 0) (.cons (.v 6) (.cons (.v 7) .nil)))))
 .nil))
 .nil)
def fY(w:Str)(d:D):Vl:=.cl (.tup [.str w,d])
theorem aFD{P:Pg}{cl:Caller}{σ:Sg}(e:E):ex P cl σ (.ex e)=O.from σ (ev P cl σ e) λ_=>.next σ:=rfl
theorem mY{s0 s1 s2 s3 s4 s5 s6 s7:Sl}{w:Str}{d:D}(h:Hp.noL d=true):bJ [s0,s1,s2,s3,s4,s5,s6,s7] (fY w d) (.t [6,7])=.ok [s0,s1,s2,s3,s4,s5,.sh false (.str w),.sh false d]:=by
 unfold bJ fY
 simp only[cQ,lC,lN,if_true,AA,BQ,BL,List.foldl_nil,dY (show Hp.noL (.str w)=true from rfl),dY h,cC,lS,lZ]
theorem vV{P:Pg}{cl:Caller}{s0 s1 s3 s4 s6 s7:Sl}(s:Sm):walk P cl [s0,s1,.sh true s.d,s3,s4,.sh false (.tup (s.form.map D.str)),s6,s7] (.zip (.v 5) (.sli (.v 2) (.cons (.c (.int 1)) .nil) .nil)) =
 .ok ((s.form.zip s.rest).map λp=>fY p.1 p.2,[]):=by
 have v2:=fF 2 true s.noL
 have k1:aH 1=true:=by decide
 have hno:noLs (.str s.word::s.rest)=true:=by simp[noLs,Hp.noL,s.rest_noL]
 have hcut:cut (.str s.word::s.rest) (some 1) none=s.rest:=by cases s <;> rfl
 have hs:eE (.cl (.tup (.str s.word::s.rest))) (some 1) none=.ok (.cl (.tup s.rest)):=by
  unfold eE
  simp only[cQ,hcut,aAj,CI,hno,if_true]
  rfl
 have hz:items ⟨.non,false,false,[]⟩ (gX (s.form.map D.str) s.rest)=(s.form.zip s.rest).map λp=>fY p.1 p.2:=by
  cases s with
  | num _=>rfl
  | box _=>rfl
  | aft _=>rfl
  | two p a b=>
   show [Vl.sub _ (.tup [.str "sum",a.d]),Vl.sub _ (.tup [.str "sum",b.d])]=[fY "sum" a.d,fY "sum" b.d]
   rw[dY (by simp[Hp.noL,noLs,a.noL]),dY (by simp[Hp.noL,noLs,b.noL])]
   rfl
 rw[s.d_eq] at v2 ⊢
 simp only[vR,eB,tG,bT,bV,gS,gZ,v2,bC,aC,cQ,k1,rE,hs,gY,aAj,GL,gQ,Ax]
 rw[hz]
theorem aLY:(("sum" : Str) == "sum")=true:=by decide +kernel
theorem aLZ:(("number" : Str) == "sum")=false:=by decide +kernel
theorem aMa:(("number" : Str) == "cond")=false:=by decide +kernel
theorem aKv:(("box" : Str) == "sum")=false:=by decide +kernel
theorem aKw:(("box" : Str) == "cond")=false:=by decide +kernel
section
variable {P:Pg} {wh wi ch fo lo:Nat} (hW:P.fns[wh]? = some fWhole) (hI:P.fns[wi]? = some (fWithin wh)) (hC:P.fns[ch]? = some (fCheck wi)) (hO:P.fns[fo]? = some fForm) (hT:P.tabs[0]? = some sumTab) (hL:P.fns[lo]? = some (fLook fo ch lo))
include hW hI hC hO hT hL
theorem aBn{n:Nat}{bs:List D}{s1 s2 s3 s5 s6 s7:Sl}{m:Int}{w:Str}{i:Int}(h0:0<=i)(h1:i<=(if w == "number" then 99 else (bs.length:Int)-1))(q1:(w == "sum")=false)(q2:(w == "cond")=false) :
 exs P (call P (n+3)) [.sh true (.lst bs),s1,s2,s3,.sh false (.int m),s5,.sh false (.str w),.sh false (.int i)] (cU ch lo)=.next [.sh true (.lst bs),s1,s2,s3,.sh false (.int m),s5,.sh false (.str w),.sh false (.int i)]:=by
 have c1:=aDc hW hI hC n (bs:=bs) (due:=w) h0 h1
 simp only[cU,bO,dJ,aS,eN,bP,eB,bT,bV,gS,gZ,bC,aC,cQ,dL,fH,q1,q2,bF,if_false,aG,aFD,cV,aE,aY,fE,mC,mN,c1,nH]
end
theorem kP{P:Pg}{ch lo M:Nat}{bs:List D}{s1 s2 s5:Sl}{pl:Bool}{m m':Int}{d:D}(c1:call P M lo [.lst bs,.str "sum",d,.bl pl,.int m]=.ok (.int m',false,false)) :
 exs P (call P M) [.sh true (.lst bs),s1,s2,.sh true (.bl pl),.sh false (.int m),s5,.sh false (.str "sum"),.sh false d] (cU ch lo)=.next [.sh true (.lst bs),s1,s2,.sh true (.bl pl),.sh false (.int m'),s5,.sh false (.str "sum"),.sh false d]:=by
 simp only[cU,bO,dJ,aS,eN,bP,eB,bT,bV,gS,gZ,bC,aC,cQ,dL,fH,aLY,if_true,aG,dI,cV,aE,aY,fE,mD,mC,mN,c1,oY,gQ,bG,fV,cC,lS,lZ,nH]
section
variable {P:Pg} {wh wi ch fo lo:Nat} (hW:P.fns[wh]? = some fWhole) (hI:P.fns[wi]? = some (fWithin wh)) (hC:P.fns[ch]? = some (fCheck wi)) (hO:P.fns[fo]? = some fForm) (hT:P.tabs[0]? = some sumTab) (hL:P.fns[lo]? = some (fLook fo ch lo))
include hW hI hC hO hT hL
theorem aAq{m:Nat}{bs:List D}{s:Sm}{c:Nat}{pl:Bool}{seen r:Int}{s6 s7:Sl}(w:s.wf c pl)(hs:seen<40)
 (hfor:ex P (call P (m+1)) [.sh true (.lst bs),.sh true (.str "sum"),.sh true s.d,.sh true (.bl pl),.sh false (.int (seen+1)),.sh false (.tup (s.form.map D.str)),.dead,.dead] (.for (.t [6,7]) (.zip (.v 5) (.sli (.v 2) (.cons (.c (.int 1)) .nil) .nil)) (cU ch lo)) =
  .next [.sh true (.lst bs),.sh true (.str "sum"),.sh true s.d,.sh true (.bl pl),.sh false (.int r),.sh false (.tup (s.form.map D.str)),s6,s7]) :
 call P (m+2) lo [.lst bs,.str "sum",s.d,.bl pl,.int seen]=.ok (.int r,false,false):=by
 have c1:=aEL hO hT m s w
 have v2:=fF 2 true s.noL
 have q40:(seen==40)=false:=beq_eq_false_iff_ne.mpr (by omega)
 refine aM (F:=fLook fo ch lo) hL rfl (v:=.cl (.int r)) ?_
 show exs P (call P (m+1)) [.sh true (.lst bs),.sh true (.str "sum"),.sh true s.d,.sh true (.bl pl),.sh true (.int seen),.dead,.dead,.dead] (.cons (.iff (.cmp .Eq (.v 4) (.c (.int 40)))
  (.cons (.rse 2 false (.cons (.c (.str "a condition or sum has at most forty parts")) .nil))
  .nil)
  .nil)
 (.cons (.set (.n 4) (.op .Add (.v 4) (.c (.int 1))))
 (.cons (.set (.n 5) (.call fo (.cons (.v 1) (.cons (.v 2) (.cons (.v 3) .nil)))))
 (.cons (.for (.t [6,7]) (.zip (.v 5) (.sli (.v 2) (.cons (.c (.int 1)) .nil) .nil)) (cU ch lo))
 (.cons (.retv 4)
 .nil)))))=_
 simp only[bO,dJ,aS,bP,eB,bT,bV,gS,gZ,iT,aC,cQ,dL,fG,q40,bF,if_false,aG,nH,dI,eV,add_int,gQ,bG,fV,cC,lS,lZ,cV,aE,aY,nS,v2,mD,mC,mN,c1,oY,hfor,nR,kN]
theorem tH{n:Nat}{bs:List D}{s:Sm}{c:Nat}{pl:Bool}{seen:Int}{w:Str}{i:Int}(hwf:s.wf c pl)(hs:seen<40)(hf:s.form=[w])(hr:s.rest=[.int i])(h0:0<=i)(h1:i<=(if w == "number" then 99 else (bs.length:Int)-1))(q1:(w == "sum")=false)(q2:(w == "cond")=false) :
 call P (n+4) lo [.lst bs,.str "sum",s.d,.bl pl,.int seen]=.ok (.int (seen+1),false,false):=by
 refine aAq hW hI hC hO hT hL (m:=n+2) (s6:=.sh false (.str w)) (s7:=.sh false (.int i)) hwf hs ?_
 have tl:∀{s1 s2 s3 s5:Sl} {m:Int},exs P (call P (n+2+1)) [.sh true (.lst bs),s1,s2,s3,.sh false (.int m),s5,.sh false (.str w),.sh false (.int i)] (cU ch lo)=.next [.sh true (.lst bs),s1,s2,s3,.sh false (.int m),s5,.sh false (.str w),.sh false (.int i)]:=aBn hW hI hC hO hT hL (n:=n) (s6:=.dead) (s7:=.dead) h0 h1 q1 q2
 rw[jQ,vV,hf,hr,aG]
 simp only[AA,BQ,mC,mN,bG,cN,mY (show Hp.noL (.int i)=true from rfl),aG,tl]
theorem kQ{bs:List D}{c:Nat}(hc:bs.length=c){pl:Bool}:∀(s:Sm) (n:Nat) (seen:Int),s.wf c pl->seen+s.sz<=40->call P (n+3+s.sz) lo [.lst bs,.str "sum",s.d,.bl pl,.int seen]=.ok (.int (seen+s.sz),false,false)
 | .num k,n,seen,w,h=>by
  have h:seen+1<=40:=h
  obtain⟨w1,w2⟩:0<=k/\k<=99:=w
  exact tH hW hI hC hO hT hL (n:=n) (s:=.num k) (c:=c) ⟨w1,w2⟩ (by omega) rfl rfl w1 (by rw[aLW,if_pos rfl];exact w2) aLZ aMa
 | .box k,n,seen,w,h=>by
  have h:seen+1<=40:=h
  have w1:k<c:=w
  exact tH hW hI hC hO hT hL (n:=n) (s:=.box k) (c:=c) w1 (by omega) rfl rfl (by omega) (by rw[aKu,if_neg bN];omega) aKv aKw
 | .aft k,n,seen,w,h=>by
  have h:seen+1<=40:=h
  obtain⟨w1,w2⟩:k<c/\pl=false:=w
  exact tH hW hI hC hO hT hL (n:=n) (s:=.aft k) (c:=c) ⟨w1,w2⟩ (by omega) rfl rfl (by omega) (by rw[aKu,if_neg bN];omega) aKv aKw
 | .two p a b,n,seen,w,h=>by
  have h:seen+((1+a.sz+b.sz:Nat):Int)<=40:=h
  obtain⟨w1,w2⟩:a.wf c pl/\b.wf c pl:=w
  have pa:1<=a.sz:=by cases a <;> simp[Sm.sz];omega
  have c1:=kQ hc a (n+b.sz) (seen+1) w1 (by omega)
  have c2:=kQ hc b (n+a.sz) (seen+1+a.sz) w2 (by omega)
  have e1:n+b.sz+3+a.sz=n+2+a.sz+b.sz+1:=by omega
  have e2:n+a.sz+3+b.sz=n+2+a.sz+b.sz+1:=by omega
  rw[e1] at c1
  rw[e2] at c2
  have e3:n+3+Sm.sz (.two p a b)=n+2+a.sz+b.sz+2:=by show n+3+(1+a.sz+b.sz)=_;omega
  have e4:seen+((Sm.sz (.two p a b):Nat):Int)=seen+1+a.sz+b.sz:=by show seen+((1+a.sz+b.sz:Nat):Int)=_;omega
  rw[e3,e4]
  refine aAq hW hI hC hO hT hL (m:=n+2+a.sz+b.sz) (s6:=.sh false (.str "sum")) (s7:=.sh false b.d) (c:=c) ⟨w1,w2⟩ (by omega) ?_
  rw[jQ,vV,aG]
  have ef:(Sm.two p a b).form=[("sum" : Str),("sum" : Str)]:=rfl
  have er:(Sm.two p a b).rest=[a.d,b.d]:=rfl
  simp only[ef,er,AA,BQ,mC,mN,bG,cN,mY a.noL,mY b.noL,aG,kP c1,kP c2]
end
inductive Cn where
 | yes|cmp (i:Bool) (a b:Sm)|nt (c:Cn)|two (p:Bool) (a b:Cn)
def vW(i:Bool):Str:=if i then "is" else "less"
def mZ(p:Bool):Str:=if p then "both" else "either"
def Cn.d:Cn->D
 | .yes=>.tup [.str "yes"]
 | .cmp i a b=>.tup [.str (vW i),a.d,b.d]
 | .nt c=>.tup [.str "not",c.d]
 | .two p a b=>.tup [.str (mZ p),a.d,b.d]
def Cn.sz:Cn->Nat
 | .yes=>1
 | .cmp _ a b=>1+a.sz+b.sz
 | .nt c=>1+c.sz
 | .two _ a b=>1+a.sz+b.sz
def Cn.wf(c:Nat)(pl:Bool):Cn->Prop
 | .yes=>True
 | .cmp _ a b=>a.wf c pl/\b.wf c pl
 | .nt x=>x.wf c pl
 | .two _ a b=>a.wf c pl/\b.wf c pl
theorem Cn.noL:∀s:Cn,Hp.noL s.d=true
 | .yes=>rfl
 | .cmp _ a b=>by simp[Cn.d,Hp.noL,noLs,a.noL,b.noL]
 | .nt c=>by simp[Cn.d,Hp.noL,noLs,c.noL]
 | .two _ a b=>by simp[Cn.d,Hp.noL,noLs,a.noL,b.noL]
theorem Sm.sz_pos:∀s:Sm,1<=s.sz
 | .num _=>Aj _|.box _=>Aj _|.aft _=>Aj _
 | .two _ a b=>by show 1<=1+a.sz+b.sz;omega
theorem Cn.sz_pos:∀s:Cn,1<=s.sz
 | .yes=>Aj _
 | .cmp _ a b=>by show 1<=1+a.sz+b.sz;omega
 | .nt c=>by show 1<=1+c.sz;omega
 | .two _ a b=>by show 1<=1+a.sz+b.sz;omega
def condTab:List (Str×D):=[("yes",.tup []),("is",.tup [.str "sum",.str "sum"]),("less",.tup [.str "sum",.str "sum"]),("not",.tup [.str "cond"]),("both",.tup [.str "cond",.str "cond"]),("either",.tup [.str "cond",.str "cond"])]
def Cn.word:Cn->Str
 | .yes => "yes" | .cmp i _ _=>vW i|.nt _ => "not" | .two p _ _=>mZ p
def Cn.rest:Cn->List D
 | .yes=>[]|.cmp _ a b=>[a.d,b.d]|.nt x=>[x.d]|.two _ a b=>[a.d,b.d]
def Cn.form:Cn->List Str
 | .yes=>[]|.cmp _ _ _=>["sum", "sum"]|.nt _=>["cond"]|.two _ _ _=>["cond", "cond"]
theorem Cn.d_eq:∀s:Cn,s.d=.tup (.str s.word::s.rest)
 | .yes=>rfl|.cmp _ _ _=>rfl|.nt _=>rfl|.two _ _ _=>rfl
theorem Cn.rest_noL:∀s:Cn,noLs s.rest=true
 | .yes=>rfl
 | .cmp _ a b=>by simp[Cn.rest,noLs,a.noL,b.noL]
 | .nt x=>by simp[Cn.rest,noLs,x.noL]
 | .two _ a b=>by simp[Cn.rest,noLs,a.noL,b.noL]
theorem Cn.len_eq:∀s:Cn,s.rest.length=s.form.length
 | .yes=>rfl|.cmp _ _ _=>rfl|.nt _=>rfl|.two _ _ _=>rfl
theorem Cn.look:∀s:Cn,condTab.lookup s.word=some (.tup (s.form.map D.str))
 | .yes=>by rfl
 | .cmp true _ _=>by rfl
 | .cmp false _ _=>by rfl
 | .nt _=>by rfl
 | .two true _ _=>by rfl
 | .two false _ _=>by rfl
theorem Cn.notAfter:∀s:Cn,(s.word == "after")=false
 | .yes=>by show(("yes" : Str) == "after")=false;decide +kernel
 | .cmp true _ _=>by show(vW true == "after")=false;decide +kernel
 | .cmp false _ _=>by show(vW false == "after")=false;decide +kernel
 | .nt _=>by show(("not" : Str) == "after")=false;decide +kernel
 | .two true _ _=>by show(mZ true == "after")=false;decide +kernel
 | .two false _ _=>by show(mZ false == "after")=false;decide +kernel
theorem aDd{P:Pg}{fo:Nat}(hF:P.fns[fo]? = some fForm)(hT:P.tabs[1]? = some condTab)(n:Nat)(s:Cn){pl:Bool}:call P (n+1) fo [.str "cond",s.d,.bl pl]=.ok (.tup (s.form.map D.str),false,false):=by
 have v1:=fF 1 true s.noL
 rw[s.d_eq] at v1 ⊢
 have i0:=aDa (.str s.word) s.rest rfl
 have qs:(("cond" : Str) == "sum")=false:=by decide +kernel
 have hln:((.str s.word::s.rest:List D).length:Int)=(s.form.length:Int)+1:=by rw[lC,s.len_eq];omega
 have h0:((((.str s.word::s.rest:List D).length:Int))==0)=false:=by rw[hln];exact beq_eq_false_iff_ne.mpr (by omega)
 have t1:tst P (call P n) [.sh true (.str "cond"),.sh true (.tup (.str s.word::s.rest)),.sh true (.bl pl),.dead,.dead] (.orr (.nt (.isi (.v 1) [.tTuple])) (.orr (.cmp .Eq (.bi .len (.cons (.v 1) .nil)) (.c (.int 0))) (.nt (.isi (.idx (.v 1) (.c (.int 0))) [.tStr]))))=.ok false:=by
  simp only[eN,yF,aAg,bP,eB,bT,iH,fO,aE,aY,bV,gS,gZ,v1,aC,cQ,aAl,CW,bF,if_false,iU,dL,fG,h0,i0,aAk]
 have t2:tst P (call P n) [.sh true (.str "cond"),.sh true (.tup (.str s.word::s.rest)),.sh true (.bl pl),.sh false (.str s.word),.sh false (.tup (s.form.map D.str))] (.orr (.cmp .Is (.v 4) (.c .non)) (.cmp .NotEq (.bi .len (.cons (.v 1) .nil)) (.op .Add (.bi .len (.cons (.v 4) .nil)) (.c (.int 1)))))=.ok false:=by
  have hi:bL .Is (.tup (s.form.map D.str)) .non=some false:=rfl
  have hq:(((s.form.length:Int)+1==(s.form.length:Int)+1))=true:=beq_self_eq_true _
  simp only[eN,bP,eB,bT,iH,eV,aE,aY,bV,gS,gZ,v1,bC,aC,cQ,hi,bF,if_false,iU,hln,lM,add_int,yH,fG,hq,Eg,CW]
 have t3:tst P (call P n) [.sh true (.str "cond"),.sh true (.tup (.str s.word::s.rest)),.sh true (.bl pl),.sh false (.str s.word),.sh false (.tup (s.form.map D.str))] (.an (.v 2) (.cmp .Eq (.v 3) (.c (.str "after"))))=.ok false:=by
  simp only[yG,aFB,bP,eB,bT,bV,gS,gZ,mD,bC,aC,aCW,cQ,dL,fH,s.notAfter]
  cases pl <;> rfl
 refine aM (F:=fForm) hF rfl (v:=.cl (.tup (s.form.map D.str))) ?_
 have hl:=s.look
 show exs P (call P n) [.sh true (.str "cond"),.sh true (.tup (.str s.word::s.rest)),.sh true (.bl pl),.dead,.dead] fForm.body=_
 unfold fForm
 simp only[bO,dJ,aS,t1,aG,bF,if_false,nH,dI,fO,eB,bT,bV,gS,gZ,v1,aC,i0,gQ,bG,fV,cC,lS,lZ,yD,bP,nS,cQ,dL,fH,qs,vU,bC,hT,hl,DD,t2,t3,nR,kN]
theorem iV{P:Pg}{cl:Caller}{s0 s1 s3 s4 s6 s7:Sl}(s:Cn):walk P cl [s0,s1,.sh true s.d,s3,s4,.sh false (.tup (s.form.map D.str)),s6,s7] (.zip (.v 5) (.sli (.v 2) (.cons (.c (.int 1)) .nil) .nil)) =
 .ok ((s.form.zip s.rest).map λp=>fY p.1 p.2,[]):=by
 have v2:=fF 2 true s.noL
 have k1:aH 1=true:=by decide
 have hno:noLs (.str s.word::s.rest)=true:=by simp[noLs,Hp.noL,s.rest_noL]
 have hcut:cut (.str s.word::s.rest) (some 1) none=s.rest:=by cases s <;> rfl
 have hs:eE (.cl (.tup (.str s.word::s.rest))) (some 1) none=.ok (.cl (.tup s.rest)):=by
  unfold eE
  simp only[cQ,hcut,aAj,CI,hno,if_true]
  rfl
 have two:∀(w:Str) {a b:D},Hp.noL a=true->Hp.noL b=true->items ⟨.non,false,false,[]⟩ (gX ([w,w].map D.str) [a,b])=[fY w a,fY w b]:=λw a b ha hb=>by
  show [Vl.sub _ (.tup [.str w,a]),Vl.sub _ (.tup [.str w,b])]=[fY w a,fY w b]
  rw[dY (by simp[Hp.noL,noLs,ha]),dY (by simp[Hp.noL,noLs,hb])]
  rfl
 have hz:items ⟨.non,false,false,[]⟩ (gX (s.form.map D.str) s.rest)=(s.form.zip s.rest).map λp=>fY p.1 p.2:=by
  cases s with
  | yes=>rfl
  | cmp _ a b=>exact two _ a.noL b.noL
  | nt x=>
   show [Vl.sub _ (.tup [.str "cond",x.d])]=[fY "cond" x.d]
   rw[dY (by simp[Hp.noL,noLs,x.noL])]
   rfl
  | two p a b=>exact two _ a.noL b.noL
 rw[s.d_eq] at v2 ⊢
 simp only[vR,eB,tG,bT,bV,gS,gZ,v2,bC,aC,cQ,k1,rE,hs,gY,aAj,GL,gQ,Ax]
 rw[hz]
theorem aMb:(("cond" : Str) == "sum")=false:=by decide +kernel
theorem aMc:(("cond" : Str) == "cond")=true:=by decide +kernel
theorem mH{P:Pg}{ch lo M:Nat}{bs:List D}{s1 s2 s5:Sl}{pl:Bool}{m m':Int}{d:D}(c1:call P M lo [.lst bs,.str "cond",d,.bl pl,.int m]=.ok (.int m',false,false)) :
 exs P (call P M) [.sh true (.lst bs),s1,s2,.sh true (.bl pl),.sh false (.int m),s5,.sh false (.str "cond"),.sh false d] (cU ch lo)=.next [.sh true (.lst bs),s1,s2,.sh true (.bl pl),.sh false (.int m'),s5,.sh false (.str "cond"),.sh false d]:=by
 simp only[cU,bO,dJ,aS,eN,bP,eB,bT,bV,gS,gZ,bC,aC,cQ,dL,fH,aMb,aMc,bF,if_false,if_true,aG,dI,cV,aE,aY,fE,mD,mC,mN,c1,oY,gQ,bG,fV,cC,lS,lZ,nH]
section
variable {P:Pg} {wh wi ch fo lo:Nat} (hW:P.fns[wh]? = some fWhole) (hI:P.fns[wi]? = some (fWithin wh)) (hC:P.fns[ch]? = some (fCheck wi)) (hO:P.fns[fo]? = some fForm) (hT:P.tabs[0]? = some sumTab) (hU:P.tabs[1]? = some condTab) (hL:P.fns[lo]? = some (fLook fo ch lo))
include hW hI hC hO hT hU hL
theorem kR{m:Nat}{bs:List D}{s:Cn}{pl:Bool}{seen r:Int}{s6 s7:Sl}(hs:seen<40)
 (hfor:ex P (call P (m+1)) [.sh true (.lst bs),.sh true (.str "cond"),.sh true s.d,.sh true (.bl pl),.sh false (.int (seen+1)),.sh false (.tup (s.form.map D.str)),.dead,.dead] (.for (.t [6,7]) (.zip (.v 5) (.sli (.v 2) (.cons (.c (.int 1)) .nil) .nil)) (cU ch lo)) =
  .next [.sh true (.lst bs),.sh true (.str "cond"),.sh true s.d,.sh true (.bl pl),.sh false (.int r),.sh false (.tup (s.form.map D.str)),s6,s7]) :
 call P (m+2) lo [.lst bs,.str "cond",s.d,.bl pl,.int seen]=.ok (.int r,false,false):=by
 have c1:=aDd hO hU m s (pl:=pl)
 have v2:=fF 2 true s.noL
 have q40:(seen==40)=false:=beq_eq_false_iff_ne.mpr (by omega)
 refine aM (F:=fLook fo ch lo) hL rfl (v:=.cl (.int r)) ?_
 show exs P (call P (m+1)) [.sh true (.lst bs),.sh true (.str "cond"),.sh true s.d,.sh true (.bl pl),.sh true (.int seen),.dead,.dead,.dead] (.cons (.iff (.cmp .Eq (.v 4) (.c (.int 40)))
  (.cons (.rse 2 false (.cons (.c (.str "a condition or sum has at most forty parts")) .nil))
  .nil)
  .nil)
 (.cons (.set (.n 4) (.op .Add (.v 4) (.c (.int 1))))
 (.cons (.set (.n 5) (.call fo (.cons (.v 1) (.cons (.v 2) (.cons (.v 3) .nil)))))
 (.cons (.for (.t [6,7]) (.zip (.v 5) (.sli (.v 2) (.cons (.c (.int 1)) .nil) .nil)) (cU ch lo))
 (.cons (.retv 4)
 .nil)))))=_
 simp only[bO,dJ,aS,bP,eB,bT,bV,gS,gZ,iT,aC,cQ,dL,fG,q40,bF,if_false,aG,nH,dI,eV,add_int,gQ,bG,fV,cC,lS,lZ,cV,aE,aY,nS,v2,mD,mC,mN,c1,oY,hfor,nR,kN]
theorem kU{bs:List D}{c:Nat}(hc:bs.length=c){pl:Bool}:∀(s:Cn) (n:Nat) (seen:Int),s.wf c pl->seen+s.sz<=40->call P (n+3+s.sz) lo [.lst bs,.str "cond",s.d,.bl pl,.int seen]=.ok (.int (seen+s.sz),false,false)
 | .yes,n,seen,w,h=>by
  have h:seen+1<=40:=h
  refine kR hW hI hC hO hT hU hL (m:=n+2) (s:=.yes) (s6:=.dead) (s7:=.dead) (by omega) ?_
  rw[jQ,iV,aG]
  rfl
 | .cmp i a b,n,seen,w,h=>by
  have h:seen+((1+a.sz+b.sz:Nat):Int)<=40:=h
  obtain⟨w1,w2⟩:a.wf c pl/\b.wf c pl:=w
  have pa:=a.sz_pos
  have c1:=kQ hW hI hC hO hT hL hc a (n+b.sz) (seen+1) w1 (by omega)
  have c2:=kQ hW hI hC hO hT hL hc b (n+a.sz) (seen+1+a.sz) w2 (by omega)
  have e1:n+b.sz+3+a.sz=n+2+a.sz+b.sz+1:=by omega
  have e2:n+a.sz+3+b.sz=n+2+a.sz+b.sz+1:=by omega
  rw[e1] at c1
  rw[e2] at c2
  have e3:n+3+Cn.sz (.cmp i a b)=n+2+a.sz+b.sz+2:=by show n+3+(1+a.sz+b.sz)=_;omega
  have e4:seen+((Cn.sz (.cmp i a b):Nat):Int)=seen+1+a.sz+b.sz:=by show seen+((1+a.sz+b.sz:Nat):Int)=_;omega
  rw[e3,e4]
  refine kR hW hI hC hO hT hU hL (m:=n+2+a.sz+b.sz) (s6:=.sh false (.str "sum")) (s7:=.sh false b.d) (by omega) ?_
  rw[jQ,iV,aG]
  have ef:(Cn.cmp i a b).form=[("sum" : Str),("sum" : Str)]:=rfl
  have er:(Cn.cmp i a b).rest=[a.d,b.d]:=rfl
  simp only[ef,er,AA,BQ,mC,mN,bG,cN,mY a.noL,mY b.noL,aG,kP c1,kP c2]
 | .nt x,n,seen,w,h=>by
  have h:seen+((1+x.sz:Nat):Int)<=40:=h
  have pa:=x.sz_pos
  have c1:=kU hc x n (seen+1) w (by omega)
  have e1:n+3+x.sz=n+2+x.sz+1:=by omega
  rw[e1] at c1
  have e3:n+3+Cn.sz (.nt x)=n+2+x.sz+2:=by show n+3+(1+x.sz)=_;omega
  have e4:seen+((Cn.sz (.nt x):Nat):Int)=seen+1+x.sz:=by show seen+((1+x.sz:Nat):Int)=_;omega
  rw[e3,e4]
  refine kR hW hI hC hO hT hU hL (m:=n+2+x.sz) (s6:=.sh false (.str "cond")) (s7:=.sh false x.d) (by omega) ?_
  rw[jQ,iV,aG]
  have ef:(Cn.nt x).form=[("cond" : Str)]:=rfl
  have er:(Cn.nt x).rest=[x.d]:=rfl
  simp only[ef,er,AA,BQ,mC,mN,bG,cN,mY x.noL,aG,mH c1]
 | .two p a b,n,seen,w,h=>by
  have h:seen+((1+a.sz+b.sz:Nat):Int)<=40:=h
  obtain⟨w1,w2⟩:a.wf c pl/\b.wf c pl:=w
  have pa:=a.sz_pos
  have c1:=kU hc a (n+b.sz) (seen+1) w1 (by omega)
  have c2:=kU hc b (n+a.sz) (seen+1+a.sz) w2 (by omega)
  have e1:n+b.sz+3+a.sz=n+2+a.sz+b.sz+1:=by omega
  have e2:n+a.sz+3+b.sz=n+2+a.sz+b.sz+1:=by omega
  rw[e1] at c1
  rw[e2] at c2
  have e3:n+3+Cn.sz (.two p a b)=n+2+a.sz+b.sz+2:=by show n+3+(1+a.sz+b.sz)=_;omega
  have e4:seen+((Cn.sz (.two p a b):Nat):Int)=seen+1+a.sz+b.sz:=by show seen+((1+a.sz+b.sz:Nat):Int)=_;omega
  rw[e3,e4]
  refine kR hW hI hC hO hT hU hL (m:=n+2+a.sz+b.sz) (s6:=.sh false (.str "cond")) (s7:=.sh false b.d) (by omega) ?_
  rw[jQ,iV,aG]
  have ef:(Cn.two p a b).form=[("cond" : Str),("cond" : Str)]:=rfl
  have er:(Cn.two p a b).rest=[a.d,b.d]:=rfl
  simp only[ef,er,AA,BQ,mC,mN,bG,cN,mY a.noL,mY b.noL,aG,mH c1,mH c2]
end
end HpS
end
noncomputable section
namespace K76
open Hp
def f0:Hp.Fn:=⟨1,1,
 (.cons (.ret (.ife (.cmp .Eq (.idx (.v 0) (.c (.int 0))) (.c (.str "wait"))) (.idx (.v 0) (.c (.int 1))) (.tup (.cons (.c (.str "yes")) .nil))))
 .nil)⟩
def f1:Hp.Fn:=⟨2,2,
 (.cons (.ret (.tup (.cons (.call 0 (.cons (.v 0) .nil)) (.cons (.idx (.v 0) (.neg (.c (.int 1)))) (.cons (.v 1) .nil)))))
 .nil)⟩
def f2:Hp.Fn:=⟨2,2,
 (.cons (.ex (.call 8 (.cons (.v 1) .nil)))
 (.cons (.ret (.call 11 (.cons (.v 1) (.cons (.c (.int 0)) (.cons (.call 9 (.cons (.v 1) .nil)) .nil)))))
 .nil))⟩
def f3:Hp.Fn:=⟨2,3,
 (.cons (.iff (.cmp .Lt (.v 1) (.bi .len (.cons (.v 0) .nil)))
  (.cons (.ret (.idx (.v 0) (.v 1)))
  .nil)
  .nil)
 (.cons (.set (.n 2) (.c (.int 0)))
 (.cons (.iff (.cmp .Gt (.bi .len (.cons (.v 0) .nil)) (.c (.int 0)))
  (.cons (.set (.n 2) (.idx (.v 0) (.op .Mod (.op .Add (.op .Mult (.v 1) (.c (.int 7))) (.c (.int 3))) (.bi .len (.cons (.v 0) .nil)))))
  .nil)
  .nil)
 (.cons (.ret (.op .Add (.op .Add (.op .Add (.op .Mult (.v 2) (.c (.int 31))) (.op .Mult (.op .Mult (.v 1) (.v 1)) (.c (.int 7919)))) (.op .Mult (.c (.int 101)) (.v 1))) (.c (.int 17))))
 .nil))))⟩
def f4:Hp.Fn:=⟨2,3,
 (.cons .lend
 (.cons (.set (.n 2) (.op .Mod (.call 3 (.cons (.lix 0 (.c (.int 0))) (.cons (.lix 0 (.c (.int 1))) .nil))) (.c (.int 4294967291))))
 (.cons (.lset 0 (.c (.int 1)) (.op .Add (.lix 0 (.c (.int 1))) (.c (.int 1))))
 (.cons (.retL (.e (.op .Mod (.op .FloorDiv (.op .Mod (.op .Mult (.op .Add (.v 2) (.op .Mult (.c (.int 13)) (.lix 0 (.c (.int 1))))) (.c (.int 48271))) (.c (.int 2147483647))) (.c (.int 3))) (.v 1))))
 .nil))))⟩
def f5:Hp.Fn:=⟨2,7,
 (.cons .lend
 (.cons (.set (.n 2) (.lst .nil))
 (.cons (.mov 3 1)
 (.cons (.forL (.n 4) (.op .Add (.e (.c (.int 1))) (.call 4 (.cons (.e (.c (.int 4))) .nil)))
  (.cons (.setL 5 0 [] (.op .Add (.e (.c (.int 1))) (.call 4 (.cons (.idx (.e (.lst (.cons (.c (.int 2)) (.cons (.c (.int 3)) (.cons (.c (.int 7)) .nil))))) (.call 4 (.cons (.e (.c (.int 3))) .nil))) .nil))))
  (.cons (.set (.n 6) (.idx (.c (.str "kxmbz")) (.v 4)))
  (.cons (.iff (.cmp .Gt (.v 3) (.c (.int 1)))
   (.cons (.appL 2 0 (.tup (.cons (.op .Mult (.e (.v 6)) (.op .Add (.e (.c (.int 1))) (.call 4 (.cons (.e (.c (.int 8))) .nil)))) (.cons (.e (.bi .min (.cons (.v 5) (.cons (.op .Sub (.v 3) (.c (.int 1))) .nil)))) .nil))))
   (.cons (.set (.n 3) (.op .FloorDiv (.v 3) (.op .Add (.c (.int 1)) (.bi .min (.cons (.v 5) (.cons (.op .Sub (.v 3) (.c (.int 1))) .nil))))))
   .nil))
   .nil)
  .nil))))
 (.cons (.retvL 2)
 .nil)))))⟩
def f6:Hp.Fn:=⟨3,4,
 (.cons .lend
 (.cons (.setL 3 0 [] (.call 4 (.cons (.e (.c (.int 6))) .nil)))
 (.cons (.iff (.orr (.cmp .Eq (.v 2) (.c (.int 0))) (.cmp .Lt (.v 3) (.c (.int 3))))
  (.cons (.iff (.cmp .Eq (.op .Mod (.v 3) (.c (.int 2))) (.c (.int 0)))
   (.cons (.retL (.tup (.cons (.e (.c (.str "box"))) (.cons (.call 4 (.cons (.e (.bi .len (.cons (.v 1) .nil))) .nil)) .nil))))
   .nil)
   .nil)
  (.cons (.retL (.tup (.cons (.e (.c (.str "number"))) (.cons (.call 4 (.cons (.idx (.e (.lst (.cons (.c (.int 3)) (.cons (.c (.int 4)) (.cons (.c (.int 8)) (.cons (.c (.int 100)) .nil)))))) (.call 4 (.cons (.e (.c (.int 4))) .nil))) .nil)) .nil))))
  .nil))
  .nil)
 (.cons (.retL (.tup (.cons (.e (.idx (.lst (.cons (.c (.str "plus")) (.cons (.c (.str "minus")) .nil))) (.op .Mod (.v 3) (.c (.int 2))))) (.cons (.call 6 (.cons (.e (.v 1)) (.cons (.e (.op .Sub (.v 2) (.c (.int 1)))) .nil))) (.cons (.call 6 (.cons (.e (.v 1)) (.cons (.e (.op .Sub (.v 2) (.c (.int 1)))) .nil))) .nil)))))
 .nil))))⟩
def f7:Hp.Fn:=⟨3,4,
 (.cons .lend
 (.cons (.setL 3 0 [] (.call 4 (.cons (.e (.c (.int 10))) .nil)))
 (.cons (.iff (.cmp .Eq (.v 3) (.c (.int 0)))
  (.cons (.retL (.e (.tup (.cons (.c (.str "yes")) .nil))))
  .nil)
  .nil)
 (.cons (.iff (.orr (.cmp .Eq (.v 2) (.c (.int 0))) (.cmp .Lt (.v 3) (.c (.int 5))))
  (.cons (.retL (.tup (.cons (.e (.idx (.lst (.cons (.c (.str "is")) (.cons (.c (.str "less")) .nil))) (.op .Mod (.op .FloorDiv (.v 3) (.c (.int 2))) (.c (.int 2))))) (.cons (.call 6 (.cons (.e (.v 1)) (.cons (.e (.op .Mod (.v 3) (.c (.int 2)))) .nil))) (.cons (.call 6 (.cons (.e (.v 1)) (.cons (.e (.c (.int 1))) .nil))) .nil)))))
  .nil)
  .nil)
 (.cons (.iff (.cmp .Lt (.v 3) (.c (.int 7)))
  (.cons (.retL (.tup (.cons (.e (.c (.str "not"))) (.cons (.call 7 (.cons (.e (.v 1)) (.cons (.e (.op .Sub (.v 2) (.c (.int 1)))) .nil))) .nil))))
  .nil)
  .nil)
 (.cons (.retL (.tup (.cons (.e (.idx (.lst (.cons (.c (.str "both")) (.cons (.c (.str "either")) .nil))) (.op .Mod (.v 3) (.c (.int 2))))) (.cons (.call 7 (.cons (.e (.v 1)) (.cons (.e (.op .Sub (.v 2) (.c (.int 1)))) .nil))) (.cons (.call 7 (.cons (.e (.v 1)) (.cons (.e (.op .Sub (.v 2) (.c (.int 1)))) .nil))) .nil)))))
 .nil))))))⟩
def f8:Hp.Fn:=⟨1,1,
 (.cons (.iff (.cmp .Gt (.call 9 (.cons (.v 0) .nil)) (.c (.int 8)))
  (.cons (.rse 2 false (.cons (.c (.str "a program is made a hand of at most eight rows")) .nil))
  .nil)
  .nil)
 .nil)⟩
def f9:Hp.Fn:=⟨1,1,
 (.cons (.ret (.bi .sum (.cons (.comp 1 [] (.n 0) (.seq (.v 0)) .nil (.call 10 (.cons (.v 0) .nil))) .nil)))
 .nil)⟩
def f10:Hp.Fn:=⟨1,1,
 (.cons (.iff (.cmp .Eq (.idx (.v 0) (.c (.int 0))) (.c (.str "choose")))
  (.cons (.ret (.op .Add (.c (.int 1)) (.bi .sum (.cons (.comp 1 [] (.n 0) (.seq (.idx (.v 0) (.c (.int 1)))) .nil (.call 9 (.cons (.v 0) .nil))) .nil))))
  .nil)
  .nil)
 (.cons (.ret (.ife (.cmp .Eq (.idx (.v 0) (.c (.int 0))) (.c (.str "loop"))) (.op .Mult (.idx (.v 0) (.c (.int 1))) (.call 9 (.cons (.idx (.v 0) (.c (.int 2))) .nil))) (.c (.int 1))))
 .nil))⟩
def f11:Hp.Fn:=⟨3,9,
 (.cons (.set (.n 3) (.call 12 (.cons (.v 0) .nil)))
 (.cons (.set (.n 4) (.lst .nil))
 (.cons (.for (.t [5,6]) (.enum (.v 3))
  (.cons (.set (.n 7) (.op .Add (.v 1) (.bi .len (.cons (.v 4) .nil))))
  (.cons (.set (.n 8) (.cmp .Eq (.v 5) (.op .Sub (.bi .len (.cons (.v 3) .nil)) (.c (.int 1)))))
  (.cons (.ext 4 (.call 27 (.cons (.v 6) (.cons (.v 7) (.cons (.ife (.v 8) (.v 2) (.op .Add (.v 7) (.call 10 (.cons (.v 6) .nil)))) .nil)))))
  .nil))))
 (.cons (.retv 4)
 .nil))))⟩
def f12:Hp.Fn:=⟨1,3,
 (.cons (.set (.n 1) (.lst .nil))
 (.cons (.for (.n 2) (.seq (.v 0))
  (.cons (.ext 1 (.ife (.cmp .Eq (.idx (.v 2) (.c (.int 0))) (.c (.str "loop"))) (.op .Mult (.call 12 (.cons (.idx (.v 2) (.c (.int 2))) .nil)) (.idx (.v 2) (.c (.int 1)))) (.lst (.cons (.v 2) .nil))))
  .nil))
 (.cons (.retv 1)
 .nil)))⟩
def f13:Hp.Fn:=⟨1,1,
 (.cons (.ret (.an (.isi (.v 0) [.tInt]) (.nt (.isi (.v 0) [.tBool]))))
 .nil)⟩
def f14:Hp.Fn:=⟨1,1,
 (.cons (.ret (.an (.isi (.v 0) [.tInt]) (.nt (.isi (.v 0) [.tBool]))))
 .nil)⟩
def f15:Hp.Fn:=⟨3,3,
 (.cons (.ret (.an (.call 14 (.cons (.v 0) .nil)) (.cmp2 .LtE .LtE (.v 1) (.v 0) (.v 2))))
 .nil)⟩
def f16:Hp.Fn:=⟨3,3,
 (.cons (.ex (.call 18 (.cons (.v 0) (.cons (.c (.str "sum")) (.cons (.v 1) (.cons (.v 2) (.cons (.c (.int 0)) .nil)))))))
 (.cons (.retv 1)
 .nil))⟩
def f17:Hp.Fn:=⟨3,3,
 (.cons (.ex (.call 18 (.cons (.v 0) (.cons (.c (.str "cond")) (.cons (.v 1) (.cons (.v 2) (.cons (.c (.int 0)) .nil)))))))
 (.cons (.retv 1)
 .nil))⟩
def f18:Hp.Fn:=⟨5,8,
 (.cons (.iff (.cmp .Eq (.v 4) (.c (.int 40)))
  (.cons (.rse 2 false (.cons (.c (.str "a condition or sum has at most forty parts")) .nil))
  .nil)
  .nil)
 (.cons (.set (.n 4) (.op .Add (.v 4) (.c (.int 1))))
 (.cons (.set (.n 5) (.call 19 (.cons (.v 1) (.cons (.v 2) (.cons (.v 3) .nil)))))
 (.cons (.for (.t [6,7]) (.zip (.v 5) (.sli (.v 2) (.cons (.c (.int 1)) .nil) .nil))
  (.cons (.iff (.orr (.cmp .Eq (.v 6) (.c (.str "sum"))) (.cmp .Eq (.v 6) (.c (.str "cond"))))
   (.cons (.set (.n 4) (.call 18 (.cons (.v 0) (.cons (.v 6) (.cons (.v 7) (.cons (.v 3) (.cons (.v 4) .nil)))))))
   .nil)
   (.cons (.ex (.call 20 (.cons (.v 0) (.cons (.v 6) (.cons (.v 7) .nil)))))
   .nil))
  .nil))
 (.cons (.retv 4)
 .nil)))))⟩
def f19:Hp.Fn:=⟨3,5,
 (.cons (.iff (.orr (.nt (.isi (.v 1) [.tTuple])) (.orr (.cmp .Eq (.bi .len (.cons (.v 1) .nil)) (.c (.int 0))) (.nt (.isi (.idx (.v 1) (.c (.int 0))) [.tStr]))))
  (.cons (.rse 1 false (.cons (.c (.str "a part is a tuple that begins with a word")) .nil))
  .nil)
  .nil)
 (.cons (.set (.n 3) (.idx (.v 1) (.c (.int 0))))
 (.cons (.set (.n 4) (.ife (.cmp .Eq (.v 0) (.c (.str "sum"))) (.tget 0 (.v 3)) (.tget 1 (.v 3))))
 (.cons (.iff (.orr (.cmp .Is (.v 4) (.c .non)) (.cmp .NotEq (.bi .len (.cons (.v 1) .nil)) (.op .Add (.bi .len (.cons (.v 4) .nil)) (.c (.int 1)))))
  (.cons (.rse 1 false (.cons (.c (.str "a part has a word that is due there, and as many things as go with it")) .nil))
  .nil)
  .nil)
 (.cons (.iff (.an (.v 2) (.cmp .Eq (.v 3) (.c (.str "after"))))
  (.cons (.rse 1 false (.cons (.c (.str "no after stands where a plain one is due")) .nil))
  .nil)
  .nil)
 (.cons (.retv 4)
 .nil))))))⟩
def f20:Hp.Fn:=⟨3,4,
 (.cons (.set (.n 3) (.ife (.cmp .Eq (.v 1) (.c (.str "number"))) (.c (.int 99)) (.op .Sub (.bi .len (.cons (.v 0) .nil)) (.c (.int 1)))))
 (.cons (.iff (.nt (.call 15 (.cons (.v 2) (.cons (.c (.int 0)) (.cons (.v 3) .nil)))))
  (.cons (.rse 1 false (.cons (.c (.str "a number is a whole one from 0 to 99, a box the number of one")) .nil))
  .nil)
  .nil)
 .nil))⟩
def f21:Hp.Fn:=⟨2,2,
 (.cons (.iff (.orr (.nt (.isi (.v 1) [.tList])) (.cmp .Gt (.bi .len (.cons (.v 1) .nil)) (.c (.int 8))))
  (.cons (.rse 3 false (.cons (.c (.str "a hand is a list of none to eight rows")) .nil))
  .nil)
  .nil)
 (.cons (.ret (.comp 1 [0,1] (.n 0) (.seq (.v 1)) .nil (.call 22 (.cons (.v 1) (.cons (.v 0) (.cons (.bi .len (.cons (.v 2) .nil)) .nil))))))
 .nil))⟩
def f22:Hp.Fn:=⟨3,3,
 (.cons (.iff (.orr (.nt (.isi (.v 1) [.tList])) (.nt (.cmp2 .LtE .LtE (.c (.int 1)) (.bi .len (.cons (.v 1) .nil)) (.c (.int 4)))))
  (.cons (.rse 3 false (.cons (.c (.str "a row is a list of one to four ways")) .nil))
  .nil)
  .nil)
 (.cons (.ret (.comp 1 [0,2] (.n 0) (.seq (.v 1)) .nil (.call 23 (.cons (.v 1) (.cons (.v 0) (.cons (.v 2) .nil))))))
 .nil))⟩
def f23:Hp.Fn:=⟨3,3,
 (.cons (.iff (.orr (.nt (.isi (.v 1) [.tTuple])) (.cmp .NotEq (.bi .len (.cons (.v 1) .nil)) (.c (.int 3))))
  (.cons (.rse 3 false (.cons (.c (.str "a way is a tuple (guard, puts, next)")) .nil))
  .nil)
  .nil)
 (.cons (.ex (.call 24 (.cons (.v 0) (.cons (.idx (.v 1) (.c (.int 0))) .nil))))
 (.cons (.ex (.call 25 (.cons (.v 0) (.cons (.idx (.v 1) (.c (.int 1))) .nil))))
 (.cons (.iff (.nt (.call 15 (.cons (.idx (.v 1) (.c (.int 2))) (.cons (.c (.int 0)) (.cons (.v 2) .nil)))))
  (.cons (.rse 3 false (.cons (.c (.str "a way's next is a place of the hand")) .nil))
  .nil)
  .nil)
 (.cons (.retv 1)
 .nil)))))⟩
def f24:Hp.Fn:=⟨2,2,
 (.cons (.tryN (.cons (.ex (.call 17 (.cons (.v 0) (.cons (.v 1) (.cons (.c (.bl true)) .nil)))))
  .nil))
 .nil)⟩
def f25:Hp.Fn:=⟨2,4,
 (.cons (.iff (.nt (.isi (.v 1) [.tTuple]))
  (.cons (.rse 3 false (.cons (.c (.str "puts are a tuple")) .nil))
  .nil)
  .nil)
 (.cons (.set (.n 2) (.c (.int 0)))
 (.cons (.for (.n 3) (.seq (.v 1))
  (.cons (.ex (.call 26 (.cons (.v 0) (.cons (.v 3) (.cons (.v 2) .nil)))))
  (.cons (.set (.n 2) (.op .Add (.idx (.v 3) (.c (.int 0))) (.c (.int 1))))
  .nil)))
 .nil)))⟩
def f26:Hp.Fn:=⟨3,3,
 (.cons (.iff (.orr (.nt (.isi (.v 1) [.tTuple])) (.cmp .NotEq (.bi .len (.cons (.v 1) .nil)) (.c (.int 2))))
  (.cons (.rse 3 false (.cons (.c (.str "a put is a tuple (box, sum)")) .nil))
  .nil)
  .nil)
 (.cons (.iff (.nt (.call 15 (.cons (.idx (.v 1) (.c (.int 0))) (.cons (.v 2) (.cons (.op .Sub (.bi .len (.cons (.v 0) .nil)) (.c (.int 1))) .nil)))))
  (.cons (.rse 3 false (.cons (.c (.str "puts are of the boxes' numbers, rising, each once")) .nil))
  .nil)
  .nil)
 (.cons (.tryN (.cons (.ex (.call 16 (.cons (.v 0) (.cons (.idx (.v 1) (.c (.int 1))) (.cons (.c (.bl true)) .nil)))))
  .nil))
 .nil)))⟩
def f27:Hp.Fn:=⟨3,3,
 (.cons (.ret (.ife (.cmp .Eq (.idx (.v 0) (.c (.int 0))) (.c (.str "choose"))) (.call 28 (.cons (.idx (.v 0) (.c (.int 1))) (.cons (.v 1) (.cons (.v 2) .nil)))) (.lst (.cons (.lst (.cons (.call 1 (.cons (.v 0) (.cons (.v 2) .nil))) .nil)) .nil))))
 .nil)⟩
def f28:Hp.Fn:=⟨3,8,
 (.cons (.set (.n 3) (.lst .nil))
 (.cons (.set (.n 4) (.lst .nil))
 (.cons (.for (.n 5) (.seq (.v 0))
  (.cons (.set (.n 6) (.op .Add (.op .Add (.v 1) (.c (.int 1))) (.bi .len (.cons (.v 4) .nil))))
  (.cons (.set (.n 7) (.call 11 (.cons (.v 5) (.cons (.v 6) (.cons (.v 2) .nil)))))
  (.cons (.app 3 (.tup (.cons (.tup (.cons (.c (.str "yes")) .nil)) (.cons (.tup .nil) (.cons (.ife (.v 7) (.v 6) (.v 2)) .nil)))))
  (.cons (.extV 4 7)
  .nil)))))
 (.cons (.ret (.op .Add (.lst (.cons (.v 3) .nil)) (.v 4)))
 .nil))))⟩
def f29:Hp.Fn:=⟨2,4,
 (.cons .lend
 (.cons (.set (.n 2) (.lst .nil))
 (.cons (.for (.n 3) (.rng (.c (.int 0)) (.bi .len (.cons (.v 1) .nil)))
  (.cons (.iffL .Lt (.call 4 (.cons (.e (.c (.int 5))) .nil)) (.c (.int 3))
   (.cons (.appL 2 0 (.tup (.cons (.e (.v 3)) (.cons (.call 6 (.cons (.e (.v 1)) (.cons (.e (.c (.int 1))) .nil))) .nil))))
   .nil)
   .nil)
  .nil))
 (.cons (.retL (.e (.bi .tuple (.cons (.v 2) .nil))))
 .nil))))⟩
def f30:Hp.Fn:=⟨3,5,
 (.cons .lend
 (.cons (.setL 3 0 [] (.call 4 (.cons (.e (.c (.int 9))) .nil)))
 (.cons (.iff (.an (.cmp .Gt (.v 3) (.c (.int 6))) (.cmp .Lt (.v 2) (.c (.int 3))))
  (.cons (.retL (.tup (.cons (.e (.c (.str "choose"))) (.cons (.comp 1 [0,1,2] (.n 0) (.op .Add (.e (.c (.int 2))) (.call 4 (.cons (.e (.c (.int 3))) .nil))) 1 (.call 31 (.cons (.e (.v 2)) (.cons (.e (.op .Add (.v 3) (.c (.int 1)))) .nil)))) .nil))))
  .nil)
  .nil)
 (.cons (.iff (.an (.cmp .Gt (.v 3) (.c (.int 4))) (.cmp .Lt (.v 2) (.c (.int 3))))
  (.cons (.setL 4 0 [] (.call 4 (.cons (.idx (.e (.lst (.cons (.c (.int 3)) (.cons (.c (.int 4)) (.cons (.c (.int 9)) .nil))))) (.call 4 (.cons (.e (.c (.int 3))) .nil))) .nil)))
  (.cons (.retL (.tup (.cons (.e (.c (.str "loop"))) (.cons (.e (.v 4)) (.cons (.call 31 (.cons (.e (.v 1)) (.cons (.e (.op .Add (.v 2) (.c (.int 1)))) .nil))) .nil)))))
  .nil))
  .nil)
 (.cons (.iff (.cmp .Eq (.op .Mod (.v 3) (.c (.int 2))) (.c (.int 0)))
  (.cons (.retL (.tup (.cons (.e (.c (.str "put"))) (.cons (.call 29 (.cons (.e (.v 1)) .nil)) .nil))))
  .nil)
  .nil)
 (.cons (.retL (.tup (.cons (.e (.c (.str "wait"))) (.cons (.call 7 (.cons (.e (.v 1)) (.cons (.e (.c (.int 1))) .nil))) (.cons (.call 29 (.cons (.e (.v 1)) .nil)) .nil)))))
 .nil))))))⟩
def f31:Hp.Fn:=⟨3,3,
 (.cons .lend
 (.cons (.retL (.comp 1 [0,1,2] (.n 0) (.call 4 (.cons (.e (.idx (.lst (.cons (.c (.int 5)) (.cons (.c (.int 3)) (.cons (.c (.int 3)) .nil)))) (.op .Sub (.v 2) (.c (.int 1))))) .nil)) 1 (.call 30 (.cons (.e (.v 2)) (.cons (.e (.v 3)) .nil)))))
 .nil))⟩
def f32:Hp.Fn:=⟨1,3,
 (.cons (.set (.n 1) (.c (.int 0)))
 (.cons (.for (.n 2) (.seq (.v 0))
  (.cons (.iff (.cmp .Eq (.idx (.v 2) (.c (.int 0))) (.c (.str "choose")))
   (.cons (.set (.n 1) (.op .Add (.op .Add (.v 1) (.c (.int 1))) (.bi .sum (.cons (.comp 1 [] (.n 0) (.seq (.idx (.v 2) (.c (.int 1)))) .nil (.call 32 (.cons (.v 0) .nil))) .nil))))
   .nil)
   (.cons (.iff (.cmp .Eq (.idx (.v 2) (.c (.int 0))) (.c (.str "loop")))
    (.cons (.set (.n 1) (.op .Add (.v 1) (.op .Mult (.idx (.v 2) (.c (.int 1))) (.call 32 (.cons (.idx (.v 2) (.c (.int 2))) .nil)))))
    .nil)
    (.cons (.set (.n 1) (.op .Add (.v 1) (.c (.int 1))))
    .nil))
   .nil))
  .nil))
 (.cons (.retv 1)
 .nil)))⟩
def f33:Hp.Fn:=⟨1,2,
 (.cons (.set (.n 1) (.bi .list (.cons (.v 0) .nil)))
 (.cons (.whl (.cmp .Gt (.call 32 (.cons (.v 1) .nil)) (.c (.int 8)))
  (.cons (.pop none 1 none)
  .nil))
 (.cons (.retv 1)
 .nil)))⟩
def f34:Hp.Fn:=⟨3,7,
 (.cons (.set (.n 3) (.lst .nil))
 (.cons (.set (.n 4) (.lst .nil))
 (.cons (.for (.n 5) (.seq (.v 0))
  (.cons (.set (.n 6) (.op .Add (.op .Add (.v 1) (.c (.int 1))) (.bi .len (.cons (.v 4) .nil))))
  (.cons (.iff (.cmp .Eq (.call 32 (.cons (.v 5) .nil)) (.c (.int 0)))
   (.cons (.mov 6 2)
   .nil)
   .nil)
  (.cons (.app 3 (.tup (.cons (.tup (.cons (.c (.str "yes")) .nil)) (.cons (.tup .nil) (.cons (.v 6) .nil)))))
  (.cons (.set (.n 4) (.op .Add (.v 4) (.call 36 (.cons (.v 5) (.cons (.op .Add (.op .Add (.v 1) (.c (.int 1))) (.bi .len (.cons (.v 4) .nil))) (.cons (.v 2) .nil))))))
  .nil)))))
 (.cons (.ret (.op .Add (.lst (.cons (.v 3) .nil)) (.v 4)))
 .nil))))⟩
def f35:Hp.Fn:=⟨3,3,
 (.cons (.iff (.cmp .Eq (.idx (.v 0) (.c (.int 0))) (.c (.str "put")))
  (.cons (.ret (.lst (.cons (.lst (.cons (.tup (.cons (.tup (.cons (.c (.str "yes")) .nil)) (.cons (.idx (.v 0) (.c (.int 1))) (.cons (.v 2) .nil)))) .nil)) .nil)))
  .nil)
  .nil)
 (.cons (.iff (.cmp .Eq (.idx (.v 0) (.c (.int 0))) (.c (.str "wait")))
  (.cons (.ret (.lst (.cons (.lst (.cons (.tup (.cons (.idx (.v 0) (.c (.int 1))) (.cons (.idx (.v 0) (.c (.int 2))) (.cons (.v 2) .nil)))) .nil)) .nil)))
  .nil)
  .nil)
 (.cons (.iff (.cmp .Eq (.idx (.v 0) (.c (.int 0))) (.c (.str "choose")))
  (.cons (.ret (.call 34 (.cons (.idx (.v 0) (.c (.int 1))) (.cons (.v 1) (.cons (.v 2) .nil)))))
  .nil)
  .nil)
 (.cons (.ret (.call 36 (.cons (.op .Mult (.idx (.v 0) (.c (.int 2))) (.idx (.v 0) (.c (.int 1)))) (.cons (.v 1) (.cons (.v 2) .nil)))))
 .nil))))⟩
def f36:Hp.Fn:=⟨3,7,
 (.cons (.set (.n 3) (.lst .nil))
 (.cons (.for (.n 4) (.rng (.c (.int 0)) (.bi .len (.cons (.v 0) .nil)))
  (.cons (.set (.n 5) (.call 32 (.cons (.sli (.v 0) (.cons (.op .Add (.v 4) (.c (.int 1))) .nil) .nil) .nil)))
  (.cons (.set (.n 6) (.op .Add (.op .Add (.v 1) (.bi .len (.cons (.v 3) .nil))) (.call 32 (.cons (.lst (.cons (.idx (.v 0) (.v 4)) .nil)) .nil))))
  (.cons (.iff (.cmp .Eq (.v 5) (.c (.int 0)))
   (.cons (.mov 6 2)
   .nil)
   .nil)
  (.cons (.set (.n 3) (.op .Add (.v 3) (.call 35 (.cons (.idx (.v 0) (.v 4)) (.cons (.op .Add (.v 1) (.bi .len (.cons (.v 3) .nil))) (.cons (.v 6) .nil))))))
  .nil)))))
 (.cons (.retv 3)
 .nil)))⟩
def f37:Hp.Fn:=⟨1,3,
 (.cons (.set (.n 1) (.lst .nil))
 (.cons (.for (.n 2) (.seq (.v 0))
  (.cons (.iff (.cmp .Eq (.idx (.v 2) (.c (.int 0))) (.c (.str "choose")))
   (.cons (.app 1 (.tup (.cons (.c (.str "choose")) (.cons (.comp 1 [] (.n 0) (.seq (.idx (.v 2) (.c (.int 1)))) .nil (.call 37 (.cons (.v 0) .nil))) .nil))))
   .nil)
   (.cons (.iff (.cmp .Eq (.idx (.v 2) (.c (.int 0))) (.c (.str "loop")))
    (.cons (.app 1 (.tup (.cons (.c (.str "loop")) (.cons (.idx (.v 2) (.c (.int 1))) (.cons (.call 37 (.cons (.idx (.v 2) (.c (.int 2))) .nil)) .nil)))))
    .nil)
    (.cons (.app 1 (.v 2))
    .nil))
   .nil))
  .nil))
 (.cons (.retv 1)
 .nil)))⟩
def f38:Hp.Fn:=⟨2,3,
 (.cons (.iff (.orr (.nt (.isi (.v 0) [.tList])) (.cmp .NotEq (.v 0) (.v 1)))
  (.cons (.ret (.c (.bl false)))
  .nil)
  .nil)
 (.cons (.for (.n 2) (.seq (.v 0))
  (.cons (.iff (.nt (.isi (.v 2) [.tList]))
   (.cons (.ret (.c (.bl false)))
   .nil)
   .nil)
  (.cons (.iff (.cmp .NotEq (.comp 1 [] (.n 0) (.seq (.v 2)) (.cons (.orr (.nt (.isi (.v 0) [.tTuple])) (.nt (.call 13 (.cons (.idx (.v 0) (.c (.int 2))) .nil)))) .nil) (.v 0)) (.lst .nil))
   (.cons (.ret (.c (.bl false)))
   .nil)
   .nil)
  .nil)))
 (.cons (.ret (.c (.bl true)))
 .nil)))⟩
def f39:Hp.Fn:=⟨1,9,
 (.cons (.set (.n 1) (.lst (.cons (.v 0) (.cons (.c (.int 0)) .nil))))
 (.cons (.setL 2 1 [] (.call 5 (.cons (.e (.c (.int 12))) .nil)))
 (.cons (.setL 3 1 [2] (.pcall 33 (.cons (.call 31 (.cons (.e (.v 2)) (.cons (.e (.c (.int 1))) .nil))) .nil)))
 (.cons (.set (.n 4) (.call 36 (.cons (.v 3) (.cons (.c (.int 0)) (.cons (.call 32 (.cons (.v 3) .nil)) .nil)))))
 (.cons (.tldD 5 37 (.cons (.v 3) .nil))
 (.cons (.tldO 6 2 (.v 2) 5)
 (.cons (.iff (.orr (.nt (.callO 38 false (.v 4) 6)) (.orr (.neO 5 (.v 3)) (.cmp .NotEq (.callO 21 true (.v 2) 6) (.v 4))))
  (.cons (.ret (.c (.bl false)))
  .nil)
  .nil)
 (.cons (.wrkC 5 7 "loop")
 (.cons (.clrD 5)
 (.cons (.iff (.neO 6 (.v 4))
  (.cons (.ret (.c (.bl false)))
  .nil)
  .nil)
 (.cons (.wrkA 6 8)
 (.cons (.ret (.call 38 (.cons (.call 2 (.cons (.v 2) (.cons (.v 3) .nil))) (.cons (.v 4) .nil))))
 .nil))))))))))))⟩
def pg:Hp.Pg:=⟨[f0,f1,f2,f3,f4,f5,f6,f7,f8,f9,f10,f11,f12,f13,f14,f15,f16,f17,f18,f19,f20,f21,f22,f23,f24,f25,f26,f27,f28,f29,f30,f31,f32,f33,f34,f35,f36,f37,f38,f39],[[.own 0,.tValueError],[.own 1,.own 0,.tValueError],[.own 2,.own 0,.tValueError],[.own 3,.own 0,.tValueError]],[[("number",.tup [.str "number"]),("box",.tup [.str "box"]),("after",.tup [.str "box"]),("plus",.tup [.str "sum",.str "sum"]),("minus",.tup [.str "sum",.str "sum"])],[("yes",.tup []),("is",.tup [.str "sum",.str "sum"]),("less",.tup [.str "sum",.str "sum"]),("not",.tup [.str "cond"]),("both",.tup [.str "cond",.str "cond"]),("either",.tup [.str "cond",.str "cond"])]]⟩
end K76
end
noncomputable section
namespace K76
open Hp HpS PySem
theorem tJ(j:Int)(h:0<j):∀i:Int,opD .Mod (.cl (.int i)) (.cl (.int j))=.ok (.cl (.int (i % j))):=λi=>aAm h
theorem aDe{i j:Int}(h:-(2 ^ 64)<j/\j<2 ^ 64):opD .Mult (.cl (.int i)) (.cl (.int j))=.ok (.cl (.int (i*j))):=mul_int (by
 unfold qQ
 rw[Al h.1,Al h.2]
 simp)
theorem aAr{i j:Int}(h:-(2 ^ 64)<i/\i<2 ^ 64):opD .Mult (.cl (.int i)) (.cl (.int j))=.ok (.cl (.int (i*j))):=mul_int (by
 unfold qQ
 rw[Al h.1,Al h.2]
 simp)
def aAs(ns:List Int)(k:Nat):Int:=
 if k<ns.length then ns.getD k 0 else (if 0<ns.length then ns.getD ((k*7+3) % ns.length) 0 else 0)*31+(k:Int)*k*7919+101*k+17
theorem vX{ns:List Int}{k:Nat}(h:k<ns.length):cG ⟨.lst (ns.map D.int),false,true,[]⟩ (.cl (.int (k:Int)))=.ok (.cl (.int (ns.getD k 0))):=by
 have hl:(ns.map D.int).length=ns.length:=lM _
 have e:(ns.map D.int)[k]? = some (.int (ns.getD k 0)):=by simp[h]
 unfold cG
 simp only[cQ,hl,kO h,e]
 rfl
theorem aEM(n:Nat)(ns:List Int){k:Nat}(h:k<=1000000):call pg (n+1) 3 [.lst (ns.map D.int),.int k]=.ok (.int (aAs ns k),false,false):=by
 refine aM (F:=f3) rfl rfl (v:=.cl (.int (aAs ns k))) ?_
 show exs pg (call pg n) [.sh true (.lst (ns.map D.int)),.sh true (.int k),.dead] _=_
 unfold aAs
 by_cases hk:k<ns.length
 . have hd:decide ((k:Int)<(ns.length:Int))=true:=Al (by omega)
   rw[if_pos hk]
   simp only[f3,bO,dJ,aS,bP,eB,iH,aE,aY,bV,gS,gZ,iT,fE,aC,cP,lM,cQ,oZ,hd,aG,if_true,sW,fO,vX hk,kN]
 . have hd:decide ((k:Int)<(ns.length:Int))=false:=Ao (by omega)
   rw[if_neg hk]
   have m1:∀i:Int,opD .Mult (.cl (.int i)) (.cl (.int 31))=.ok (.cl (.int (i*31))):=λi=>aDe (by decide)
   have m2:opD .Mult (.cl (.int k)) (.cl (.int k))=.ok (.cl (.int ((k:Int)*k))):=aDe (by omega)
   have m3:opD .Mult (.cl (.int ((k:Int)*k))) (.cl (.int 7919))=.ok (.cl (.int ((k:Int)*k*7919))):=aDe (by decide)
   have m4:opD .Mult (.cl (.int 101)) (.cl (.int k))=.ok (.cl (.int (101*(k:Int)))):=aAr (by decide)
   have m5:opD .Mult (.cl (.int k)) (.cl (.int 7))=.ok (.cl (.int ((k:Int)*7))):=aDe (by decide)
   by_cases hz:0<ns.length
   . have hd2:decide ((0:Int)<(ns.length:Int))=true:=Al (by omega)
     have e:((k:Int)*7+3) % (ns.length:Int)=(((k*7+3) % ns.length:Nat):Int):=by
      rw[Int.natCast_emod,Cp,De];rfl
     rw[if_pos hz]
     simp only[f3,bO,dJ,aS,bP,eB,iH,bT,aE,aY,bV,gS,gZ,iT,fE,aC,cP,lM,cQ,oZ,aCX,hd,hd2,aG,bF,if_false,if_true,nH,dI,gQ,bG,fV,cC,lS,lZ,fO,eV,m5,add_int,tJ (ns.length:Int) (by omega),e,vX (Nat.mod_lt _ hz),sW,m1,m2,m3,m4,kN]
   . have hd2:decide ((0:Int)<(ns.length:Int))=false:=Ao (by omega)
     rw[if_neg hz]
     simp only[f3,bO,dJ,aS,bP,eB,iH,bT,aE,aY,bV,gS,gZ,iT,fE,aC,cP,lM,cQ,oZ,aCX,hd,hd2,aG,bF,if_false,nH,dI,gQ,bG,fV,cC,lS,lZ,eV,add_int,sW,m1,m2,m3,m4,kN]
def aR(ns:List Int)(k:Nat):List D:=[.lst (ns.map D.int),.int k]
def nxt(ns:List Int)(k:Nat)(m:Int):Int:=(aAs ns k % 4294967291+13*((k:Int)+1))*48271 % 2147483647 / 3 % m
theorem cW(ns:List Int)(k:Nat){m:Int}(h:0<m):0<=nxt ns k m/\nxt ns k m<m:=⟨Int.emod_nonneg _ (by omega),Int.emod_lt_of_pos _ h⟩
theorem aEN(n:Nat)(ns:List Int){k:Nat}(h:k<=1000000){m:Int}(hm:0<m):call pg (n+2) 4 [.err 0 (aR ns k),.int m]=.ok (.tup [.int (nxt ns k m),.err 0 (aR ns (k+1))],false,false):=by
 have hc:=aEM n ns h
 refine dM (F:=f4) (b:=_) rfl rfl rfl (v:=.cl (.tup [.int (nxt ns k m),.err 0 (aR ns (k+1))])) ?_
 show exs pg (call pg (n+1)) [.lent (aR ns k),.sh true (.int m),.dead] _=_
 have x0:∀r,ev pg (call pg (n+1)) (.lent (aR ns k)::r) (.lix 0 (.c (.int 0)))=.ok ⟨.lst (ns.map D.int),false,true,[]⟩:=λr=>rfl
 have x1:∀k r,ev pg (call pg (n+1)) (.lent (aR ns k)::r) (.lix 0 (.c (.int 1)))=.ok (.cl (.int k)):=λk r=>rfl
 have s2:∀r,ex pg (call pg (n+1)) (.lent (aR ns k)::r) (.lset 0 (.c (.int 1)) (.op .Add (.lix 0 (.c (.int 1))) (.c (.int 1))))=.next (.lent (aR ns (k+1))::r):=λr=>rfl
 have m1:∀i:Int,opD .Mult (.cl (.int i)) (.cl (.int 48271))=.ok (.cl (.int (i*48271))):=λi=>aDe (by decide)
 have m2:∀i:Int,opD .Mult (.cl (.int 13)) (.cl (.int i))=.ok (.cl (.int (13*i))):=λi=>aAr (by decide)
 have d3:∀i:Int,opD .FloorDiv (.cl (.int i)) (.cl (.int 3))=.ok (.cl (.int (i / 3))):=λi=>tB rfl
 have e:((k+1:Nat):Int)=(k:Int)+1:=by omega
 simp only[bO,dJ,dI,eV,cV,aE,aY,x0,x1,aC,mC,mN,cQ,hc,oY,bT,tJ 4294967291 (by decide),aG,gQ,bG,fV,cC,lS,lZ,nH,s2,tF,aFC,eB,bV,gS,gZ,bC,iT,m2,m1,add_int,tJ 2147483647 (by decide),d3,tJ m hm,aEK,aCZ,kN,e]
 rfl
def drp:Nat->Ss->Ss
 | 0,s=>s
 | n+1,.cons _ s=>drp n s
 | _+1,.nil=>.nil
def hdS:Ss->S
 | .cons s _=>s
 | .nil=>.pass
theorem stp{P:Pg}{cl:Caller}{σ σ':Sg}{s:S}{ss:Ss}(h:ex P cl σ s=.next σ'):exs P cl σ (.cons s ss)=exs P cl σ' ss:=by rw[bO,h,nH]
theorem fZ{P:Pg}{cl:Caller}{σ:Sg}{v:Vl}{s:S}{ss:Ss}(h:ex P cl σ s=.ret v):exs P cl σ (.cons s ss)=.ret v:=by rw[bO,h,kN]
section
variable {P:Pg} {cl:Caller} {l:Nat} {σ σ1 σ2 σ3:Sg}
theorem aKx{a:EL}{x:Vl}(h:evl P cl l σ a=.ok (x,σ1)):evls' P cl l σ (.cons a .nil)=.ok ([x],σ1):=by rw[gM,h];rfl
theorem aDf{a b:EL}{x y:Vl}(h:evl P cl l σ a=.ok (x,σ1))(h2:evl P cl l σ1 b=.ok (y,σ2)):evls' P cl l σ (.cons a (.cons b .nil))=.ok ([x,y],σ2):=by rw[gM,h,aC,aKx h2];rfl
theorem aKy{a b c:EL}{x y z:Vl}(h:evl P cl l σ a=.ok (x,σ1))(h2:evl P cl l σ1 b=.ok (y,σ2))(h3:evl P cl l σ2 c=.ok (z,σ3)):evls' P cl l σ (.cons a (.cons b (.cons c .nil)))=.ok ([x,y,z],σ3):=by rw[gM,h,aC,aDf h2 h3];rfl
theorem cK{a:E}{d:D}(h:ev P cl σ a=.ok (.cl d)):evl P cl l σ (.e a)=.ok (.cl d,σ):=by rw[aFC,h];rfl
theorem iW{a b:EL}{x y:D}(h:evl P cl l σ a=.ok (.cl x,σ1))(h2:evl P cl l σ1 b=.ok (.cl y,σ2)):evl P cl l σ (.tup (.cons a (.cons b .nil)))=.ok (.cl (.tup [x,y]),σ2):=by rw[tE,aDf h h2];rfl
theorem nU{a b c:EL}{x y z:D}(h:evl P cl l σ a=.ok (.cl x,σ1))(h2:evl P cl l σ1 b=.ok (.cl y,σ2))(h3:evl P cl l σ2 c=.ok (.cl z,σ3)):evl P cl l σ (.tup (.cons a (.cons b (.cons c .nil))))=.ok (.cl (.tup [x,y,z]),σ3):=by rw[tE,aKy h h2 h3];rfl
theorem vY{o:Operator}{a b:EL}{x y z:D}(h:evl P cl l σ a=.ok (.cl x,σ1))(h2:evl P cl l σ1 b=.ok (.cl y,σ2))(h3:opD o (.cl x) (.cl y)=.ok (.cl z)):evl P cl l σ (.op o a b)=.ok (.cl z,σ2):=by
 rw[aHV,h,aC,h2,aC]
 show(opD o (.cl x) (.cl y) >>= λz=>noAl z σ2)=_
 rw[h3];rfl
theorem jF{e:EL}{d:D}{c:List D}{r:Sg}(h:evl P cl 0 σ e=.ok (.cl d,.lent c::r)):ex P cl σ (.retL e)=.ret (.cl (.tup [d,.err 0 c])):=by rw[tF,h];rfl
end
theorem eD(n:Nat){ns:List Int}{k:Nat}(h:k<=1000000){m:Int}(hm:0<m){c:List D}{r r1:Sg}{a:EL}(ha:evl pg (call pg (n+2)) 0 (.lent c::r) a=.ok (.cl (.int m),.lent (aR ns k)::r1)) :
 evl pg (call pg (n+2)) 0 (.lent c::r) (.call 4 (.cons a .nil))=.ok (.cl (.int (nxt ns k m)),.lent (aR ns (k+1))::r1):=pC rfl (aKx ha) (aEN n ns h hm)
theorem aAt(i:Int):i % 2=0\/i % 2=1:=by omega
theorem aDg{a b:Str}{v:Vl}(hv:v.d=.lst [.str a,.str b]){i:Int}(h:i=0\/i=1):cG v (.cl (.int i))=.ok (.cl (.str (if i=0 then a else b))):=by
 unfold cG
 rw[hv]
 rcases h with rfl|rfl <;> rfl
theorem aHX(a b:Str):gW [.cl (.str a),.cl (.str b)]=⟨.lst [.str a,.str b],true,false,[]⟩:=rfl
abbrev fr(ns:List Int)(k:Nat)(bs:List (Str×Int))(dp:Int)(s:Sl):Sg:=[.lent (aR ns k),.sh true (.lst (aD bs)),.sh true (.int dp),s]
theorem nV{P:Pg}{cl:Caller}{σ:Sg}{a b:E}{x y:Bool}(h1:tst P cl σ a=.ok x)(h2:tst P cl σ b=.ok y):tst P cl σ (.orr a b)=.ok (x||y):=by
 rw[eN,h1,aC]
 cases x with
 | true=>rfl
 | false=>rw[if_neg bN,h2];rfl
theorem pF(n:Nat)(ns:List Int){k:Nat}(hk:k<=900000){bs:List (Str×Int)}(hm:1<=bs.length){dp:Int}(hd:dp=0\/nxt ns k 6<3) :
 ∃(s:Sm) (k':Nat),s.wf bs.length true/\s.sz=1/\k'<=k+3/\call pg (n+3) 6 [.err 0 (aR ns k),.lst (aD bs),.int dp]=.ok (.tup [s.d,.err 0 (aR ns k')],false,false):=by
 have x0:=eD n (ns:=ns) (k:=k) (by omega) (m:=6) (by decide) (c:=aR ns k) (r:=[.sh true (.lst (aD bs)),.sh true (.int dp),.dead]) (a:=.e (.c (.int 6))) (cK rfl)
 have e1:ex pg (call pg (n+2)) (fr ns k bs dp .dead) (.setL 3 0 [] (.call 4 (.cons (.e (.c (.int 6))) .nil)))=.next (fr ns (k+1) bs dp (.sh false (.int (nxt ns k 6)))):=by
  rw[fI,bG,x0];rfl
 have ht:tst pg (call pg (n+2)) (fr ns (k+1) bs dp (.sh false (.int (nxt ns k 6)))) (.orr (.cmp .Eq (.v 2) (.c (.int 0))) (.cmp .Lt (.v 3) (.c (.int 3))))=.ok true:=by
  rw[nV (x:=dp==0) (y:=decide (nxt ns k 6<3)) rfl rfl]
  rcases hd with h|h
  . rw[h];rfl
  . rw[Al h,Cm]
 have w2:∀cl:Caller,ev pg cl (fr ns (k+1) bs dp (.sh false (.int (nxt ns k 6)))) (.op .Mod (.v 3) (.c (.int 2)))=.ok (.cl (.int (nxt ns k 6 % 2))):=λcl=>by
  simp only[eV,eB,bT,bV,fr,gS,gZ,bC,aC,tJ 2 (by decide)]
 by_cases hz:nxt ns k 6 % 2=0
 . have hb:(0:Int)<((aD bs).length:Int):=by rw[aD,lM];omega
   have x1:=eD n (ns:=ns) (k:=k+1) (by omega) hb (c:=aR ns (k+1)) (r:=[.sh true (.lst (aD bs)),.sh true (.int dp),.sh false (.int (nxt ns k 6))]) (a:=.e (.bi .len (.cons (.v 1) .nil))) (cK rfl)
   have rg:=cW ns (k+1) hb
   have hl:((aD bs).length:Int)=(bs.length:Int):=by rw[aD,lM]
   refine⟨.box (nxt ns (k+1) (aD bs).length).toNat,k+2,(show _<_ by omega),rfl,by omega,?_⟩
   refine dM (F:=f6) (b:=_) rfl rfl rfl (v:=.cl (.tup [Sm.d (.box (nxt ns (k+1) (aD bs).length).toNat),.err 0 (aR ns (k+2))])) ?_
   show exs pg (call pg (n+2)) (fr ns k bs dp .dead) _=_
   refine(stp e1).trans (fZ ?_)
   have ti:tst pg (call pg (n+2)) (fr ns (k+1) bs dp (.sh false (.int (nxt ns k 6)))) (.cmp .Eq (.op .Mod (.v 3) (.c (.int 2))) (.c (.int 0)))=.ok true:=by
    simp only[bP,w2,bT,aC,cQ,dL,fG,hz];rfl
   rw[aS,ht,aG,if_pos rfl]
   refine fZ ?_
   rw[aS,ti,aG,if_pos rfl]
   refine fZ ?_
   have:=jF (iW (cK (a:=.c (.str "box")) rfl) x1)
   rw[this]
   show O.ret (.cl (.tup [.tup [.str "box",.int _],_]))=O.ret (.cl (.tup [.tup [.str "box",.int _],_]))
   rw[Int.toNat_of_nonneg rg.1]
 . have hz':(nxt ns k 6 % 2==0)=false:=beq_eq_false_iff_ne.mpr hz
   have x1:=eD n (ns:=ns) (k:=k+1) (by omega) (m:=4) (by decide) (c:=aR ns (k+1)) (r:=[.sh true (.lst (aD bs)),.sh true (.int dp),.sh false (.int (nxt ns k 6))]) (a:=.e (.c (.int 4))) (cK rfl)
   have rg:=cW ns (k+1) (m:=4) (by decide)
   obtain⟨q,hq,q0,q1⟩:∃q:Int,cG (⟨.lst [.int 3,.int 4,.int 8,.int 100],false,false,[]⟩:Vl) (.cl (.int (nxt ns (k+1) 4)))=.ok (.cl (.int q))/\0<q/\q<=100:=by
    generalize nxt ns (k+1) 4=w at rg
    have:w=0\/w=1\/w=2\/w=3:=by omega
    rcases this with rfl|rfl|rfl|rfl
    . exact⟨3,rfl,by decide,by decide⟩
    . exact⟨4,rfl,by decide,by decide⟩
    . exact⟨8,rfl,by decide,by decide⟩
    . exact⟨100,rfl,by decide,by decide⟩
   have xi:evl pg (call pg (n+2)) 0 (fr ns (k+1) bs dp (.sh false (.int (nxt ns k 6)))) (.idx (.e (.lst (.cons (.c (.int 3)) (.cons (.c (.int 4)) (.cons (.c (.int 8)) (.cons (.c (.int 100)) .nil)))))) (.call 4 (.cons (.e (.c (.int 4))) .nil)))=.ok (.cl (.int q),fr ns (k+2) bs dp (.sh false (.int (nxt ns k 6)))):=by
    rw[tD]
    show(evl pg (call pg (n+2)) 0 (fr ns (k+1) bs dp (.sh false (.int (nxt ns k 6)))) (.call 4 (.cons (.e (.c (.int 4))) .nil)) >>= λy=>cG (⟨.lst [.int 3,.int 4,.int 8,.int 100],false,false,[]⟩:Vl) y.1.nr >>= λz=>noAl z y.2)=_
    rw[x1]
    show(cG (⟨.lst [.int 3,.int 4,.int 8,.int 100],false,false,[]⟩:Vl) (.cl (.int (nxt ns (k+1) 4))) >>= λz=>noAl z _)=_
    rw[hq];rfl
   have x2:=eD n (ns:=ns) (k:=k+2) (by omega) q0 (c:=aR ns (k+1)) (r:=[.sh true (.lst (aD bs)),.sh true (.int dp),.sh false (.int (nxt ns k 6))]) xi
   have rg2:=cW ns (k+2) q0
   refine⟨.num (nxt ns (k+2) q),k+3,⟨rg2.1,by omega⟩,rfl,by omega,?_⟩
   refine dM (F:=f6) (b:=_) rfl rfl rfl (v:=.cl (.tup [Sm.d (.num (nxt ns (k+2) q)),.err 0 (aR ns (k+3))])) ?_
   show exs pg (call pg (n+2)) (fr ns k bs dp .dead) _=_
   refine(stp e1).trans (fZ ?_)
   have ti:tst pg (call pg (n+2)) (fr ns (k+1) bs dp (.sh false (.int (nxt ns k 6)))) (.cmp .Eq (.op .Mod (.v 3) (.c (.int 2))) (.c (.int 0)))=.ok false:=by
    simp only[bP,w2,bT,aC,cQ,dL,fG,hz']
   rw[aS,ht,aG,if_pos rfl]
   refine(stp (σ':=fr ns (k+1) bs dp (.sh false (.int (nxt ns k 6)))) ?_).trans (fZ ?_)
   . rw[aS,ti,aG,if_neg bN];rfl
   . exact jF (iW (cK (a:=.c (.str "number")) rfl) x2)
theorem aDh(n:Nat)(ns:List Int){k:Nat}(hk:k<=800000){bs:List (Str×Int)}(hm:1<=bs.length){dp:Int}(hd:dp=0\/dp=1) :
 ∃(s:Sm) (k':Nat),s.wf bs.length true/\s.sz<=3/\k'<=k+10/\call pg (n+4) 6 [.err 0 (aR ns k),.lst (aD bs),.int dp]=.ok (.tup [s.d,.err 0 (aR ns k')],false,false):=by
 by_cases hb:dp=0\/nxt ns k 6<3
 . obtain⟨s,k',h1,h2,h3,h4⟩:=pF (n+1) ns (k:=k) (by omega) hm hb
   exact⟨s,k',h1,by omega,by omega,h4⟩
 . have h1:dp=1:=by omega
   subst h1
   have h3:¬ nxt ns k 6<3:=λz=>hb (.inr z)
   have x0:=eD (n+1) (ns:=ns) (k:=k) (by omega) (m:=6) (by decide) (c:=aR ns k) (r:=[.sh true (.lst (aD bs)),.sh true (.int 1),.dead]) (a:=.e (.c (.int 6))) (cK rfl)
   have e1:ex pg (call pg (n+3)) (fr ns k bs 1 .dead) (.setL 3 0 [] (.call 4 (.cons (.e (.c (.int 6))) .nil)))=.next (fr ns (k+1) bs 1 (.sh false (.int (nxt ns k 6)))):=by
    rw[fI,bG,x0];rfl
   obtain⟨s,k1,s1,s2,s3,s4⟩:=pF n ns (k:=k+1) (by omega) hm (dp:=0) (.inl rfl)
   obtain⟨t,k2,t1,t2,t3,t4⟩:=pF n ns (k:=k1) (by omega) hm (dp:=0) (.inl rfl)
   generalize nxt ns k 6=w at h3 e1
   have ht:tst pg (call pg (n+3)) (fr ns (k+1) bs 1 (.sh false (.int w))) (.orr (.cmp .Eq (.v 2) (.c (.int 0))) (.cmp .Lt (.v 3) (.c (.int 3))))=.ok false:=by
    rw[nV (x:=false) (y:=decide (w<3)) rfl rfl,Ao h3];rfl
   have p2:=aDg (a:= "plus") (b:= "minus") (v:=⟨.lst [.str "plus",.str "minus"],true,false,[]⟩) rfl (aAt w)
   have hw:(if w % 2=0 then ("plus" : Str) else "minus")=yI (decide (w % 2=0)):=by
    unfold yI;by_cases h:w % 2=0 <;> simp[h]
   rw[hw] at p2
   have ew:evl pg (call pg (n+3)) 0 (fr ns (k+1) bs 1 (.sh false (.int w))) (.e (.idx (.lst (.cons (.c (.str "plus")) (.cons (.c (.str "minus")) .nil))) (.op .Mod (.v 3) (.c (.int 2)))))=.ok (.cl (.str (yI (decide (w % 2=0)))),fr ns (k+1) bs 1 (.sh false (.int w))):=by
    refine cK ?_
    simp only[fO,jP,aE,aY,eV,eB,bT,bV,fr,gS,gZ,bC,aC,tJ 2 (by decide),aHX,p2]
   have cl1:∀{k k':Nat} {s:Sm},call pg (n+3) 6 [.err 0 (aR ns k),.lst (aD bs),.int 0]=.ok (.tup [s.d,.err 0 (aR ns k')],false,false)->evl pg (call pg (n+3)) 0 (fr ns k bs 1 (.sh false (.int w))) (.call 6 (.cons (.e (.v 1)) (.cons (.e (.op .Sub (.v 2) (.c (.int 1)))) .nil)))=.ok (.cl s.d,fr ns k' bs 1 (.sh false (.int w))):=λ{k k' s} h=>
    pC (vs:=[⟨.lst (aD bs),false,true,[]⟩,.cl (.int 0)]) rfl rfl h
   refine⟨.two (decide (w % 2=0)) s t,k2,⟨s1,t1⟩,by show 1+s.sz+t.sz<=3;omega,by omega,?_⟩
   refine dM (F:=f6) (b:=_) rfl rfl rfl (v:=.cl (.tup [Sm.d (.two (decide (w % 2=0)) s t),.err 0 (aR ns k2)])) ?_
   show exs pg (call pg (n+3)) (fr ns k bs 1 .dead) _=_
   refine(stp e1).trans ((stp (σ':=fr ns (k+1) bs 1 (.sh false (.int w))) ?_).trans (fZ ?_))
   . rw[aS,ht,aG,if_neg bN];rfl
   . exact jF (nU ew (cl1 s4) (cl1 t4))
theorem aHY(n:Nat){ns:List Int}{k:Nat}(hk:k<=800000){bs:List (Str×Int)}(hm:1<=bs.length){dp:Int}(hd:dp=0\/dp=1){b:EL}{r:Sg}
 (ha:evl pg (call pg (n+4)) 0 (.lent (aR ns k)::.sh true (.lst (aD bs))::r) b=.ok (.cl (.int dp),.lent (aR ns k)::.sh true (.lst (aD bs))::r)) :
 ∃(s:Sm) (k':Nat),s.wf bs.length true/\s.sz<=3/\k'<=k+10/\evl pg (call pg (n+4)) 0 (.lent (aR ns k)::.sh true (.lst (aD bs))::r) (.call 6 (.cons (.e (.v 1)) (.cons b .nil)))=.ok (.cl s.d,.lent (aR ns k')::.sh true (.lst (aD bs))::r):=by
 obtain⟨s,k',h1,h2,h3,h4⟩:=aDh n ns hk hm hd
 exact⟨s,k',h1,h2,h3,pC (vs:=[⟨.lst (aD bs),false,true,[]⟩,.cl (.int dp)]) rfl (aDf rfl ha) h4⟩
theorem rF(n:Nat)(ns:List Int){k:Nat}(hk:k<=700000){bs:List (Str×Int)}(hm:1<=bs.length){dp:Int}(hd:dp=0\/nxt ns k 10<5) :
 ∃(q:Cn) (k':Nat),q.wf bs.length true/\q.sz<=7/\k'<=k+21/\call pg (n+5) 7 [.err 0 (aR ns k),.lst (aD bs),.int dp]=.ok (.tup [q.d,.err 0 (aR ns k')],false,false):=by
 have x0:=eD (n+2) (ns:=ns) (k:=k) (by omega) (m:=10) (by decide) (c:=aR ns k) (r:=[.sh true (.lst (aD bs)),.sh true (.int dp),.dead]) (a:=.e (.c (.int 10))) (cK rfl)
 have e1:ex pg (call pg (n+4)) (fr ns k bs dp .dead) (.setL 3 0 [] (.call 4 (.cons (.e (.c (.int 10))) .nil)))=.next (fr ns (k+1) bs dp (.sh false (.int (nxt ns k 10)))):=by
  rw[fI,bG,x0];rfl
 generalize nxt ns k 10=w at hd e1
 have t0:tst pg (call pg (n+4)) (fr ns (k+1) bs dp (.sh false (.int w))) (.cmp .Eq (.v 3) (.c (.int 0)))=.ok (w==0):=rfl
 by_cases hw:w=0
 . refine⟨.yes,k+1,trivial,by decide,by omega,?_⟩
   refine dM (F:=f7) (b:=_) rfl rfl rfl (v:=.cl (.tup [Cn.d .yes,.err 0 (aR ns (k+1))])) ?_
   show exs pg (call pg (n+4)) (fr ns k bs dp .dead) _=_
   refine(stp e1).trans (fZ ?_)
   rw[aS,t0,hw,aG]
   exact fZ (jF (cK rfl))
 . have hw':(w==0)=false:=beq_eq_false_iff_ne.mpr hw
   have m2:∀e,ev pg (call pg (n+4)) (fr ns (k+1) bs dp (.sh false (.int w))) e=.ok (.cl (.int w))->ev pg (call pg (n+4)) (fr ns (k+1) bs dp (.sh false (.int w))) (.op .Mod e (.c (.int 2)))=.ok (.cl (.int (w % 2))):=λe h=>by
    rw[eV,h,aC,bT,aC,tJ 2 (by decide)]
   obtain⟨s,k1,s1,s2,s3,s4⟩:=aHY n (ns:=ns) (k:=k+1) (by omega) hm (aAt w) (b:=.e (.op .Mod (.v 3) (.c (.int 2)))) (r:=[.sh true (.int dp),.sh false (.int w)]) (cK (m2 _ rfl))
   obtain⟨t,k2,t1,t2,t3,t4⟩:=aHY n (ns:=ns) (k:=k1) (by omega) hm (dp:=1) (.inr rfl) (b:=.e (.c (.int 1))) (r:=[.sh true (.int dp),.sh false (.int w)]) (cK rfl)
   have d2:opD .FloorDiv (.cl (.int w)) (.cl (.int 2))=.ok (.cl (.int (w / 2))):=tB rfl
   have p2:=aDg (a:= "is") (b:= "less") (v:=⟨.lst [.str "is",.str "less"],true,false,[]⟩) rfl (aAt (w / 2))
   have hwc:(if w / 2 % 2=0 then ("is" : Str) else "less")=vW (decide (w / 2 % 2=0)):=by
    unfold vW;by_cases h:w / 2 % 2=0 <;> simp[h]
   rw[hwc] at p2
   have ew:evl pg (call pg (n+4)) 0 (fr ns (k+1) bs dp (.sh false (.int w))) (.e (.idx (.lst (.cons (.c (.str "is")) (.cons (.c (.str "less")) .nil))) (.op .Mod (.op .FloorDiv (.v 3) (.c (.int 2))) (.c (.int 2)))))=.ok (.cl (.str (vW (decide (w / 2 % 2=0)))),fr ns (k+1) bs dp (.sh false (.int w))):=by
    refine cK ?_
    simp only[fO,jP,aE,aY,eV,eB,bT,bV,fr,gS,gZ,bC,aC,d2,tJ 2 (by decide),aHX,p2]
   have ht:tst pg (call pg (n+4)) (fr ns (k+1) bs dp (.sh false (.int w))) (.orr (.cmp .Eq (.v 2) (.c (.int 0))) (.cmp .Lt (.v 3) (.c (.int 5))))=.ok true:=by
    rw[nV (x:=dp==0) (y:=decide (w<5)) rfl rfl]
    rcases hd with h|h
    . rw[h];rfl
    . rw[Al h,Cm]
   refine⟨.cmp (decide (w / 2 % 2=0)) s t,k2,⟨s1,t1⟩,by show 1+s.sz+t.sz<=7;omega,by omega,?_⟩
   refine dM (F:=f7) (b:=_) rfl rfl rfl (v:=.cl (.tup [Cn.d (.cmp (decide (w / 2 % 2=0)) s t),.err 0 (aR ns k2)])) ?_
   show exs pg (call pg (n+4)) (fr ns k bs dp .dead) _=_
   refine(stp e1).trans ((stp (σ':=fr ns (k+1) bs dp (.sh false (.int w))) ?_).trans (fZ ?_))
   . rw[aS,t0,hw',aG];rfl
   . rw[aS,ht,aG]
     exact fZ (jF (nU ew s4 t4))
theorem pG(ns:List Int){bs:List (Str×Int)}(hm:1<=bs.length):∀(d n k:Nat),d<=2->k+200*d<=600000 ->
 ∃(q:Cn) (k':Nat),q.wf bs.length true/\q.sz+1<=8*2 ^ d/\k'+1<=k+22*2 ^ d/\call pg (n+d+5) 7 [.err 0 (aR ns k),.lst (aD bs),.int d]=.ok (.tup [q.d,.err 0 (aR ns k')],false,false)
 | 0,n,k,_,hk=>by
  obtain⟨q,k',h1,h2,h3,h4⟩:=rF n ns (k:=k) (by omega) hm (dp:=0) (.inl rfl)
  exact⟨q,k',h1,by omega,by omega,h4⟩
 | d+1,n,k,hd2,hk=>by
  have hp:2 ^ (d+1)=2*2 ^ d:=by rw[Nat.pow_succ,Ck]
  have hp1:2 ^ d<=2:=by
   have:d<=1:=by omega
   exact Nat.pow_le_pow_right (by decide) this
  have hp2:1<=2 ^ d:=Nat.one_le_two_pow
  by_cases hb:nxt ns k 10<5
  . obtain⟨q,k',h1,h2,h3,h4⟩:=rF (n+(d+1)) ns (k:=k) (by omega) hm (dp:=((d+1:Nat):Int)) (.inr hb)
    exact⟨q,k',h1,by omega,by omega,h4⟩
  . have x0:=eD (n+d+3) (ns:=ns) (k:=k) (by omega) (m:=10) (by decide) (c:=aR ns k) (r:=[.sh true (.lst (aD bs)),.sh true (.int ((d+1:Nat):Int)),.dead]) (a:=.e (.c (.int 10))) (cK rfl)
    have rg:=cW ns k (m:=10) (by decide)
    have e1:ex pg (call pg (n+d+5)) (fr ns k bs ((d+1:Nat):Int) .dead) (.setL 3 0 [] (.call 4 (.cons (.e (.c (.int 10))) .nil)))=.next (fr ns (k+1) bs ((d+1:Nat):Int) (.sh false (.int (nxt ns k 10)))):=by
     rw[fI,bG,x0];rfl
    obtain⟨s,k1,s1,s2,s3,s4⟩:=pG ns hm d n (k+1) (by omega) (by omega)
    obtain⟨t,k2,t1,t2,t3,t4⟩:=pG ns hm d n k1 (by omega) (by omega)
    generalize nxt ns k 10=w at hb e1 rg
    have hw':(w==0)=false:=beq_eq_false_iff_ne.mpr (by omega)
    have t0:tst pg (call pg (n+d+5)) (fr ns (k+1) bs ((d+1:Nat):Int) (.sh false (.int w))) (.cmp .Eq (.v 3) (.c (.int 0)))=.ok (w==0):=rfl
    have hd':((((d+1:Nat):Int))==0)=false:=beq_eq_false_iff_ne.mpr (by omega)
    have ht:tst pg (call pg (n+d+5)) (fr ns (k+1) bs ((d+1:Nat):Int) (.sh false (.int w))) (.orr (.cmp .Eq (.v 2) (.c (.int 0))) (.cmp .Lt (.v 3) (.c (.int 5))))=.ok false:=by
     rw[nV (x:=(((d+1:Nat):Int))==0) (y:=decide (w<5)) rfl rfl,Ao hb,hd'];rfl
    have t7:tst pg (call pg (n+d+5)) (fr ns (k+1) bs ((d+1:Nat):Int) (.sh false (.int w))) (.cmp .Lt (.v 3) (.c (.int 7)))=.ok (decide (w<7)):=rfl
    have ed:((d+1:Nat):Int)-1=(d:Int):=by omega
    have el:∀k,evl pg (call pg (n+d+5)) 0 (fr ns k bs ((d+1:Nat):Int) (.sh false (.int w))) (.e (.op .Sub (.v 2) (.c (.int 1))))=.ok (.cl (.int d),fr ns k bs ((d+1:Nat):Int) (.sh false (.int w))):=λk=>by
     refine cK ?_
     rw[<-ed];rfl
    have cl1:∀{k k':Nat} {q:Cn},call pg (n+d+5) 7 [.err 0 (aR ns k),.lst (aD bs),.int d]=.ok (.tup [q.d,.err 0 (aR ns k')],false,false)->evl pg (call pg (n+d+5)) 0 (fr ns k bs ((d+1:Nat):Int) (.sh false (.int w))) (.call 7 (.cons (.e (.v 1)) (.cons (.e (.op .Sub (.v 2) (.c (.int 1)))) .nil)))=.ok (.cl q.d,fr ns k' bs ((d+1:Nat):Int) (.sh false (.int w))):=λ{k k' q} h=>
     pC (vs:=[⟨.lst (aD bs),false,true,[]⟩,.cl (.int d)]) rfl (aDf rfl (el k)) h
    have step:∀{v:Vl},exs pg (call pg (n+d+5)) (fr ns (k+1) bs ((d+1:Nat):Int) (.sh false (.int w))) (drp 4 f7.body)=.ret v->call pg (n+(d+1)+5) 7 [.err 0 (aR ns k),.lst (aD bs),.int ((d+1:Nat):Int)]=.ok (v.d,v.fr,v.pa):=λ{v} h=>by
     refine dM (F:=f7) (b:=_) rfl rfl rfl (v:=v) ?_
     show exs pg (call pg (n+d+5)) (fr ns k bs ((d+1:Nat):Int) .dead) _=_
     refine(stp e1).trans ((stp (σ':=fr ns (k+1) bs ((d+1:Nat):Int) (.sh false (.int w))) ?_).trans ((stp (σ':=fr ns (k+1) bs ((d+1:Nat):Int) (.sh false (.int w))) ?_).trans h))
     . rw[aS,t0,hw',aG];rfl
     . rw[aS,ht,aG];rfl
    by_cases h7:w<7
    . refine⟨.nt s,k1,s1,by show 1+s.sz+1<=_;omega,by omega,step (v:=.cl (.tup [Cn.d (.nt s),.err 0 (aR ns k1)])) (fZ ?_)⟩
      rw[aS,t7,Al h7,aG]
      exact fZ (jF (iW (cK (a:=.c (.str "not")) rfl) (cl1 s4)))
    . have p2:=aDg (a:= "both") (b:= "either") (v:=⟨.lst [.str "both",.str "either"],true,false,[]⟩) rfl (aAt w)
      have hwj:(if w % 2=0 then ("both" : Str) else "either")=mZ (decide (w % 2=0)):=by
       unfold mZ;by_cases h:w % 2=0 <;> simp[h]
      rw[hwj] at p2
      have ew:evl pg (call pg (n+d+5)) 0 (fr ns (k+1) bs ((d+1:Nat):Int) (.sh false (.int w))) (.e (.idx (.lst (.cons (.c (.str "both")) (.cons (.c (.str "either")) .nil))) (.op .Mod (.v 3) (.c (.int 2)))))=.ok (.cl (.str (mZ (decide (w % 2=0)))),fr ns (k+1) bs ((d+1:Nat):Int) (.sh false (.int w))):=by
       refine cK ?_
       simp only[fO,jP,aE,aY,eV,eB,bT,bV,fr,gS,gZ,bC,aC,tJ 2 (by decide),aHX,p2]
      refine⟨.two (decide (w % 2=0)) s t,k2,⟨s1,t1⟩,by show 1+s.sz+t.sz+1<=_;omega,by omega,step (v:=.cl (.tup [Cn.d (.two (decide (w % 2=0)) s t),.err 0 (aR ns k2)])) ((stp (σ':=fr ns (k+1) bs ((d+1:Nat):Int) (.sh false (.int w))) ?_).trans (fZ ?_))⟩
      . rw[aS,t7,Ao h7,aG];rfl
      . exact jF (nU ew (cl1 s4) (cl1 t4))
structure Way where
 g:Cn
 ps:List (Nat×Sm)
 nx:Int
def putD(p:Nat×Sm):D:=.tup [.int p.1,p.2.d]
def Way.d(w:Way):D:=.tup [w.g.d,.tup (w.ps.map putD),.int w.nx]
def Up(ps:List (Nat×Sm)):Prop:=ps.Pairwise λp q=>p.1<q.1
structure pH (m:Nat) (p:Nat×Sm):Prop where
 box:p.1<m
 wf:p.2.wf m true
 sz:p.2.sz<=3
structure rG (m:Nat) (w:Way):Prop where
 g:w.g.wf m true
 gs:w.g.sz<=31
 ps:∀p∈w.ps,pH m p
 up:Up w.ps
theorem tK(p:Nat×Sm):noL (putD p)=true:=aAn rfl p.2.noL
theorem eS(ps:List (Nat×Sm)):noLs (ps.map putD)=true:=pB tK ps
theorem kW(w:Way):noL w.d=true:=by simp[Way.d,noL,noLs,w.g.noL,eS]
theorem aEO(i:Nat){ds:List D}(h:noLs ds=true):biD .tuple [⟨.lst ds,false,false,[i]⟩]=.ok (.cl (.tup ds)):=by
 show R.ok (Vl.mk (.tup ds) false (false&&!noLs ds) (if noLs ds=true then [] else [i]))=_
 rw[h];rfl
theorem aEP{P:Pg}{cl:Caller}{σ σ1:Sg}{t:T}{e:EL}{b:Ss}{N:Nat}(I:Nat->Sg->Prop)(he:evl P cl 0 σ e=.ok (.cl (.int (N:Int)),σ1))(hN:N<=1000000)(h0:I 0 σ1)
 (hs:∀(i:Nat) (_:i<N) (σ:Sg),I i σ->∃σ1 σ',bJ σ (.cl (.int (i:Int))) t=.ok σ1/\exs P cl σ1 b=.next σ'/\I (i+1) σ'):∃σ',ex P cl σ (.forL t e b)=.next σ'/\I N σ':=by
 show ∃σ',O.from σ (evl P cl 0 σ e) _=.next σ'/\_
 rw[he,aG]
 show ∃σ',(if aH (N:Int) then cN (λσ x=>O.from σ (bJ σ x t) λσ'=>exs P cl σ' b) ((bY 0 (N:Int)).map .cl) σ1 else .bad)=.next σ'/\_
 rw[if_pos (gL hN),sX]
 obtain⟨σ',h1,h2⟩:=oW (f:=λσ x=>O.from σ (bJ σ x t) λσ'=>exs P cl σ' b) ((AO N).map λ(k:Nat)=>Vl.cl (.int (k:Int))) I σ1 h0 λi h σ hI=>by
  have hi:i<N:=by simpa using h
  obtain⟨σ2,σ',e1,e2,h'⟩:=hs i hi σ hI
  refine⟨σ',?_,h'⟩
  have:((AO N).map λ(k:Nat)=>Vl.cl (.int (k:Int)))[i]=.cl (.int (i:Int)):=by simp
  rw[this]
  show O.from σ (bJ σ _ t) _=_
  rw[e1]
  exact e2
 refine⟨σ',h1,?_⟩
 simpa using h2
theorem mul_str{a:Str}{k:Int}(h0:0<=k)(h1:k<=100)(ha:a.length<=100):opD .Mult (.cl (.str a)) (.cl (.int k))=.ok (.cl (.str (Str.rep a k.toNat))):=by
 show R.iff (aH k&&decide (a.length*k.toNat<=lim)) _=_
 have hs:aH k=true:=by
  unfold aH
  rw[Al (by omega),Al (by omega)];rfl
 have hl:a.length*k.toNat<=lim:=by
  have:a.length*k.toNat<=100*100:=Ev ha (by omega)
  unfold lim;omega
 rw[hs,Al hl];rfl
theorem aDi(bs:List (Str×Int))(b:Str×Int):mB (bs++[b])=mB bs*(b.2+1):=by
 unfold mB
 rw[AJ,List.foldl_append]
 rfl
structure Bo (i:Nat) (bs:List (Str×Int)) (room:Int):Prop where
 few:bs.length<=i
 one:∀b∈bs,1<=b.2/\b.2<=7
 r1:1<=room
 pr:room*mB bs<=12
 first:bs=[]->room=12/\i=0
theorem Bo.next{i:Nat}{bs:List (Str×Int)}{room:Int}(B:Bo i bs room)(h:1<room){top:Int}(h1:1<=top)(h7:top<=7)(x:Str):Bo (i+1) (bs++[(x,if room-1<top then room-1 else top)]) (room / (1+(if room-1<top then room-1 else top))):=by
 have ht:1<=(if room-1<top then room-1 else top)/\(if room-1<top then room-1 else top)<=7/\(if room-1<top then room-1 else top)<=room-1:=by split <;> omega
 revert ht
 generalize (if room-1<top then room-1 else top)=t
 intro ht
 have hp:1<=mB bs:=sY _ 1 (by omega) λy hy=>by
  obtain⟨b,hb,rfl⟩:=AH.mp hy
  have:=B.one b hb
  omega
 refine⟨by rw[lA,Bj];have:=B.few;omega,λb hb=>?_,?_,?_,λz=>?_⟩
 . rcases AS.mp hb with h|h
   . exact B.one b h
   . rw[A5.mp h]
     exact⟨ht.1,ht.2.1⟩
 . have:1*(1+t)<=room:=by omega
   exact(Int.le_ediv_iff_mul_le (by omega)).mpr this
 . rw[aDi]
   have h2:room / (1+t)*(1+t)<=room:=Int.ediv_mul_le _ (by omega)
   have h3:room / (1+t)*(1+t)*mB bs<=room*mB bs:=CU h2 (by omega)
   have e:room / (1+t)*(mB bs*(t+1))=room / (1+t)*(1+t)*mB bs:=by
    rw[Int.mul_comm (mB bs),Int.add_comm t 1,Int.mul_assoc]
   rw[e]
   have:=B.pr
   omega
 . have:=congrArg F4 z
   simp at this
abbrev bf(ns:List Int)(k:Nat)(bs:List (Str×Int))(room:Int)(s4 s5 s6:Sl):Sg:=[.lent (aR ns k),.sh true (.int 12),.own false (aD bs),.sh false (.int room),s4,s5,s6]
abbrev aEQ:Ss:=match hdS (drp 3 f5.body) with|.forL _ _ b=>b|_=>.nil
theorem aHZ{i:Nat}(h:i<4):∃x:Str,x.length<=1/\cG (.cl (.str "kxmbz")) (.cl (.int (i:Int)))=.ok (.cl (.str x)):=by
 have:i=0\/i=1\/i=2\/i=3:=by omega
 rcases this with rfl|rfl|rfl|rfl
 . exact⟨⟨#[107]⟩,by decide,rfl⟩
 . exact⟨⟨#[120]⟩,by decide,rfl⟩
 . exact⟨⟨#[109]⟩,by decide,rfl⟩
 . exact⟨⟨#[98]⟩,by decide,rfl⟩
theorem aDj(n:Nat){ns:List Int}{k:Nat}(hk:k<=100000){bs:List (Str×Int)}{room:Int}{i:Nat}(hi:i<4)(B:Bo i bs room)(s5 s6:Sl) :
 ∃(bs':List (Str×Int)) (room':Int) (k':Nat) (t5 t6:Sl),Bo (i+1) bs' room'/\k'<=k+3/\exs pg (call pg (n+2)) (bf ns k bs room (.sh false (.int i)) s5 s6) aEQ=.next (bf ns k' bs' room' (.sh false (.int i)) t5 t6):=by
 have x1:=eD n (ns:=ns) (k:=k) (by omega) (m:=3) (by decide) (c:=aR ns k) (r:=[.sh true (.int 12),.own false (aD bs),.sh false (.int room),.sh false (.int i),s5,s6]) (a:=.e (.c (.int 3))) (cK rfl)
 have rg:=cW ns k (m:=3) (by decide)
 obtain⟨q,hq,q0,q1⟩:∃q:Int,cG (⟨.lst [.int 2,.int 3,.int 7],false,false,[]⟩:Vl) (.cl (.int (nxt ns k 3)))=.ok (.cl (.int q))/\0<q/\q<=7:=by
  generalize nxt ns k 3=w at rg
  have:w=0\/w=1\/w=2:=by omega
  rcases this with rfl|rfl|rfl
  . exact⟨2,rfl,by decide,by decide⟩
  . exact⟨3,rfl,by decide,by decide⟩
  . exact⟨7,rfl,by decide,by decide⟩
 have xi:evl pg (call pg (n+2)) 0 (bf ns k bs room (.sh false (.int i)) s5 s6) (.idx (.e (.lst (.cons (.c (.int 2)) (.cons (.c (.int 3)) (.cons (.c (.int 7)) .nil))))) (.call 4 (.cons (.e (.c (.int 3))) .nil)))=.ok (.cl (.int q),bf ns (k+1) bs room (.sh false (.int i)) s5 s6):=by
  rw[tD]
  show(evl pg (call pg (n+2)) 0 (bf ns k bs room (.sh false (.int i)) s5 s6) (.call 4 (.cons (.e (.c (.int 3))) .nil)) >>= λy=>cG (⟨.lst [.int 2,.int 3,.int 7],false,false,[]⟩:Vl) y.1.nr >>= λz=>noAl z y.2)=_
  rw[x1]
  show(cG (⟨.lst [.int 2,.int 3,.int 7],false,false,[]⟩:Vl) (.cl (.int (nxt ns k 3))) >>= λz=>noAl z _)=_
  rw[hq];rfl
 have x2:=eD n (ns:=ns) (k:=k+1) (by omega) q0 (c:=aR ns k) (r:=[.sh true (.int 12),.own false (aD bs),.sh false (.int room),.sh false (.int i),s5,s6]) xi
 have rg2:=cW ns (k+1) q0
 generalize nxt ns (k+1) q=v at x2 rg2
 obtain⟨x,hx,ex6⟩:=aHZ hi
 have e1:ex pg (call pg (n+2)) (bf ns k bs room (.sh false (.int i)) s5 s6) (hdS aEQ)=.next (bf ns (k+2) bs room (.sh false (.int i)) (.sh false (.int (1+v))) s6):=by
  show O.from _ (evl pg (call pg (n+2)) 0 (bf ns k bs room (.sh false (.int i)) s5 s6) (.op .Add (.e (.c (.int 1))) _)) _=_
  rw[vY (cK rfl) x2 (add_int 1 v),aG]
  rfl
 have e2:ex pg (call pg (n+2)) (bf ns (k+2) bs room (.sh false (.int i)) (.sh false (.int (1+v))) s6) (hdS (drp 1 aEQ))=.next (bf ns (k+2) bs room (.sh false (.int i)) (.sh false (.int (1+v))) (.sh false (.str x))):=by
  show O.from _ (cG (.cl (.str "kxmbz")) (.cl (.int (i:Int)))) _=_
  rw[ex6,aG]
  rfl
 have t3:tst pg (call pg (n+2)) (bf ns (k+2) bs room (.sh false (.int i)) (.sh false (.int (1+v))) (.sh false (.str x))) (.cmp .Gt (.v 3) (.c (.int 1)))=.ok (decide (1<room)):=rfl
 by_cases hr:1<room
 . have x3:=eD n (ns:=ns) (k:=k+2) (by omega) (m:=8) (by decide) (c:=aR ns (k+2)) (r:=[.sh true (.int 12),.own false (aD bs),.sh false (.int room),.sh false (.int i),.sh false (.int (1+v)),.sh false (.str x)]) (a:=.e (.c (.int 8))) (cK rfl)
   have rg3:=cW ns (k+2) (m:=8) (by decide)
   generalize nxt ns (k+2) 8=u at x3 rg3
   have em:∀k bs,ev pg (call pg (n+2)) (bf ns k bs room (.sh false (.int i)) (.sh false (.int (1+v))) (.sh false (.str x))) (.bi .min (.cons (.v 5) (.cons (.op .Sub (.v 3) (.c (.int 1))) .nil)))=.ok (.cl (.int (if room-1<1+v then room-1 else 1+v))):=λ_ _=>rfl
   have B':=B.next hr (top:=1+v) (by omega) (by omega) (Str.rep x (1+u).toNat)
   have ht:1<=(if room-1<1+v then room-1 else 1+v)/\(if room-1<1+v then room-1 else 1+v)<=7:=by split <;> omega
   revert ht B' em
   generalize (if room-1<1+v then room-1 else 1+v)=w
   intro em B' ht
   refine⟨bs++[(Str.rep x (1+u).toNat,w)],room / (1+w),k+3,.sh false (.int (1+v)),.sh false (.str x),B',by omega,?_⟩
   refine(stp e1).trans ((stp e2).trans (stp ?_))
   rw[aS,t3,Al hr,aG]
   have et:=iW (vY (cK (P:=pg) (cl:=call pg (n+2)) (l:=0) (σ:=bf ns (k+2) bs room (.sh false (.int i)) (.sh false (.int (1+v))) (.sh false (.str x))) (a:=.v 6) (d:=.str x) rfl) (vY (cK (a:=.c (.int 1)) rfl) x3 (add_int 1 u)) (mul_str (by omega) (by omega) (by omega))) (cK (em (k+3) bs))
   have hll:(aD bs++[box (Str.rep x (1+u).toNat,w)]).length<=lim:=by
    rw[lA,Bj,aD,lM];have:=B.few;unfold lim;omega
   have e3:ex pg (call pg (n+2)) (bf ns (k+2) bs room (.sh false (.int i)) (.sh false (.int (1+v))) (.sh false (.str x))) (.appL 2 0 (.tup (.cons (.op .Mult (.e (.v 6)) (.op .Add (.e (.c (.int 1))) (.call 4 (.cons (.e (.c (.int 8))) .nil)))) (.cons (.e (.bi .min (.cons (.v 5) (.cons (.op .Sub (.v 3) (.c (.int 1))) .nil)))) .nil))))=.next (bf ns (k+3) (bs++[(Str.rep x (1+u).toNat,w)]) room (.sh false (.int i)) (.sh false (.int (1+v))) (.sh false (.str x))):=by
    rw[aAo]
    show O.from _ (evl pg (call pg (n+2)) 0 (bf ns (k+2) bs room (.sh false (.int i)) (.sh false (.int (1+v))) (.sh false (.str x))) _) _=_
    rw[et,aG]
    show(if (aD bs++[box (Str.rep x (1+u).toNat,w)]).length<=lim then O.next ((bf ns (k+3) bs room (.sh false (.int i)) (.sh false (.int (1+v))) (.sh false (.str x))).set 2 _) else O.bad)=_
    rw[if_pos hll]
    simp[bf,aD]
    exact⟨rfl,rfl⟩
   have dv:opD .FloorDiv (.cl (.int room)) (.cl (.int (1+w)))=.ok (.cl (.int (room / (1+w)))):=tB (by
    unfold uI
    rw[Al (by omega),Al (by omega)];rfl)
   refine(stp e3).trans (stp ?_)
   show O.from _ (ev pg (call pg (n+2)) (bf ns (k+3) (bs++[(Str.rep x (1+u).toNat,w)]) room (.sh false (.int i)) (.sh false (.int (1+v))) (.sh false (.str x))) (.op .FloorDiv (.v 3) (.op .Add (.c (.int 1)) _))) _=_
   rw[eV,eV,em]
   show O.from _ (opD .FloorDiv (.cl (.int room)) (.cl (.int (1+w)))) _=_
   rw[dv,aG]
   rfl
 . refine⟨bs,room,k+2,.sh false (.int (1+v)),.sh false (.str x),⟨by have:=B.few;omega,B.one,B.r1,B.pr,λz=>?_⟩,by omega,(stp e1).trans ((stp e2).trans (stp (σ':=bf ns (k+2) bs room (.sh false (.int i)) (.sh false (.int (1+v))) (.sh false (.str x))) ?_))⟩
   . have:=(B.first z).1
     omega
   . rw[aS,t3,Ao hr,aG]
     rfl
theorem aBo(n:Nat)(ns:List Int):∃(bs:List (Str×Int)) (k:Nat),aLP bs/\1<=bs.length/\bs.length<=4/\k<=100/\call pg (n+3) 5 [.err 0 (aR ns 0),.int 12]=.ok (.tup [.lst (aD bs),.err 0 (aR ns k)],true,false):=by
 have x0:=eD n (ns:=ns) (k:=0) (by omega) (m:=4) (by decide) (c:=aR ns 0) (r:=[.sh true (.int 12),.own false [],.sh false (.int 12),.dead,.dead,.dead]) (a:=.e (.c (.int 4))) (cK rfl)
 have rg:=cW ns 0 (m:=4) (by decide)
 generalize nxt ns 0 4=w at x0 rg
 have he:=vY (cK (P:=pg) (cl:=call pg (n+2)) (l:=0) (σ:=bf ns 0 [] 12 .dead .dead .dead) (a:=.c (.int 1)) (d:=.int 1) rfl) x0 (add_int 1 w)
 have hN:(1+w:Int)=(((1+w).toNat:Nat):Int):=by omega
 rw[hN] at he
 have hN4:1<=(1+w).toNat/\(1+w).toNat<=4:=by omega
 revert hN4 he
 generalize (1+w).toNat=N
 intro he hN4
 obtain⟨σ',ef,bs,room,k,s4,s5,s6,B,hk,hσ⟩:=aEP (t:=.n 4) (b:=aEQ) (λi σ=>∃(bs:List (Str×Int)) (room:Int) (k:Nat) (s4 s5 s6:Sl),Bo i bs room/\k<=1+3*i/\σ=bf ns k bs room s4 s5 s6) he (by omega)
  ⟨[],12,1,_,_,_,⟨Aj _,λb h=>absurd h BF,by decide,by decide,λ_=>⟨rfl,rfl⟩⟩,Aj _,rfl⟩ λi hi σ ⟨bs,room,k,s4,s5,s6,B,hk,hσ⟩=>by
   obtain⟨bs',room',k',t5,t6,B',hk',eb⟩:=aDj n (ns:=ns) (k:=k) (by omega) (show i<4 by omega) B s5 s6
   refine⟨bf ns k bs room (.sh false (.int i)) s5 s6,_,?_,eb,bs',room',k',_,t5,t6,B',by omega,rfl⟩
   rw[hσ,fV]
   simp[bf]
 subst hσ
 have hp:1<=mB bs:=sY _ 1 (by omega) λy hy=>by
  obtain⟨b,hb,rfl⟩:=AH.mp hy
  have:=B.one b hb
  omega
 have hl:1<=bs.length:=by
  cases bs with
  | nil=>have:=(B.first rfl).2;omega
  | cons _ _=>simp
 have hpr:mB bs<=12:=by
  have:=CU B.r1 (show 0<=mB bs by omega)
  have:=B.pr
  omega
 refine⟨bs,k,⟨by have:=B.few;omega,B.one,Fk hpr (by decide)⟩,hl,by have:=B.few;omega,by omega,?_⟩
 refine dM (F:=f5) (b:=_) rfl rfl rfl (v:=⟨.tup [.lst (aD bs),.err 0 (aR ns k)],true,false,[]⟩) ?_
 show exs pg (call pg (n+2)) [.lent (aR ns 0),.sh true (.int 12),.dead,.dead,.dead,.dead,.dead] _=_
 refine(stp (σ':=[.lent (aR ns 0),.sh true (.int 12),.own false [],.dead,.dead,.dead,.dead]) rfl).trans ((stp (σ':=bf ns 0 [] 12 .dead .dead .dead) rfl).trans ((stp ef).trans (fZ rfl)))
section
variable {P:Pg} {cl:Caller} {σ:Sg}
theorem aDk(σ:Sg){i:Nat}{d:D}:bJ σ (.cl d) (.n i)=.ok (σ.set i (.sh false d)):=by rw[fV,cC]
theorem aAu{f:Nat}{a b c:E}{x y z:Vl}{k:Bool}(h1:ev P cl σ a=.ok x)(h2:ev P cl σ b=.ok y)(h3:ev P cl σ c=.ok z)(hc:cl f [x.d,y.d,z.d]=.ok (.bl k,false,false)):tst P cl σ (.call f (.cons a (.cons b (.cons c .nil))))=.ok k:=by
 have e:evs P cl σ (.cons a (.cons b (.cons c .nil)))=.ok [x,y,z]:=by rw[aE,h1,aC,aE,h2,aC,aE,h3,aC,aY];rfl
 rw[vP,e,aC,show [x,y,z].map (·.d)=[x.d,y.d,z.d] from rfl,hc];rfl
theorem jK{a:E}{k:Bool}(h:tst P cl σ a=.ok k):tst P cl σ (.nt a)=.ok (!k):=by rw[yF,h];rfl
theorem kZ{f:Nat}{a b:E}{x y:Vl}{d:D}(h1:ev P cl σ a=.ok x)(h2:ev P cl σ b=.ok y)(hc:cl f [x.d,y.d]=.ok (d,false,false)):ev P cl σ (.call f (.cons a (.cons b .nil)))=.ok (.cl d):=by
 have e:evs P cl σ (.cons a (.cons b .nil))=.ok [x,y]:=by rw[aE,h1,aC,aE,h2,aC,aY];rfl
 rw[cV,e,aC,show [x,y].map (·.d)=[x.d,y.d] from rfl,hc];rfl
theorem mI{a b c:E}{x y z:D}(h1:ev P cl σ a=.ok (.cl x))(h2:ev P cl σ b=.ok (.cl y))(h3:ev P cl σ c=.ok (.cl z)):ev P cl σ (.tup (.cons a (.cons b (.cons c .nil))))=.ok (.cl (.tup [x,y,z])):=by
 rw[yE,aE,h1,aC,aE,h2,aC,aE,h3];rfl
end
theorem aKz{v:Vl}{α:Type}{f:α->D}{xs:List α}{k:Nat}{x:α}(hv:v.d=.lst (xs.map f))(hx:xs[k]? = some x):cG v (.cl (.int (k:Int)))=.ok (Vl.sub v (f x)):=by
 have hk:k<(xs.map f).length:=by rw[lM];exact(Aw.mp hx).1
 have e:(xs.map f)[k]? = some (f x):=by rw[A4,hx];rfl
 unfold cG
 simp only[hv,cQ,kO hk,e]
section
variable {P:Pg} {cl:Caller} {σ σ':Sg}
theorem aKA{i:Nat}{e:E}{v:Vl}{pa:Bool}{ds:List D}(h:ev P cl σ e=.ok v)(hi:(freeze σ v.al)[i]? = some (.own pa ds))(hl:ds.length<lim):ex P cl σ (.app i e)=.next ((freeze σ v.al).set i (.own (pa||v.pa) (ds++[v.d]))):=by
 have ll:(ds++[v.d]).length<=lim:=by rw[lA];exact hl
 rw[aHT,h,aG]
 unfold put hZ
 rw[hi]
 show(if (ds++[v.d]).length<=lim then O.next _ else .bad)=_
 rw[if_pos ll]
theorem yJ{i:Nat}{e:E}{v:Vl}{ds ds':List D}(h:ev P cl σ e=.ok v)(hi:(freeze σ v.al)[i]? = some (.own false ds))(hl:ds.length<lim)(hp:v.pa=false)(he:ds'=ds++[v.d]):ex P cl σ (.app i e)=.next ((freeze σ v.al).set i (.own false ds')):=by
 rw[aKA h hi hl,hp,he];rfl
theorem aDl{i:Nat}{e:E}{ds:List D}(h:ev P cl σ e=.ok ⟨.lst ds,true,false,[]⟩):ex P cl σ (.set (.n i) e)=.next (σ.set i (.own false ds)):=by
 rw[dI,h];rfl
theorem aKB{c:E}{a b:Ss}(h:tst P cl σ c=.ok true)(r:exs P cl σ a=.next σ'):ex P cl σ (.iff c a b)=.next σ':=by
 rw[aS,h,aG,if_pos rfl,r]
theorem aMd{a b:E}{x y:Bool}(h1:tst P cl σ a=.ok x)(h2:tst P cl σ b=.ok y):tst P cl σ (.an a b)=.ok (x&&y):=by
 rw[yG,h1,aC];cases x
 . rfl
 . exact h2
theorem eU{o:CmpOp}{a b:E}{x y:Vl}{k:Bool}(h:ev P cl σ a=.ok x)(g:ev P cl σ b=.ok y)(e:bL o x.d y.d=some k):tst P cl σ (.cmp o a b)=.ok k:=by rw[bP,h,aC,g,aC,e]
end
theorem aMe{P:Pg}{cl:Caller}{σ:Sg}{s:S}{ss:Ss}{v:Vl}(h:ex P cl σ s=.ret v):exs P cl σ (.cons s ss)=.ret v:=by rw[bO,h];rfl
theorem cE{P:Pg}{cl:Caller}{σ:Sg}{f:Nat}{a:E}{x:Vl}{d:D}{fr:Bool}(h1:ev P cl σ a=.ok x)(hc:cl f [x.d]=.ok (d,fr,false)):ev P cl σ (.call f (.cons a .nil))=.ok ⟨d,fr,false,[]⟩:=by
 have e:evs P cl σ (.cons a .nil)=.ok [x]:=by rw[aE,h1];rfl
 rw[cV,e,aC,show [x].map (·.d)=[x.d] from rfl,hc];rfl
section
variable {P:Pg} {cl:Caller} {σ σ':Sg}
theorem nA{a b:E}{k:Bool}(h:tst P cl σ a=.ok false)(g:tst P cl σ b=.ok k):tst P cl σ (.orr a b)=.ok k:=by rw[eN,h,aC,if_neg bN,g]
theorem dB{f:Nat}{a b c:E}{x y z:Vl}{d:D}(h1:ev P cl σ a=.ok x)(h2:ev P cl σ b=.ok y)(h3:ev P cl σ c=.ok z)(hc:cl f [x.d,y.d,z.d]=.ok (d,true,false)):ev P cl σ (.call f (.cons a (.cons b (.cons c .nil))))=.ok ⟨d,true,false,[]⟩:=by
 have e:evs P cl σ (.cons a (.cons b (.cons c .nil)))=.ok [x,y,z]:=by rw[aE,h1,aC,aE,h2,aC,aE,h3,aC,aY];rfl
 rw[cV,e,aC,show [x,y,z].map (·.d)=[x.d,y.d,z.d] from rfl,hc];rfl
theorem aDm{f:Nat}{a b:E}{x y:Vl}{d:D}(h1:ev P cl σ a=.ok x)(h2:ev P cl σ b=.ok y)(hc:cl f [x.d,y.d]=.ok (d,true,false)):ev P cl σ (.call f (.cons a (.cons b .nil)))=.ok ⟨d,true,false,[]⟩:=by
 have e:evs P cl σ (.cons a (.cons b .nil))=.ok [x,y]:=by rw[aE,h1,aC,aE,h2,aC,aY];rfl
 rw[cV,e,aC,show [x,y].map (·.d)=[x.d,y.d] from rfl,hc];rfl
theorem aAv{f:Nat}{a b c e g:E}{x y z w u:Vl}{d:D}(h1:ev P cl σ a=.ok x)(h2:ev P cl σ b=.ok y)(h3:ev P cl σ c=.ok z)(h4:ev P cl σ e=.ok w)(h5:ev P cl σ g=.ok u)(hc:cl f [x.d,y.d,z.d,w.d,u.d]=.ok (d,false,false)):ev P cl σ (.call f (.cons a (.cons b (.cons c (.cons e (.cons g .nil))))))=.ok (.cl d):=by
 have e:evs P cl σ (.cons a (.cons b (.cons c (.cons e (.cons g .nil)))))=.ok [x,y,z,w,u]:=by rw[aE,h1,aC,aE,h2,aC,aE,h3,aC,aE,h4,aC,aE,h5,aC,aY];rfl
 rw[cV,e,aC,show [x,y,z,w,u].map (·.d)=[x.d,y.d,z.d,w.d,u.d] from rfl,hc];rfl
end
theorem aKC{p q:Prop}[Decidable p][Decidable q](h:¬ (p/\q)):(decide p&&decide q)=false:=by
 cases z:(decide p&&decide q) with
 | false=>rfl
 | true=>simp only[bA,A7] at z;exact absurd z h
abbrev lB(ws:List Way):D:=.lst (ws.map Way.d)
abbrev aF(h:List (List Way)):List D:=h.map lB
structure lD (m e:Nat) (ws:List Way):Prop where
 one:1<=ws.length
 few:ws.length<=4
 ok:∀w∈ws,rG m w/\0<=w.nx/\w.nx<(e:Int)+1
structure tL (m:Nat) (h:List (List Way)):Prop where
 few:h.length<=8
 ok:∀ws∈h,lD m h.length ws
theorem vZ{α:Type}{P:α->Prop}{l:List α}{x:α}(h:∀y∈l,P y)(hx:P x):∀y∈l++[x],P y:=λy hy=>by
 rcases AS.mp hy with z|z
 . exact h y z
 . rw[A5.mp z];exact hx
section
variable {P:Pg} {cl:Caller} {σ:Sg}
theorem wB{e:E}{v:Vl}(h:ev P cl σ e=.ok v):ex P cl σ (.ex e)=.next σ:=by rw[aFD,h];rfl
theorem aFE{b:Ss}{σ':Sg}(h:exs P cl σ b=.next σ'):ex P cl σ (.tryN b)=.next σ':=h
theorem pI{s:S}{σ':Sg}(h:ex P cl σ s=.next σ'):exs P cl σ (.cons s .nil)=.next σ':=cs h rfl
theorem yK{i:Nat}{d:D}{ss:Ss}(h:σ[i]? = some (.sh true d))(n:noL d=true):exs P cl σ (.cons (.retv i) ss)=.ret (.cl d):=by
 refine aMe ?_
 show(match σ[i]? with|some (.own pa ds)=>O.ret ⟨.lst ds,true,pa,[]⟩|_=>O.from σ (bV σ i) .ret)=_
 unfold bV
 rw[h]
 show O.from σ (Sl.val i (.sh true d)) .ret=_
 rw[fF i true n]
 rfl
theorem nB{a:E}{cs:List Cl}{v:Vl}{k:Bool}(h:ev P cl σ a=.ok v)(e:isI cs P v.d=some k):tst P cl σ (.isi a cs)=.ok k:=by
 show(ev P cl σ a >>= λx=>(match isI cs P x.d with|some k=>R.ok k|none=>.bad))=_
 rw[h,aC,e]
theorem iJ(i:Nat){d:D}(h:σ[i]? = some (.sh true d))(n:noL d=true):ev P cl σ (.v i)=.ok (.cl d):=by
 show bV σ i=_
 unfold bV
 rw[h]
 exact fF i true n
theorem eH(i:Nat){ds:List D}(h:σ[i]? = some (.sh true (.lst ds))):ev P cl σ (.v i)=.ok ⟨.lst ds,false,true,[]⟩:=by
 show bV σ i=_
 unfold bV
 rw[h]
 rfl
end
variable {bs:List (Str×Int)}
theorem wC(n:Nat){q:Cn}(w:q.wf bs.length true)(z:q.sz<=31):call pg (n+35) 17 [.lst (aD bs),q.d,.bl true]=.ok (q.d,false,false):=by
 have c1:=kU (P:=pg) (wh:=14) (wi:=15) (ch:=20) (fo:=19) (lo:=18) rfl rfl rfl rfl rfl rfl rfl (bs:=aD bs) (lM _) q (n+31-q.sz) 0 w (by omega)
 rw[show n+31-q.sz+3+q.sz=n+34 by omega] at c1
 exact aM (F:=f17) rfl rfl (v:=.cl q.d) (cs (wB (aAv (eH 0 rfl) (bT _) (iJ 1 rfl q.noL) (iJ 2 rfl rfl) (bT _) c1)) (yK rfl q.noL))
theorem yL(n:Nat){s:Sm}(w:s.wf bs.length true)(z:s.sz<=3):call pg (n+7) 16 [.lst (aD bs),s.d,.bl true]=.ok (s.d,false,false):=by
 have c1:=kQ (P:=pg) (wh:=14) (wi:=15) (ch:=20) (fo:=19) (lo:=18) rfl rfl rfl rfl rfl rfl (bs:=aD bs) (lM _) s (n+3-s.sz) 0 w (by omega)
 rw[show n+3-s.sz+3+s.sz=n+6 by omega] at c1
 exact aM (F:=f16) rfl rfl (v:=.cl s.d) (cs (wB (aAv (eH 0 rfl) (bT _) (iJ 1 rfl s.noL) (iJ 2 rfl rfl) (bT _) c1)) (yK rfl s.noL))
theorem aBp(n:Nat){q:Cn}(w:q.wf bs.length true)(z:q.sz<=31):call pg (n+36) 24 [.lst (aD bs),q.d]=.ok (.non,false,false):=
 fX (F:=f24) rfl rfl (pI (aFE (pI (wB (nT (eH 0 rfl) (iJ 1 rfl q.noL) (bT _) (wC n w z))))))
theorem aER(n:Nat){p:Nat×Sm}(o:pH bs.length p){l:Nat}(hl:l<=p.1):call pg (n+8) 26 [.lst (aD bs),putD p,.int l]=.ok (.non,false,false):=by
 have hb:=o.box
 have c1:=mF (P:=pg) (wh:=14) (wi:=15) rfl rfl (n+5) p.1 l ((bs.length:Int)-1) (by omega) (by omega)
 refine fX (F:=f26) rfl rfl (σ:=[.sh true (.lst (aD bs)),.sh true (putD p),.sh true (.int l)]) ?_
 show exs pg (call pg (n+7)) [.sh true (.lst (aD bs)),.sh true (putD p),.sh true (.int l)] f26.body=_
 have v0:=eH (P:=pg) (cl:=call pg (n+7)) (σ:=[.sh true (.lst (aD bs)),.sh true (putD p),.sh true (.int l)]) 0 rfl
 have v1:=iJ (P:=pg) (cl:=call pg (n+7)) (σ:=[.sh true (.lst (aD bs)),.sh true (putD p),.sh true (.int l)]) 1 rfl (tK p)
 have v3:=eC (o:=.Sub) (fW (b:=.len) v0 (cP _ _ _ _)) (bT (.int 1)) (sub_int _ 1)
 rw[show(aD bs).length=bs.length from lM _] at v3
 have k2:=dW (a:=.cons (.rse 3 false (.cons (.c (.str "puts are of the boxes' numbers, rising, each once")) .nil)) .nil) (jK (aAu (aX v1 (bT _) (aDa _ _ rfl)) (iJ 2 rfl rfl) v3 c1))
 exact cs (dW (nA (jK (nB v1 rfl)) (eU (fW v1 (iU _)) (bT _) rfl))) (cs k2 (pI (aFE (pI (wB (nT v0 (aX v1 (bT _) (aKt _ _ _ p.2.noL)) (bT _) (yL n o.wf o.sz)))))))
theorem yM{v:Vl}(ps:List (Nat×Sm)):items v (ps.map putD)=ps.map λp=>Vl.cl (putD p):=mE tK ps
abbrev pf(bs:List (Str×Int))(ps:List (Nat×Sm))(s t:Sl):Sg:=[.sh true (.lst (aD bs)),.sh true (.tup (ps.map putD)),s,t]
theorem aDn(n:Nat){ps:List (Nat×Sm)}(o:∀p∈ps,pH bs.length p)(up:Up ps):call pg (n+9) 25 [.lst (aD bs),.tup (ps.map putD)]=.ok (.non,false,false):=by
 have v1:∀s t,ev pg (call pg (n+8)) (pf bs ps s t) (.v 1)=.ok (.cl (.tup (ps.map putD))):=λs t=>iJ 1 rfl (eS ps)
 have hw:walk pg (call pg (n+8)) (pf bs ps (.sh false (.int 0)) .dead) (.seq (.v 1))=.ok (ps.map λp=>Vl.cl (putD p),[]):=by
  rw[iI,v1,aC]
  show R.ok (items _ (ps.map putD),[])=_
  rw[yM]
 obtain⟨σ',e3,_⟩:=fP (P:=pg) (cl:=call pg (n+8)) (t:=.n 3) (b:=match hdS (drp 2 f25.body) with|.for _ _ b=>b|_=>.nil) (λi σ=>∃(l:Nat) (t:Sl),(∀p∈ps.drop i,l<=p.1)/\σ=pf bs ps (.sh false (.int l)) t) hw ⟨0,.dead,λ_ _=>BD _,rfl⟩ λi hi σ ⟨l,t,hl,hσ⟩=>by
  have hi':i<ps.length:=by simpa using hi
  subst hσ
  have hd:=Bs hi'
  rw[hd] at hl
  have v3:ev pg (call pg (n+8)) (pf bs ps (.sh false (.int l)) (.sh false (putD ps[i]))) (.v 3)=.ok (.cl (putD ps[i])):=bC 3 _
  refine⟨pf bs ps (.sh false (.int l)) (.sh false (putD ps[i])),pf bs ps (.sh false (.int ((ps[i].1+1:Nat):Int))) (.sh false (putD ps[i])),?_,cs (wB (nT (eH 0 rfl) v3 (bC 2 _) (aER n (o _ (A9 hi')) (hl _ Aq)))) (pI (jE (eC (aX v3 (bT _) (aDa _ _ rfl)) (bT _) (add_int _ 1)))),ps[i].1+1,_,λp hp=>?_,rfl⟩
  . rw[Bm,aDk];rfl
  . have:=(List.pairwise_cons.mp (by rw[<-hd];exact GN (List.drop_sublist _ _) up)).1 p hp
    exact this
 exact fX (F:=f25) rfl rfl (cs (dW (jK (nB (v1 _ _) rfl))) (cs (jE (bT _)) (pI e3)))
theorem yN(n:Nat){w:Way}(o:rG bs.length w){e:Nat}(hx:0<=w.nx/\w.nx<(e:Int)+1):call pg (n+37) 23 [.lst (aD bs),w.d,.int e]=.ok (w.d,false,false):=by
 have v0:=eH (P:=pg) (cl:=call pg (n+36)) (σ:=[.sh true (.lst (aD bs)),.sh true w.d,.sh true (.int e)]) 0 rfl
 have v1:=iJ (P:=pg) (cl:=call pg (n+36)) (σ:=[.sh true (.lst (aD bs)),.sh true w.d,.sh true (.int e)]) 1 rfl (kW w)
 have c1:=mF (P:=pg) (wh:=14) (wi:=15) rfl rfl (n+34) w.nx 0 e hx.1 (by omega)
 have k1:=dW (a:=.cons (.rse 3 false (.cons (.c (.str "a way is a tuple (guard, puts, next)")) .nil)) .nil) (nA (jK (nB (cs:=[.tTuple]) (k:=true) v1 rfl)) (eU (o:=.NotEq) (k:=false) (fW (b:=.len) v1 (iU _)) (bT (.int 3)) rfl))
 have k4:=dW (a:=.cons (.rse 3 false (.cons (.c (.str "a way's next is a place of the hand")) .nil)) .nil) (jK (aAu (aX v1 (bT (.int 2)) (aLV _ _ _ _ rfl)) (bT (.int 0)) (iJ 2 rfl rfl) c1))
 exact aM (F:=f23) rfl rfl (v:=.cl w.d) (cs k1 (cs (wB (kZ v0 (aX v1 (bT (.int 0)) (aDa _ _ w.g.noL)) (aBp n o.g o.gs))) (cs (wB (kZ v0 (aX v1 (bT (.int 1)) (aKt _ _ _ (eS w.ps))) (aDn (n+27) o.ps o.up))) (cs k4 (yK rfl (kW w))))))
section
variable {P:Pg} {cl:Caller} {σ:Sg}
theorem aKD{a b c:E}{x y z:Int}(h1:ev P cl σ a=.ok (.cl (.int x)))(h2:ev P cl σ b=.ok (.cl (.int y)))(h3:ev P cl σ c=.ok (.cl (.int z)))(p:x<=y)(q:y<=z):tst P cl σ (.cmp2 .LtE .LtE a b c)=.ok true:=by
 rw[aCV,h1,aC,h2,aC]
 show(match some (decide (x<=y)) with|some true=>ev P cl σ c >>= λz=>(match bL .LtE (.int y) z.d with|some k=>R.ok k|none=>.bad)|some false=>.ok false|none=>.bad)=_
 rw[Al p]
 show(ev P cl σ c >>= λz=>(match bL .LtE (.int y) z.d with|some k=>R.ok k|none=>.bad))=_
 rw[h3,aC]
 show(match some (decide (y<=z)) with|some k=>R.ok k|none=>.bad)=_
 rw[Al q]
end
theorem aAw{α:Type}(k:Nat)(caps:List Nat)(f:α->D):∀h:List α,hG k caps [] (h.map λx=>Vl.mk (f x) true false [])=⟨.lst (h.map f),true,false,[]⟩:=λh=>by
 have e1:(h.map λx=>Vl.mk (f x) true false []).map (·.d)=h.map f:=by rw[Bc];rfl
 have e2:aT (h.map λx=>Vl.mk (f x) true false [])=false:=by
  induction h with
  | nil=>rfl
  | cons x h ih=>
   unfold aT at ih ⊢
   rw[mC,List.any_cons,ih (by rw[Bc];rfl)];rfl
 have e3:bS (h.map λx=>Vl.mk (f x) true false [])=[]:=by
  clear e1 e2
  induction h with
  | nil=>rfl
  | cons x h ih=>
   unfold bS at ih ⊢
   rw[mC,List.flatMap_cons,ih];rfl
 unfold hG
 rw[e1,e2,e3]
 split <;> rfl
variable {bs:List (Str×Int)}
theorem yO(n:Nat){ws:List Way}{e:Nat}(o:lD bs.length e ws):call pg (n+38) 22 [.lst (aD bs),lB ws,.int e]=.ok (lB ws,true,false):=by
 have v1:=eH (P:=pg) (cl:=call pg (n+37)) (σ:=[.sh true (.lst (aD bs)),.sh true (lB ws),.sh true (.int e)]) 1 rfl
 have hl:=fW (b:=.len) v1 (cP _ _ _ _)
 rw[lM] at hl
 have k1:=dW (a:=.cons (.rse 3 false (.cons (.c (.str "a row is a list of one to four ways")) .nil)) .nil) (nA (jK (nB (cs:=[.tList]) (k:=true) v1 rfl)) (jK (aKD (bT (.int 1)) hl (bT (.int 4)) (by have:=o.one;omega) (by have:=o.few;omega))))
 refine aM (F:=f22) rfl rfl (v:=⟨lB ws,true,false,[]⟩) (cs k1 (cX (aCY (ts:=ws) (al:=[]) (λw=>Vl.cl w.d) Way.d kW ?_ (by have:=o.few;unfold lim;omega) λw hw=>⟨[.sh false w.d,.sh true (.lst (aD bs)),.sh true (.int e)],?_,nT (eH 1 rfl) (bC 0 _) (iJ 2 rfl rfl) (yN n (o.ok w hw).1 (o.ok w hw).2)⟩)))
 . rw[iI,v1,aC]
   show R.ok (items _ (ws.map Way.d),[])=_
   rw[mE kW]
 . rw[aDk];rfl
theorem wD(n:Nat){h:List (List Way)}(o:tL bs.length h):call pg (n+39) 21 [.lst (aD bs),.lst (aF h)]=.ok (.lst (aF h),true,false):=by
 have v1:=eH (P:=pg) (cl:=call pg (n+38)) (σ:=[.sh true (.lst (aD bs)),.sh true (.lst (aF h))]) 1 rfl
 have hl:=fW (b:=.len) v1 (cP _ _ _ _)
 rw[lM] at hl
 have k1:=dW (a:=.cons (.rse 3 false (.cons (.c (.str "a hand is a list of none to eight rows")) .nil)) .nil) (nA (jK (nB (cs:=[.tList]) (k:=true) v1 rfl)) (eU (o:=.Gt) (k:=false) hl (bT (.int 8)) (congrArg some (Ao (by have:=o.few;omega)))))
 have hc:ev pg (call pg (n+38)) [.sh true (.lst (aD bs)),.sh true (.lst (aF h))] (.comp 1 [0,1] (.n 0) (.seq (.v 1)) .nil (.call 22 (.cons (.v 1) (.cons (.v 0) (.cons (.bi .len (.cons (.v 2) .nil)) .nil)))))=.ok ⟨.lst (aF h),true,false,[]⟩:=by
  rw[aAh (xs:=h.map λws=>⟨lB ws,false,true,[]⟩) (al:=[]) (λx=>⟨x.d,true,false,[]⟩) ?_ (by rw[lM];have:=o.few;unfold lim;omega) λx hx=>?_]
  . rw[Bc]
    exact congrArg R.ok (aAw 1 [0,1] lB h)
  . rw[iI,v1,aC]
    show R.ok (items _ (aF h),[])=_
    unfold items
    rw[Bc]
    rfl
  . obtain⟨ws,hw,rfl⟩:=AH.mp hx
    have l2:=fW (b:=.len) (eH (P:=pg) (cl:=call pg (n+38)) (σ:=[.sh true (lB ws),.sh true (.lst (aD bs)),.sh true (.lst (aF h))]) 2 rfl) (cP _ _ _ _)
    rw[lM] at l2
    exact⟨[.sh true (lB ws),.sh true (.lst (aD bs)),.sh true (.lst (aF h))],rfl,dB (eH 1 rfl) (eH 0 rfl) l2 (yO n (o.ok ws hw))⟩
 exact aM (F:=f21) rfl rfl (v:=⟨.lst (aF h),true,false,[]⟩) (cs k1 (cX hc))
def okE:Nat->D->Bool
 | 0,_=>false
 | n+1,d=>match d with
  | .tup ds=>ds.all (okE n)
  | .lst ds=>ds.all (okE n)
  | .dic _=>false
  | .err _ _=>false
  | _=>true
theorem pJ:∀(n:Nat) (d:D),okE n d=true->eqF n d d=some true
 | 0,_,h=>by cases h
 | n+1,d,h=>by
  have hs:∀ds:List D,ds.all (okE n)=true->fK n ds ds=some true:=λds=>by
   induction ds with
   | nil=>intro _;rfl
   | cons x r ih=>
    intro h
    rw[C6,bA] at h
    unfold fK
    rw[pJ n x h.1,ih h.2]
    rfl
  cases d with
  | non=>rfl
  | bl b=>exact congrArg some (beq_self_eq_true b)
  | int i=>exact congrArg some (beq_self_eq_true i)
  | str s=>exact congrArg some (beq_self_eq_true s)
  | tup ds=>
   show eqL (eqF n) ds ds=_
   rw[xL,hs ds h]
  | lst ds=>
   show(if ds.length=ds.length then eqL (eqF n) ds ds else some false)=_
   rw[if_pos rfl,xL,hs ds h]
  | dic _=>cases h
  | err _ _=>cases h
theorem mJ:∀(s:Sm) (n:Nat),okE (n+s.sz+1) s.d=true
 | .num _,n=>rfl
 | .box _,n=>rfl
 | .aft _,n=>rfl
 | .two p a b,n=>by
  have e1:=mJ a (n+b.sz)
  have e2:=mJ b (n+a.sz)
  rw[show n+b.sz+a.sz+1=n+a.sz+b.sz+1 by omega] at e1
  show okE (n+(1+a.sz+b.sz)+1) (.tup [.str (yI p),a.d,b.d])=true
  rw[show n+(1+a.sz+b.sz)+1=n+a.sz+b.sz+1+1 by omega]
  show(true&&(okE _ a.d&&(okE _ b.d&&true)))=true
  rw[e1,e2];rfl
theorem pK:∀(s:Cn) (n:Nat),okE (n+s.sz+1) s.d=true
 | .yes,n=>rfl
 | .cmp i a b,n=>by
  have e1:=mJ a (n+b.sz)
  have e2:=mJ b (n+a.sz)
  rw[show n+b.sz+a.sz+1=n+a.sz+b.sz+1 by omega] at e1
  show okE (n+(1+a.sz+b.sz)+1) (.tup [.str (vW i),a.d,b.d])=true
  rw[show n+(1+a.sz+b.sz)+1=n+a.sz+b.sz+1+1 by omega]
  show(true&&(okE _ a.d&&(okE _ b.d&&true)))=true
  rw[e1,e2];rfl
 | .nt x,n=>by
  have e1:=pK x n
  show okE (n+(1+x.sz)+1) (.tup [.str "not",x.d])=true
  rw[show n+(1+x.sz)+1=n+x.sz+1+1 by omega]
  show(true&&(okE _ x.d&&true))=true
  rw[e1];rfl
 | .two p a b,n=>by
  have e1:=pK a (n+b.sz)
  have e2:=pK b (n+a.sz)
  rw[show n+b.sz+a.sz+1=n+a.sz+b.sz+1 by omega] at e1
  show okE (n+(1+a.sz+b.sz)+1) (.tup [.str (mZ p),a.d,b.d])=true
  rw[show n+(1+a.sz+b.sz)+1=n+a.sz+b.sz+1+1 by omega]
  show(true&&(okE _ a.d&&(okE _ b.d&&true)))=true
  rw[e1,e2];rfl
theorem aES{m:Nat}{w:Way}(o:rG m w):okE 118 w.d=true:=by
 have e1:=pK w.g (116-w.g.sz)
 rw[show 116-w.g.sz+w.g.sz+1=117 by have:=o.gs;omega] at e1
 show(okE 117 w.g.d&&((w.ps.map putD).all (okE 116)&&(true&&true)))=true
 rw[e1,Gw,BV,BV,Bz,Az]
 intro p hp
 have e2:=mJ p.2 (114-p.2.sz)
 rw[show 114-p.2.sz+p.2.sz+1=115 by have:=(o.ps p hp).sz;omega] at e2
 show(true&&(okE 115 p.2.d&&true))=true
 rw[e2];rfl
theorem aAx{m:Nat}{h:List (List Way)}(o:tL m h):eqD (.lst (aF h)) (.lst (aF h))=some true:=by
 refine pJ 120 _ ?_
 show(aF h).all (okE 119)=true
 rw[Bz,Az]
 intro ws hw
 show(ws.map Way.d).all (okE 118)=true
 rw[Bz,Az]
 exact λw hx=>aES ((o.ok ws hw).ok w hx).1
theorem aDo{x:D}(h:eqD x x=some true):bL .NotEq x x=some false:=by rw[yH,h];rfl
section
variable {P:Pg} {cl:Caller} {σ:Sg}
theorem aET{f:Nat}{a:E}{x:Vl}{k:Bool}(h1:ev P cl σ a=.ok x)(hc:cl f [x.d]=.ok (.bl k,false,false)):tst P cl σ (.call f (.cons a .nil))=.ok k:=by
 have e:evs P cl σ (.cons a .nil)=.ok [x]:=by rw[aE,h1];rfl
 rw[vP,e,aC,show [x].map (·.d)=[x.d] from rfl,hc];rfl
end
abbrev uf(ns:List Int)(k:Nat)(bs:List (Str×Int))(ps:List (Nat×Sm))(s:Sl):Sg:=[.lent (aR ns k),.sh true (.lst (aD bs)),.own false (ps.map putD),s]
abbrev aKE:Ss:=match hdS (drp 2 f29.body) with|.for _ _ b=>b|_=>.nil
theorem aBq(n:Nat){ns:List Int}{k:Nat}(hk:k<=500000){bs:List (Str×Int)}(hm:1<=bs.length)(hm4:bs.length<=4){ps:List (Nat×Sm)}{i:Nat}(hi:i<bs.length)(hp:∀p∈ps,pH bs.length p/\p.1<i)(hu:Up ps)(hl:ps.length<=i) :
 ∃(ps':List (Nat×Sm)) (k':Nat),(∀p∈ps',pH bs.length p/\p.1<i+1)/\Up ps'/\ps'.length<=i+1/\k'<=k+11 /\
  exs pg (call pg (n+4)) (uf ns k bs ps (.sh false (.int i))) aKE=.next (uf ns k' bs ps' (.sh false (.int i))):=by
 have x0:=eD (n+2) (ns:=ns) (k:=k) (by omega) (m:=5) (by decide) (c:=aR ns k) (r:=[.sh true (.lst (aD bs)),.own false (ps.map putD),.sh false (.int i)]) (a:=.e (.c (.int 5))) (cK rfl)
 generalize nxt ns k 5=w at x0
 by_cases hw:w<3
 . obtain⟨s,k',s1,s2,s3,s4⟩:=aHY n (ns:=ns) (k:=k+1) (by omega) hm (dp:=1) (.inr rfl) (b:=.e (.c (.int 1))) (r:=[.own false (ps.map putD),.sh false (.int i)]) (cK rfl)
   refine⟨ps++[(i,s)],k',λp h=>?_,?_,by rw[lA,Bj];omega,by omega,?_⟩
   . rcases AS.mp h with h|h
     . exact⟨(hp p h).1,by have:=(hp p h).2;omega⟩
     . rw[A5.mp h]
       exact⟨⟨hi,s1,s2⟩,Bk i⟩
   . unfold Up
     rw[List.pairwise_append]
     refine⟨hu,List.pairwise_singleton _ _,λp h q h'=>?_⟩
     rw[A5.mp h']
     exact(hp p h).2
   . have et:=iW (cK (P:=pg) (cl:=call pg (n+4)) (l:=0) (σ:=uf ns (k+1) bs ps (.sh false (.int i))) (a:=.v 3) (d:=.int i) rfl) s4
     have hll:(ps.map putD++[putD (i,s)]).length<=lim:=by
      rw[lA,lM,Bj];unfold lim;omega
     refine(stp (σ':=uf ns k' bs (ps++[(i,s)]) (.sh false (.int i))) ?_)
     rw[aAp,x0,aG]
     show O.from _ (R.ok (Vl.cl (.int 3))) (λz=>match bL .Lt (.int w) z.d with|some k=>if k then exs pg (call pg (n+4)) _ _ else exs pg (call pg (n+4)) _ _|none=>.bad)=_
     rw[aG,cQ,oZ,Al hw]
     refine stp ?_
     rw[aAo]
     show O.from _ (evl pg (call pg (n+4)) 0 (uf ns (k+1) bs ps (.sh false (.int i))) _) _=_
     rw[et,aG]
     show(if (ps.map putD++[putD (i,s)]).length<=lim then O.next ((uf ns k' bs ps (.sh false (.int i))).set 2 _) else O.bad)=_
     rw[if_pos hll]
     simp[uf]
     exact⟨rfl,rfl⟩
 . refine⟨ps,k+1,λp h=>⟨(hp p h).1,by have:=(hp p h).2;omega⟩,hu,by omega,by omega,?_⟩
   refine(stp (σ':=uf ns (k+1) bs ps (.sh false (.int i))) ?_)
   rw[aAp,x0,aG]
   show O.from _ (R.ok (Vl.cl (.int 3))) (λz=>match bL .Lt (.int w) z.d with|some k=>if k then exs pg (call pg (n+4)) _ _ else exs pg (call pg (n+4)) _ _|none=>.bad)=_
   rw[aG,cQ,oZ,Ao hw]
   rfl
structure nI (m:Nat) (ps:List (Nat×Sm)):Prop where
 all:∀p∈ps,pH m p
 up:Up ps
abbrev dF(ps:List (Nat×Sm)):D:=.tup (ps.map putD)
theorem iK(ps:List (Nat×Sm)):noL (dF ps)=true:=eS ps
theorem rH(n:Nat)(ns:List Int){k:Nat}(hk:k<=400000){bs:List (Str×Int)}(hm:1<=bs.length)(hm4:bs.length<=4) :
 ∃(ps:List (Nat×Sm)) (k':Nat),nI bs.length ps/\k'<=k+44/\call pg (n+8) 29 [.err 0 (aR ns k),.lst (aD bs)]=.ok (.tup [dF ps,.err 0 (aR ns k')],false,false):=by
 have hwk:walk pg (call pg (n+7)) (uf ns k bs [] .dead) (.rng (.c (.int 0)) (.bi .len (.cons (.v 1) .nil)))=.ok ((AO bs.length).map λ(j:Nat)=>Vl.cl (.int (j:Int)),[]):=by
  have hs:=gL (n:=bs.length) (by omega)
  have hb:(aD bs).length=bs.length:=lM _
  simp only[vQ,bT,iH,aE,aY,eB,bV,gS,gZ,fE,aC,cP,hb,cQ,aAi,hs,BV,rE,sX]
 obtain⟨σ',ef,ps,k2,s6,h1,h2,h3,h4,hσ⟩:=fP (P:=pg) (cl:=call pg (n+7)) (σ:=uf ns k bs [] .dead) (t:=.n 3) (b:=aKE) (λi σ=>∃(ps:List (Nat×Sm)) (k2:Nat) (s:Sl),(∀p∈ps,pH bs.length p/\p.1<i)/\Up ps/\ps.length<=i/\k2<=k+11*i/\σ=uf ns k2 bs ps s) hwk
  ⟨[],k,.dead,λp h=>absurd h BF,D2,Aj _,Aj _,rfl⟩ λi hi σ ⟨ps,k2,s,h1,h2,h3,h4,hσ⟩=>by
   have hi':i<bs.length:=by simpa using hi
   obtain⟨ps',k',b1,b2,b3,b4,b5⟩:=aBq (n+3) (ns:=ns) (k:=k2) (by omega) hm hm4 hi' h1 h2 h3
   refine⟨uf ns k2 bs ps (.sh false (.int i)),_,?_,b5,ps',k',_,b1,b2,b3,by omega,rfl⟩
   rw[hσ,fV]
   simp[uf]
 subst hσ
 have hlen:(HD (λ(j:Nat)=>Vl.cl (.int (j:Int))) (AO bs.length)).length=bs.length:=by simp
 refine⟨ps,k2,⟨λp h=>(h1 p h).1,h2⟩,by omega,?_⟩
 refine dM (F:=f29) (b:=_) rfl rfl rfl (v:=.cl (.tup [dF ps,.err 0 (aR ns k2)])) ?_
 show exs pg (call pg (n+7)) [.lent (aR ns k),.sh true (.lst (aD bs)),.dead,.dead] _=_
 refine(stp (σ':=uf ns k bs [] .dead) rfl).trans ((stp ef).trans (fZ (jF (cK ?_))))
 rw[iH,aE,eB]
 show(Sl.val 2 (.own false (ps.map putD)) >>= λx=>evs _ _ _ .nil >>= λxs=>R.ok (x::xs)) >>= _=_
 rw[sZ,aC,aY,aC,aC,aEO 2 (eS ps)]
inductive Dd where
 | put (ps:List (Nat×Sm))
 | wait (g:Cn) (ps:List (Nat×Sm))
 | cho (q:List (List Dd))
 | lp (k:Nat) (p:List Dd)
mutual
def Dd.d:Dd->D
 | .put ps=>.tup [.str "put",dF ps]
 | .wait g ps=>.tup [.str "wait",g.d,dF ps]
 | .cho q=>.tup [.str "choose",.lst (qsD q)]
 | .lp k p=>.tup [.str "loop",.int k,.lst (psD p)]
def psD:List Dd->List D
 | []=>[]
 | d::p=>d.d::psD p
def qsD:List (List Dd)->List D
 | []=>[]
 | p::q=>.lst (psD p)::qsD q
end
theorem yP:∀p:List Dd,psD p=p.map Dd.d
 | []=>rfl
 | d::p=>by rw[psD,yP p];rfl
abbrev prD(p:List Dd):D:=.lst (p.map Dd.d)
theorem aDp:∀q:List (List Dd),qsD q=q.map prD
 | []=>rfl
 | p::q=>by rw[qsD,aDp q,yP];rfl
theorem lE(q:List (List Dd)):(Dd.cho q).d=.tup [.str "choose",.lst (q.map prD)]:=by rw[Dd.d,aDp]
theorem wF(k:Nat)(p:List Dd):(Dd.lp k p).d=.tup [.str "loop",.int k,prD p]:=by rw[Dd.d,yP]
theorem gR(ps:List (Nat×Sm)):(Dd.put ps).d=.tup [.str "put",dF ps]:=by rw[Dd.d]
theorem eI(g:Cn)(ps:List (Nat×Sm)):(Dd.wait g ps).d=.tup [.str "wait",g.d,dF ps]:=by rw[Dd.d]
def Ok(m:Nat):Nat->Dd->Prop
 | _,.put ps=>nI m ps
 | _,.wait g ps=>g.wf m true/\g.sz<=31/\nI m ps
 | n+1,.cho q=>2<=q.length/\q.length<=4/\∀p∈q,p.length<=4/\∀d∈p,Ok m n d
 | n+1,.lp k p=>k<=8/\p.length<=4/\∀d∈p,Ok m n d
 | 0,.cho _=>False
 | 0,.lp _ _=>False
theorem aDq{m l:Nat}{ps:List (Nat×Sm)}(h:nI m ps):Ok m l (.put ps):=by cases l <;> exact h
theorem aAy{m l:Nat}{g:Cn}{ps:List (Nat×Sm)}(h1:g.wf m true)(h2:g.sz<=31)(h:nI m ps):Ok m l (.wait g ps):=by cases l <;> exact⟨h1,h2,h⟩
def OkP(m n:Nat)(p:List Dd):Prop:=p.length<=4/\∀d∈p,Ok m n d
mutual
def cnt:Dd->Nat
 | .put _=>1
 | .wait _ _=>1
 | .cho q=>1+cntQ q
 | .lp k p=>k*cntP p
def cntP:List Dd->Nat
 | []=>0
 | d::p=>cnt d+cntP p
def cntQ:List (List Dd)->Nat
 | []=>0
 | p::q=>cntP p+cntQ q
end
theorem lF:∀p:List Dd,cntP p=(p.map cnt).sum
 | []=>rfl
 | d::p=>by rw[cntP,lF p,mC,DB]
theorem iX:∀q:List (List Dd),cntQ q=(q.map cntP).sum
 | []=>rfl
 | p::q=>by rw[cntQ,iX q,mC,DB]
theorem dN(p q:List Dd):cntP (p++q)=cntP p+cntP q:=by rw[lF,lF,lF,AJ,Ee]
def cD:Nat->Nat
 | 0=>200
 | l+1=>7+16*cD l
abbrev eJ(l:Nat):Int:=((3-l:Nat):Int)
theorem aEU{l:Nat}:decide (eJ l<3)=decide (1<=l):=by
 by_cases h:1<=l
 . rw[Al h,Al (by unfold eJ;omega)]
 . rw[Ao h,Ao (by unfold eJ;omega)]
abbrev lf(ns:List Int)(k:Nat)(bs:List (Str×Int))(l:Nat)(s t:Sl):Sg:=[.lent (aR ns k),.sh true (.lst (aD bs)),.sh true (.int (eJ l)),s,t]
abbrev cf(ns:List Int)(k:Nat)(bs:List (Str×Int))(l:Nat)(s:Sl):Sg:=[s,.lent (aR ns k),.sh true (.lst (aD bs)),.sh true (.int (eJ l))]
section
variable {P:Pg} {cl:Caller} {l:Nat} {σ σ1:Sg}
theorem aAz{es:ELs}{vs:List Vl}(h:evls' P cl l σ es=.ok (vs,σ1)):evl P cl l σ (.tup es)=.ok (⟨.tup (vs.map (·.d)),false,aT vs,[]⟩,σ1):=by rw[tE,h];rfl
theorem yQ{e:EL}{d:D}{f:Bool}{c:List D}{r:Sg}(h:evl P cl 0 σ e=.ok (⟨d,f,false,[]⟩,.lent c::r)):ex P cl σ (.retL e)=.ret ⟨.tup [d,.err 0 c],f,false,[]⟩:=by rw[tF,h];rfl
end
def wG(N:Nat)(ns:List Int)(bs:List (Str×Int))(l:Nat):Prop:=∀k,k+(1+4*cD l)<=390000->∃(p:List Dd) (k':Nat),OkP bs.length l p/\k'<=k+(1+4*cD l) /\
 call pg N 31 [.err 0 (aR ns k),.lst (aD bs),.int (eJ l)]=.ok (.tup [prD p,.err 0 (aR ns k')],true,false)
def wH(N:Nat)(ns:List Int)(bs:List (Str×Int))(l:Nat):Prop:=∀k,k+cD l<=390000->∃(d:Dd) (k':Nat),Ok bs.length l d/\k'<=k+cD l /\
 call pg N 30 [.err 0 (aR ns k),.lst (aD bs),.int (eJ l)]=.ok (.tup [d.d,.err 0 (aR ns k')],false,false)
theorem mK(N:Nat)(ns:List Int){bs:List (Str×Int)}{l:Nat}(hl:l<=2)(h:wH (N+2) ns bs l):wG (N+3) ns bs l:=λk hk=>by
 have hm:∃m:Nat,0<m/\m<=5/\ev pg (call pg (N+2)) [.lent (aR ns k),.sh true (.lst (aD bs)),.sh true (.int (eJ l))] (.idx (.lst (.cons (.c (.int 5)) (.cons (.c (.int 3)) (.cons (.c (.int 3)) .nil)))) (.op .Sub (.v 2) (.c (.int 1))))=.ok (.cl (.int (m:Int))):=by
  rcases(by omega:l=0\/l=1\/l=2) with rfl|rfl|rfl
  . exact⟨3,by decide,by decide,rfl⟩
  . exact⟨3,by decide,by decide,rfl⟩
  . exact⟨5,by decide,by decide,rfl⟩
 obtain⟨m,m0,m5,hm⟩:=hm
 have x0:=eD N (ns:=ns) (k:=k) (by omega) (m:=(m:Int)) (by omega) (c:=aR ns k) (r:=[.sh true (.lst (aD bs)),.sh true (.int (eJ l))]) (a:=.e (.idx (.lst (.cons (.c (.int 5)) (.cons (.c (.int 3)) (.cons (.c (.int 3)) .nil)))) (.op .Sub (.v 2) (.c (.int 1))))) (cK hm)
 obtain⟨r0,r1⟩:=cW ns k (m:=(m:Int)) (by omega)
 rw[show nxt ns k (m:Int)=(((nxt ns k (m:Int)).toNat:Nat):Int) by omega] at x0
 have hq:(nxt ns k (m:Int)).toNat<=4:=by omega
 generalize (nxt ns k (m:Int)).toNat=q at x0 hq
 obtain⟨ds,σ',h1,p,k',rfl,h2,h3,h4,rfl⟩:=vT (P:=pg) (cl:=call pg (N+2)) (l:=0) (k:=1) (l':=1) (caps:=[0,1,2]) (t:=.n 0) (elt:=.call 30 (.cons (.e (.v 2)) (.cons (.e (.v 3)) .nil))) (λi ds σ=>∃(p:List Dd) (k':Nat),ds=p.map Dd.d/\p.length=i/\(∀d∈p,Ok bs.length l d)/\k'<=k+1+cD l*i/\σ=[.lent (aR ns k'),.sh true (.lst (aD bs)),.sh true (.int (eJ l))]) x0 (by omega) ⟨[],k+1,rfl,rfl,λ_ z=>absurd z BF,by omega,rfl⟩ λi σ ds hi ⟨p,k',e1,e2,e3,e4,e5⟩=>by
  subst e1 e5
  have hci:cD l*i+cD l<=4*cD l:=by
   have:=E3 (cD l) (show i+1<=4 by omega)
   rw[Di,Ck (cD l) 4] at this
   exact this
  obtain⟨d,k2,o,hk2,hc⟩:=h k' (by omega)
  refine⟨cf ns k' bs l (.sh false (.int i)),.cl d.d,cf ns k2 bs l (.sh false (.int i)),(true,aR ns k'),true,aR ns k2,rfl,pD (z:=(true,aR ns k')) rfl rfl (vs:=[⟨.lst (aD bs),false,true,[]⟩,.cl (.int (eJ l))]) (σ1:=cf ns k' bs l (.sh false (.int i))) rfl (pa:=true) (cs:=aR ns k') rfl hc,rfl,rfl,rfl,p++[d],k2,by rw[AJ];rfl,by rw[lA,e2];rfl,vZ e3 o,?_,rfl⟩
  rw[Di]
  omega
 have hcq:cD l*q<=4*cD l:=by rw[Ck];exact B3 _ hq
 refine⟨p,k',⟨by omega,h3⟩,by omega,?_⟩
 refine dM (F:=f31) (b:=_) rfl rfl rfl (v:=⟨.tup [prD p,.err 0 (aR ns k')],true,false,[]⟩) ?_
 exact fZ (yQ h1)
abbrev aDr(bs:List (Str×Int)):Vl:=⟨.lst (aD bs),false,true,[]⟩
theorem mL(n:Nat)(ns:List Int){bs:List (Str×Int)}(hm:1<=bs.length)(hm4:bs.length<=4){l:Nat}(hl:l<=2)(h:∀l',l=l'+1->wG (n+8) ns bs l'):wH (n+9) ns bs l:=λk hk=>by
 have hc0:200<=cD l:=by
  cases l with
  | zero=>exact Aj _
  | succ l=>cases l with
   | zero=>decide
   | succ l=>cases l with
    | zero=>decide
    | succ _=>omega
 have x0:=eD (n+6) (ns:=ns) (k:=k) (by omega) (m:=9) (by decide) (c:=aR ns k) (r:=[.sh true (.lst (aD bs)),.sh true (.int (eJ l)),.dead,.dead]) (a:=.e (.c (.int 9))) (cK rfl)
 obtain⟨r0,r1⟩:=cW ns k (m:=9) (by decide)
 generalize nxt ns k 9=w at x0 r0 r1
 have e1:ex pg (call pg (n+8)) (lf ns k bs l .dead .dead) (hdS (drp 1 f30.body))=.next (lf ns (k+1) bs l (.sh false (.int w)) .dead):=by
  show ex pg (call pg (n+8)) (lf ns k bs l .dead .dead) (.setL 3 0 [] _)=_
  rw[fI,bG,x0,aG]
  show O.next (HE _ 3 (Vl.cl (.int w)).slot)=_
  rw[cC];rfl
 have tt:∀{t:Sl} (a:Int),tst pg (call pg (n+8)) (lf ns (k+1) bs l (.sh false (.int w)) t) (.an (.cmp .Gt (.v 3) (.c (.int a))) (.cmp .Lt (.v 2) (.c (.int 3))))=.ok (decide (a<w)&&decide (1<=l)):=λ{t} a=>
  aMd (eU (bC 3 (.int w)) rfl rfl) (eU (x:=.cl (.int (eJ l))) rfl rfl (by rw[<-aEU];rfl))
 have fin:∀(d:Dd) (k':Nat),Ok bs.length l d->k'<=k+cD l->exs pg (call pg (n+8)) (lf ns (k+1) bs l (.sh false (.int w)) .dead) (drp 2 f30.body)=.ret ⟨.tup [d.d,.err 0 (aR ns k')],false,false,[]⟩ ->
  ∃(d:Dd) (k':Nat),Ok bs.length l d/\k'<=k+cD l/\call pg (n+9) 30 [.err 0 (aR ns k),.lst (aD bs),.int (eJ l)]=.ok (.tup [d.d,.err 0 (aR ns k')],false,false):=λd k' o b q=>
  ⟨d,k',o,b,dM (F:=f30) (b:=_) rfl rfl rfl (v:=⟨.tup [d.d,.err 0 (aR ns k')],false,false,[]⟩) ((stp e1).trans q)⟩
 by_cases hA:6<w/\1<=l
 . obtain⟨l',rfl⟩:∃l',l=l'+1:=⟨l-1,by omega⟩
   have hp:=h l' rfl
   have hd1:eJ (l'+1)+1=eJ l':=by unfold eJ;omega
   have x1:=eD (n+6) (ns:=ns) (k:=k+1) (by omega) (m:=3) (by decide) (c:=aR ns (k+1)) (r:=[.sh true (.lst (aD bs)),.sh true (.int (eJ (l'+1))),.sh false (.int w),.dead]) (a:=.e (.c (.int 3))) (cK rfl)
   obtain⟨s0,s1⟩:=cW ns (k+1) (m:=3) (by decide)
   have he:=vY (cK (P:=pg) (cl:=call pg (n+8)) (l:=0) (σ:=lf ns (k+1) bs (l'+1) (.sh false (.int w)) .dead) (a:=.c (.int 2)) (d:=.int 2) rfl) x1 (add_int 2 (nxt ns (k+1) 3))
   rw[show(2:Int)+nxt ns (k+1) 3=((2+(nxt ns (k+1) 3).toNat:Nat):Int) by omega] at he
   have hq:2+(nxt ns (k+1) 3).toNat<=4:=by omega
   have hq2:2<=2+(nxt ns (k+1) 3).toNat:=by omega
   generalize 2+(nxt ns (k+1) 3).toNat=c at he hq hq2
   have hcD:cD (l'+1)=7+16*cD l':=rfl
   obtain⟨ds,σ',h1,q,k',rfl,h2,h3,h4,rfl⟩:=vT (P:=pg) (cl:=call pg (n+8)) (l:=0) (k:=1) (l':=1) (caps:=[0,1,2]) (t:=.n 0) (elt:=.call 31 (.cons (.e (.v 2)) (.cons (.e (.op .Add (.v 3) (.c (.int 1)))) .nil))) (λi ds σ=>∃(q:List (List Dd)) (k':Nat),ds=q.map prD/\q.length=i/\(∀p∈q,OkP bs.length l' p)/\k'<=k+2+(1+4*cD l')*i/\σ=lf ns k' bs (l'+1) (.sh false (.int w)) .dead) he (by omega) ⟨[],k+2,rfl,rfl,λ_ z=>absurd z BF,by omega,rfl⟩ λi σ ds hi ⟨q,k',e1,e2,e3,e4,e5⟩=>by
    subst e1 e5
    have hci:(1+4*cD l')*i+(1+4*cD l')<=4*(1+4*cD l'):=by
     have:=E3 (1+4*cD l') (show i+1<=4 by omega)
     rw[Di,Ck (1+4*cD l') 4] at this
     exact this
    obtain⟨p,k2,o,hk2,hc⟩:=hp k' (by omega)
    rw[<-hd1] at hc
    refine⟨cf ns k' bs (l'+1) (.sh false (.int i)),⟨prD p,true,false,[]⟩,cf ns k2 bs (l'+1) (.sh false (.int i)),(true,aR ns k'),true,aR ns k2,rfl,pD (z:=(true,aR ns k')) rfl rfl (vs:=[aDr bs,.cl (.int (eJ (l'+1)+1))]) (σ1:=cf ns k' bs (l'+1) (.sh false (.int i))) rfl (pa:=true) (cs:=aR ns k') rfl hc,rfl,rfl,rfl,q++[p],k2,by rw[AJ];rfl,by rw[lA,e2];rfl,vZ e3 o,?_,rfl⟩
    rw[Di]
    omega
   have hcq:(1+4*cD l')*c<=4*(1+4*cD l'):=by rw[Ck];exact B3 _ hq
   refine fin (.cho q) k' ⟨by omega,by omega,h3⟩ (by omega) ?_
   rw[lE]
   exact pA ((tt 6).trans (by rw[Al hA.1,Al hA.2];rfl)) (fZ (yQ (aAz (aDf (cK (d:=.str "choose") rfl) h1))))
 . have n1:=λa:Ss=>dW (a:=a) ((tt (t:=.dead) 6).trans (by rw[aKC hA]))
   by_cases hB:4<w/\1<=l
   . obtain⟨l',rfl⟩:∃l',l=l'+1:=⟨l-1,by omega⟩
     have hp:=h l' rfl
     have hd1:eJ (l'+1)+1=eJ l':=by unfold eJ;omega
     have x1:=eD (n+6) (ns:=ns) (k:=k+1) (by omega) (m:=3) (by decide) (c:=aR ns (k+1)) (r:=[.sh true (.lst (aD bs)),.sh true (.int (eJ (l'+1))),.sh false (.int w),.dead]) (a:=.e (.c (.int 3))) (cK rfl)
     obtain⟨s0,s1⟩:=cW ns (k+1) (m:=3) (by decide)
     have xl:evl pg (call pg (n+8)) 0 (lf ns (k+1) bs (l'+1) (.sh false (.int w)) .dead) (.e (.lst (.cons (.c (.int 3)) (.cons (.c (.int 4)) (.cons (.c (.int 9)) .nil)))))=.ok (⟨.lst [.int 3,.int 4,.int 9],true,false,[]⟩,lf ns (k+1) bs (l'+1) (.sh false (.int w)) .dead):=rfl
     have x2:∃m:Nat,0<m/\m<=9/\cG (Vl.nr ⟨.lst [.int 3,.int 4,.int 9],true,false,[]⟩) (Vl.nr (.cl (.int (nxt ns (k+1) 3))))=.ok (.cl (.int (m:Int))):=by
      generalize nxt ns (k+1) 3=z at s0 s1
      rcases(by omega:z=0\/z=1\/z=2) with rfl|rfl|rfl
      . exact⟨3,by decide,by decide,rfl⟩
      . exact⟨4,by decide,by decide,rfl⟩
      . exact⟨9,by decide,by decide,rfl⟩
     obtain⟨m,m0,m9,x2⟩:=x2
     have x3:=eD (n+6) (ns:=ns) (k:=k+2) (by omega) (m:=(m:Int)) (by omega) (c:=aR ns (k+1)) (r:=[.sh true (.lst (aD bs)),.sh true (.int (eJ (l'+1))),.sh false (.int w),.dead]) (a:=.idx (.e (.lst (.cons (.c (.int 3)) (.cons (.c (.int 4)) (.cons (.c (.int 9)) .nil))))) (.call 4 (.cons (.e (.c (.int 3))) .nil))) (aHW xl x1 x2 rfl)
     obtain⟨t0,t1⟩:=cW ns (k+2) (m:=(m:Int)) (by omega)
     rw[show nxt ns (k+2) (m:Int)=(((nxt ns (k+2) (m:Int)).toNat:Nat):Int) by omega] at x3
     have ht:(nxt ns (k+2) (m:Int)).toNat<=8:=by omega
     generalize (nxt ns (k+2) (m:Int)).toNat=c at x3 ht
     have hcD:cD (l'+1)=7+16*cD l':=rfl
     obtain⟨p,k',o,hk',hc⟩:=hp (k+3) (by omega)
     rw[<-hd1] at hc
     refine fin (.lp c p) k' ⟨ht,o.1,o.2⟩ (by omega) ?_
     rw[wF]
     refine cs (n1 _) (pA ((tt 4).trans (by rw[Al hB.1,Al hB.2];rfl)) (cs (σ':=lf ns (k+3) bs (l'+1) (.sh false (.int w)) (.sh false (.int c))) ?_ (fZ (yQ (aAz (aKy (cK (d:=.str "loop") rfl) (cK (a:=.v 4) (d:=.int (c:Int)) rfl) (pD (z:=(true,aR ns (k+3))) rfl rfl (vs:=[aDr bs,.cl (.int (eJ (l'+1)+1))]) (σ1:=lf ns (k+3) bs (l'+1) (.sh false (.int w)) (.sh false (.int c))) rfl (pa:=true) (cs:=aR ns (k+3)) rfl hc)))))))
     rw[fI,bG,x3,aG]
     show O.next (HE _ 4 (Vl.cl (.int c)).slot)=_
     rw[cC];rfl
   . have n2:=λa:Ss=>dW (a:=a) ((tt (t:=.dead) 4).trans (by rw[aKC hB]))
     have te:tst pg (call pg (n+8)) (lf ns (k+1) bs l (.sh false (.int w)) .dead) (.cmp .Eq (.op .Mod (.v 3) (.c (.int 2))) (.c (.int 0)))=.ok (w % 2==0):=eU (x:=.cl (.int (w % 2))) (eC (bC 3 (.int w)) rfl (aAm (by decide))) rfl rfl
     by_cases hC:w % 2=0
     . obtain⟨ps,k',o,hk',hc⟩:=rH n ns (k:=k+1) (by omega) hm hm4
       refine fin (.put ps) k' (aDq o) (by omega) ?_
       rw[gR]
       exact cs (n1 _) (cs (n2 _) (pA (te.trans (by rw[hC];rfl)) (fZ (jF (iW (cK (d:=.str "put") rfl) (pC (vs:=[aDr bs]) rfl rfl hc))))))
     . obtain⟨g,k1,g1,g2,g3,g4⟩:=pG ns hm 1 (n+2) (k+1) (by decide) (by omega)
       obtain⟨ps,k',o,hk',hc⟩:=rH n ns (k:=k1) (by omega) hm hm4
       refine fin (.wait g ps) k' (aAy g1 (by omega) o) (by omega) ?_
       rw[eI]
       exact cs (n1 _) (cs (n2 _) (cs (dW (te.trans (by rw[show(w % 2==0)=false by simpa using hC]))) (fZ (jF (nU (cK (d:=.str "wait") rfl) (pC (vs:=[aDr bs,.cl (.int 1)]) rfl rfl g4) (pC (vs:=[aDr bs]) rfl rfl hc))))))
theorem tM(n:Nat)(ns:List Int){bs:List (Str×Int)}(hm:1<=bs.length)(hm4:bs.length<=4):wG (n+14) ns bs 2:=by
 have d0:wH (n+9) ns bs 0:=mL n ns hm hm4 (by decide) λl' e=>by cases e
 have p0:wG (n+10) ns bs 0:=mK (n+7) ns (by decide) d0
 have d1:wH (n+11) ns bs 1:=mL (n+2) ns hm hm4 (by decide) λl' e=>by cases e;exact p0
 have p1:wG (n+12) ns bs 1:=mK (n+9) ns (by decide) d1
 have d2:wH (n+13) ns bs 2:=mL (n+4) ns hm hm4 (by decide) λl' e=>by cases e;exact p1
 exact mK (n+11) ns (by decide) d2
abbrev pv(d:D):Vl:=⟨d,false,!noL d,[]⟩
theorem pL:∀ns:List Int,fL (ns.map D.int)=some ns
 | []=>rfl
 | n::ns=>by rw[mC,fL,pL ns]
theorem aDs(ns:List Int){b c:Bool}{al:List Nat}:biD .sum [⟨.lst (ns.map D.int),b,c,al⟩]=.ok (.cl (.int ns.sum)):=by
 show(match fL (ns.map D.int) with|some ns=>R.ok (Vl.cl (.int ns.sum))|none=>.bad)=_
 rw[pL]
section
variable {P:Pg} {cl:Caller} {σ:Sg}
theorem aAA(v:Vl)(d:D)(i:Nat):∃y,Sl.val i (Vl.sub v d).slot=.ok y/\y.d=d:=by
 unfold Vl.sub
 by_cases h:noL d=true
 . rw[if_pos h,cC];exact⟨_,rfl,rfl⟩
 . rw[if_neg h]
   unfold Vl.slot
   exact⟨_,rfl,rfl⟩
theorem yR{f:Nat}{a:E}{v:Vl}{α:Type}{ts:List α}{g:α->D}{r:α->Int}(ha:ev P cl σ a=.ok v)(hv:v.d=.lst (ts.map g))(hl:ts.length<=lim)(h:∀t∈ts,cl f [g t]=.ok (.int (r t),false,false)) :
 ev P cl σ (.bi .sum (.cons (.comp 1 [] (.n 0) (.seq a) .nil (.call f (.cons (.v 0) .nil))) .nil))=.ok (.cl (.int (ts.map r).sum)):=by
 have hw:walk P cl σ (.seq a)=.ok (ts.map (λt=>Vl.sub v (g t)),v.al):=by
  show(ev P cl σ a >>= λx=>(match x.d with
   | .lst ds=>R.ok (items x ds,x.al)
   | .tup ds=>R.ok (items x ds,x.al)
   | .str a=>R.iff (decide (a.length<=lim)) (.ok (a.cps.toList.map λn=>.cl (.str ⟨#[n]⟩),[]))
   | _=>.bad))=_
  rw[ha,aC,hv]
  show R.ok ((ts.map g).map (Vl.sub v),v.al)=_
  rw[Bc];rfl
 have hc:=aCY (P:=P) (cl:=cl) (σ:=σ) (k:=1) (caps:=[]) (T:=.n 0) (elt:=.call f (.cons (.v 0) .nil)) (λt=>Vl.sub v (g t)) (λt=>D.int (r t)) (λ_=>rfl) hw hl λt ht=>by
  obtain⟨y,e1,e2⟩:=aAA v (g t) 0
  refine⟨[(Vl.sub v (g t)).slot],rfl,cE (x:=y) e1 ?_⟩
  rw[e2];exact h t ht
 refine fW hc ?_
 have:=aDs (ts.map r) (b:=true) (c:=false) (al:=[])
 rw[Bc] at this
 exact this
end
def yS(N m l:Nat):Prop:=∀d,Ok m l d->call pg N 10 [d.d]=.ok (.int (cnt d),false,false)
def aBr(N m l:Nat):Prop:=∀p:List Dd,p.length<=100->(∀d∈p,Ok m l d)->call pg N 9 [prD p]=.ok (.int (cntP p),false,false)
theorem lG{α:Type}(f:α->Nat):∀ts:List α,(ts.map λt=>(f t:Int)).sum=(((ts.map f).sum:Nat):Int)
 | []=>rfl
 | t::ts=>by rw[mC,DB,mC,DB,lG f ts,Cp]
theorem pM{N m l:Nat}(h:yS N m l):aBr (N+1) m l:=λp hl hp=>by
 refine aM (F:=f9) (v:=.cl (.int (cntP p))) rfl rfl (cX ?_)
 have:=yR (P:=pg) (cl:=call pg N) (σ:=[.sh true (prD p)]) (f:=10) (a:=.v 0) (v:=pv (prD p)) (ts:=p) (g:=Dd.d) (r:=λd=>(cnt d:Int)) rfl rfl (by unfold lim;omega) λd hd=>h d (hp d hd)
 rw[lG,<-lF] at this
 exact this
theorem pN{N m l:Nat}(h:∀l',l=l'+1->aBr N m l'):yS (N+1) m l:=λd o=>by
 cases d with
 | put ps=>
  rw[gR]
  refine aM (F:=f10) (v:=.cl (.int 1)) rfl rfl ?_
  exact cs (dW (bH (aX rfl rfl rfl) (by decide +kernel))) (cX (eK (k:=false) (bH (aX rfl rfl rfl) (by decide +kernel)) rfl))
 | wait g ps=>
  rw[eI]
  refine aM (F:=f10) (v:=.cl (.int 1)) rfl rfl ?_
  exact cs (dW (bH (aX rfl rfl rfl) (by decide +kernel))) (cX (eK (k:=false) (bH (aX rfl rfl rfl) (by decide +kernel)) rfl))
 | cho q=>
  cases l with
  | zero=>exact o.elim
  | succ l=>
   have o:2<=q.length/\q.length<=4/\∀p∈q,p.length<=4/\∀d∈p,Ok m l d:=o
   rw[lE]
   refine aM (F:=f10) (v:=.cl (.int (cnt (.cho q)))) rfl rfl (pA (bH (aX rfl rfl rfl) (by decide +kernel)) (cX ?_))
   have:=yR (P:=pg) (cl:=call pg N) (σ:=[.sh true (.tup [.str "choose",.lst (q.map prD)])]) (f:=9) (a:=.idx (.v 0) (.c (.int 1))) (v:=⟨.lst (q.map prD),false,true,[]⟩) (ts:=q) (g:=prD) (r:=λp=>(cntP p:Int)) (aX rfl rfl rfl) rfl (by unfold lim;omega) λp hp=>h l rfl p (by have:=(o.2.2 p hp).1;omega) (o.2.2 p hp).2
   refine eC rfl this ?_
   rw[lG,<-iX,cnt]
   exact(add_int 1 _).trans (by rw[Cp];rfl)
 | lp k p=>
  cases l with
  | zero=>exact o.elim
  | succ l=>
   have o:k<=8/\p.length<=4/\∀d∈p,Ok m l d:=o
   rw[wF]
   refine aM (F:=f10) (v:=.cl (.int (cnt (.lp k p)))) rfl rfl (cs (dW (bH (aX rfl rfl rfl) (by decide +kernel))) (cX (eK (k:=true) (bH (aX rfl rfl rfl) (by decide +kernel)) ?_)))
   refine eC (aX (z:=.cl (.int (k:Int))) rfl rfl rfl) (cE (x:=⟨prD p,false,true,[]⟩) (aX rfl rfl rfl) (h l rfl p (by omega) o.2.2)) ?_
   rw[cnt]
   exact(aAr (by omega)).trans (by rw[De])
abbrev sd(d:D):Sl:=(Vl.sub ⟨.non,false,true,[]⟩ d).slot
theorem jR(i:Nat)(d:D):Sl.val i (sd d)=.ok (pv d):=by
 unfold sd Vl.sub pv
 by_cases h:noL d=true
 . rw[if_pos h,cC,bC,h];rfl
 . rw[if_neg h]
   have h':noL d=false:=by simpa using h
   unfold Vl.slot Sl.val
   simp[h']
section
variable {P:Pg} {cl:Caller} {σ:Sg}
theorem gN{α:Type}{f:α->D}{a:E}{ts:List α}{fr:Bool}(h:ev P cl σ a=.ok ⟨.lst (ts.map f),fr,true,[]⟩):walk P cl σ (.seq a)=.ok (ts.map λt=>Vl.sub ⟨.non,false,true,[]⟩ (f t),[]):=by
 rw[iI,h,aC]
 show R.ok ((ts.map f).map (Vl.sub ⟨.lst (ts.map f),fr,true,[]⟩),([]:List Nat))=_
 rw[Bc]
 rfl
end
theorem aEV{P:Pg}{cl:Caller}{p:List Dd}{r:Sg}:ev P cl (.sh true (prD p)::r) (.v 0)=.ok ⟨prD p,false,true,[]⟩:=rfl
def nJ(N m l:Nat):Prop:=∀p:List Dd,p.length<=100->(∀d∈p,Ok m l d)->call pg N 32 [prD p]=.ok (.int (cntP p),false,false)
theorem cF{α:Type}{p:List α}{i:Nat}(h:i<p.length):p.take (i+1)=p.take i++[p[i]]:=CL h
abbrev aFF:Ss:=match hdS (drp 1 f32.body) with|.for _ _ b=>b|_=>.nil
theorem aBs{N m l:Nat}(h:∀l',l=l'+1->nJ N m l'){d:Dd}(o:Ok m l d)(s0:Sl)(c:Nat):exs pg (call pg N) [s0,.sh false (.int c),sd d.d] aFF=.next [s0,.sh false (.int ((c+cnt d:Nat):Int)),sd d.d]:=by
 have v2:ev pg (call pg N) [s0,.sh false (.int c),sd d.d] (.v 2)=.ok (pv d.d):=jR 2 d.d
 have fin:∀{e:E},ev pg (call pg N) [s0,.sh false (.int c),sd d.d] e=.ok (.cl (.int ((c+cnt d:Nat):Int)))->exs pg (call pg N) [s0,.sh false (.int c),sd d.d] (.cons (.set (.n 1) e) .nil)=.next [s0,.sh false (.int ((c+cnt d:Nat):Int)),sd d.d]:=λq=>cs (jE q) rfl
 cases d with
 | put ps=>
  rw[gR] at v2 fin ⊢
  refine cs (σ':=_) ?_ rfl
  rw[aS,bH (aX v2 rfl rfl) (by decide +kernel:(("put" : Str) == "choose")=false),aG,if_neg bN]
  refine cs (σ':=_) ?_ rfl
  rw[aS,bH (aX v2 rfl rfl) (by decide +kernel:(("put" : Str) == "loop")=false),aG,if_neg bN]
  exact fin (eC (x:=.cl (.int c)) rfl rfl ((add_int _ _).trans (by rw[cnt];rfl)))
 | wait g ps=>
  rw[eI] at v2 fin ⊢
  refine cs (σ':=_) ?_ rfl
  rw[aS,bH (aX v2 rfl rfl) (by decide +kernel:(("wait" : Str) == "choose")=false),aG,if_neg bN]
  refine cs (σ':=_) ?_ rfl
  rw[aS,bH (aX v2 rfl rfl) (by decide +kernel:(("wait" : Str) == "loop")=false),aG,if_neg bN]
  exact fin (eC (x:=.cl (.int c)) rfl rfl ((add_int _ _).trans (by rw[cnt];rfl)))
 | cho q=>
  cases l with
  | zero=>exact o.elim
  | succ l=>
   have o:2<=q.length/\q.length<=4/\∀p∈q,p.length<=4/\∀d∈p,Ok m l d:=o
   rw[lE] at v2 fin ⊢
   refine cs (σ':=_) ?_ rfl
   rw[aS,bH (aX v2 rfl rfl) (by decide +kernel:(("choose" : Str) == "choose")=true),aG,if_pos rfl]
   have:=yR (f:=32) (a:=.idx (.v 2) (.c (.int 1))) (v:=⟨.lst (q.map prD),false,true,[]⟩) (ts:=q) (g:=prD) (r:=λp=>(cntP p:Int)) (aX v2 rfl rfl) rfl (by unfold lim;omega) λp hp=>h l rfl p (by have:=(o.2.2 p hp).1;omega) (o.2.2 p hp).2
   refine fin (eC (eC (x:=.cl (.int c)) rfl rfl (add_int _ _)) this ?_)
   rw[lG,<-iX,cnt,add_int]
   congr 3
   omega
 | lp k p=>
  cases l with
  | zero=>exact o.elim
  | succ l=>
   have o:k<=8/\p.length<=4/\∀d∈p,Ok m l d:=o
   rw[wF] at v2 fin ⊢
   refine cs (σ':=_) ?_ rfl
   rw[aS,bH (aX v2 rfl rfl) (by decide +kernel:(("loop" : Str) == "choose")=false),aG,if_neg bN]
   refine cs (σ':=_) ?_ rfl
   rw[aS,bH (aX v2 rfl rfl) (by decide +kernel:(("loop" : Str) == "loop")=true),aG,if_pos rfl]
   refine fin (eC (x:=.cl (.int c)) rfl (eC (aX (z:=.cl (.int (k:Int))) v2 rfl rfl) (cE (x:=⟨prD p,false,true,[]⟩) (aX v2 rfl rfl) (h l rfl p (by omega) o.2.2)) (aAr (by omega))) ?_)
   rw[cnt,add_int,Cp,De]
theorem pO{N m l:Nat}(h:∀l',l=l'+1->nJ N m l'):nJ (N+1) m l:=λp hl hp=>by
 obtain⟨σ',ef,s,hσ⟩:=fP (P:=pg) (cl:=call pg N) (σ:=[.sh true (prD p),.sh false (.int 0),.dead]) (t:=.n 2) (b:=aFF) (λi σ=>∃s,σ=[.sh true (prD p),.sh false (.int (cntP (p.take i))),s]) (gN aEV) ⟨.dead,rfl⟩ λi hi σ ⟨s,e⟩=>by
  rw[lM] at hi
  subst e
  rw[Bm]
  refine⟨[.sh true (prD p),.sh false (.int (cntP (p.take i))),sd p[i].d],_,rfl,aBs h (hp _ (A9 hi)) _ _,sd p[i].d,?_⟩
  rw[cF hi,dN]
  rfl
 subst hσ
 rw[lM,Ca] at ef
 exact aM (F:=f32) (v:=.cl (.int (cntP p))) rfl rfl (cs (jE rfl) (cs ef rfl))
theorem gD{α:Type}{l:List α}(h:l≠[]):l.eraseIdx (l.length-1)=l.dropLast:=by
 rw[List.dropLast_eq_take,List.eraseIdx_eq_take_drop_succ]
 have:0<l.length:=E4.mpr h
 rw[show l.length-1+1=l.length by omega,Bl,Ax]
theorem rJ{N m l:Nat}(h:nJ N m l){b:Bool}(s0:Sl):∀(n:Nat) (q:List Dd) (f:Nat),q.length<=n->n<f->q.length<=100->(∀d∈q,Ok m l d) ->
 ∃q',(∃r,q=q'++r)/\cntP q'<=8/\hJ (λσ=>tst pg (call pg N) σ (.cmp .Gt (.call 32 (.cons (.v 1) .nil)) (.c (.int 8)))) (λσ=>exs pg (call pg N) σ (.cons (.pop none 1 none) .nil)) f [s0,.own b (q.map Dd.d)]=.next [s0,.own b (q'.map Dd.d)]
 | n,q,0,_,hf,_,_=>absurd hf (FC _)
 | n,q,f+1,hn,hf,hl,ho=>by
  have ht:tst pg (call pg N) [s0,.own b (q.map Dd.d)] (.cmp .Gt (.call 32 (.cons (.v 1) .nil)) (.c (.int 8)))=.ok (decide (8<cntP q)):=by
   refine(eU (x:=.cl (.int (cntP q))) (y:=.cl (.int 8)) (cE (x:=⟨prD q,false,b,[1]⟩) rfl (h q hl ho)) rfl rfl).trans ?_
   congr 1
   by_cases hc:8<cntP q
   . rw[Al hc,Al (by omega)]
   . rw[Ao hc,Ao (by omega)]
  by_cases hc:8<cntP q
  . have hne:q≠[]:=λz=>by rw[z] at hc;exact absurd hc (by decide)
    have hlp:0<q.length:=E4.mpr hne
    obtain⟨q',⟨r,hr⟩,h1,h2⟩:=rJ h (b:=b) s0 (n-1) q.dropLast f (by rw[CY];omega) (by omega) (by rw[CY];omega) λd hd=>ho d (List.dropLast_subset _ hd)
    refine⟨q',⟨r++[q.getLast hne],?_⟩,h1,?_⟩
    . rw[<-Ba,<-hr];exact(List.dropLast_concat_getLast hne).symm
    . have hi:Hp.ixN (q.map Dd.d).length (-1)=some (q.length-1):=by
       rw[lM]
       unfold Hp.ixN
       rw[if_neg (by decide),if_pos (by omega)]
       congr 1
       omega
      have hp:ex pg (call pg N) [s0,.own b (q.map Dd.d)] (.pop none 1 none)=.next [s0,.own b (q.dropLast.map Dd.d)]:=by
       show O.from _ (iA [s0,.own b (q.map Dd.d)] 1 none) (λr=>O.next r.2)=_
       have:iA [s0,.own b (q.map Dd.d)] 1 none=.ok (Vl.sub ⟨.non,false,b,[]⟩ (q[q.length-1]'(by omega)).d,[s0,.own b (q.dropLast.map Dd.d)]):=by
        show(match Hp.ixN (q.map Dd.d).length (-1) with
         | some j=>(match (q.map Dd.d)[j]? with
          | some d=>R.ok (Vl.sub ⟨.non,false,b,[]⟩ d,[s0,.own b ((q.map Dd.d).eraseIdx j)])
          | none=>.bad)
         | none=>.bad)=_
        rw[hi]
        show(match (q.map Dd.d)[q.length-1]? with
         | some d=>R.ok (Vl.sub ⟨.non,false,b,[]⟩ d,[s0,Sl.own b ((q.map Dd.d).eraseIdx (q.length-1))])
         | none=>.bad)=_
        rw[A4,Am (by omega)]
        show R.ok (Vl.sub ⟨.non,false,b,[]⟩ _,[s0,Sl.own b ((q.map Dd.d).eraseIdx (q.length-1))])=_
        have he:=gD (l:=q.map Dd.d) (by simpa using hne)
        rw[lM] at he
        rw[he,List.map_dropLast]
       rw[this];rfl
      show O.from _ (tst pg (call pg N) [s0,.own b (q.map Dd.d)] _) _=_
      rw[ht,Al hc,aG,if_pos rfl]
      show(match exs pg (call pg N) [s0,.own b (q.map Dd.d)] (.cons (.pop none 1 none) .nil) with
       | .next σ'=>hJ _ _ f σ'
       | .cnt σ'=>hJ _ _ f σ'
       | .brk σ'=>.next σ'
       | o=>o)=_
      rw[cs hp rfl]
      exact h2
  . refine⟨q,⟨[],by rw[Ax]⟩,by omega,?_⟩
    show O.from _ (tst pg (call pg N) [s0,.own b (q.map Dd.d)] _) _=_
    rw[ht,Ao hc,aG,if_neg bN]
theorem aBt{N m l:Nat}(h:nJ N m l){p:List Dd}(hl:p.length<=4)(hp:∀d∈p,Ok m l d):∃(q:List Dd) (b:Bool),q.length<=4/\(∀d∈q,Ok m l d)/\cntP q<=8/\call pg (N+1) 33 [prD p]=.ok (prD q,true,b):=by
 obtain⟨q,⟨r,hr⟩,h1,h2⟩:=rJ h (b:=!noLs (p.map Dd.d)) (.sh true (prD p)) 4 p zL hl (by decide) (by omega) hp
 refine⟨q,!noLs (p.map Dd.d),by rw[hr,lA] at hl;omega,λd hd=>hp d (by rw[hr];exact Bd _ hd),h1,?_⟩
 refine aM (F:=f33) (v:=⟨prD q,true,!noLs (p.map Dd.d),[]⟩) rfl rfl ?_
 refine cs (σ':=[.sh true (prD p),.own (!noLs (p.map Dd.d)) (p.map Dd.d)]) ?_ (cs h2 rfl)
 show ex pg (call pg N) [.sh true (prD p),.dead] (.set (.n 1) (.bi .list (.cons (.v 0) .nil)))=_
 rw[dI,fW (z:=⟨prD p,true,true&&!noLs (p.map Dd.d),if noLs (p.map Dd.d)=true then [] else []⟩) aEV rfl,aG]
 by_cases hb:noLs (p.map Dd.d)=true
 . rw[if_pos hb,hb];rfl
 . have hb':noLs (p.map Dd.d)=false:=by simpa using hb
   rw[if_neg hb,hb'];rfl
theorem aBu{N m l:Nat}(h:aBr N m l){p:List Dd}(hl:p.length<=100)(hp:∀d∈p,Ok m l d)(hc:cntP p<=8):call pg (N+1) 8 [prD p]=.ok (.non,false,false):=by
 have ht:tst pg (call pg N) [.sh true (prD p)] (.cmp .Gt (.call 9 (.cons (.v 0) .nil)) (.c (.int 8)))=.ok false:=by
  refine(eU (x:=.cl (.int (cntP p))) (y:=.cl (.int 8)) (cE (x:=⟨prD p,false,true,[]⟩) rfl (h p hl hp)) rfl rfl).trans ?_
  rw[Ao (by omega)]
 have:exs pg (call pg N) [.sh true (prD p)] f8.body=.next [.sh true (prD p)]:=cs (dW ht) rfl
 show iZ pg (call pg N) 8 [prD p]=_
 unfold iZ
 show(match exs pg (call pg N) [.sh true (prD p)] f8.body with|.ret v=>R.ok (v.d,v.fr,v.pa)|.next _=>R.ok (.non,false,false)|.exc x _=>R.exc x|_=>R.bad)=_
 rw[this]
theorem aAB(v:Vl)(d:D):(Vl.sub v d).d=d:=by unfold Vl.sub;split <;> rfl
theorem aIa(ps:List (Nat×Sm)):noL (Dd.put ps).d=true:=by rw[gR];exact aAn rfl (iK ps)
theorem aIb(g:Cn)(ps:List (Nat×Sm)):noL (Dd.wait g ps).d=true:=by rw[eI];simp[noL,noLs,g.noL,eS]
section
variable {P:Pg} {cl:Caller} {σ:Sg}
theorem aIc{f:Nat}{a:E}{v:Vl}{α:Type}{ts:List α}{g:α->D}(ha:walk P cl σ (.seq a)=.ok (ts.map λt=>Vl.sub v (g t),[]))(hl:ts.length<=lim)(h:∀t∈ts,cl f [g t]=.ok (g t,true,false)) :
 ev P cl σ (.comp 1 [] (.n 0) (.seq a) .nil (.call f (.cons (.v 0) .nil)))=.ok ⟨.lst (ts.map g),true,false,[]⟩:=by
 rw[aAh (g:=λx=>⟨x.d,true,false,[]⟩) ha (by rw[lM];exact hl) λx hx=>?_]
 . rw[Bc]
   have:(ts.map ((λx:Vl=>Vl.mk x.d true false [])∘λt=>Vl.sub v (g t)))=ts.map λt=>Vl.mk (g t) true false []:=Dh λt _=>by show Vl.mk (Vl.sub v (g t)).d true false []=_;rw[aAB]
   rw[this,aAw]
 . obtain⟨t,ht,rfl⟩:=AH.mp hx
   obtain⟨y,e1,e2⟩:=aAA v (g t) 0
   refine⟨[(Vl.sub v (g t)).slot],rfl,cE (x:=y) e1 ?_⟩
   rw[e2,aAB];exact h t ht
end
def aEW(N m l:Nat):Prop:=∀p:List Dd,p.length<=100->(∀d∈p,Ok m l d)->call pg N 37 [prD p]=.ok (prD p,true,false)
abbrev aKF:Ss:=match hdS (drp 1 f37.body) with|.for _ _ b=>b|_=>.nil
theorem aDt{N m l:Nat}(h:∀l',l=l'+1->aEW N m l'){d:Dd}(o:Ok m l d)(s0:Sl){ds:List D}(hl:ds.length<lim):exs pg (call pg N) [s0,.own false ds,sd d.d] aKF=.next [s0,.own false (ds++[d.d]),sd d.d]:=by
 have v2:ev pg (call pg N) [s0,.own false ds,sd d.d] (.v 2)=.ok (pv d.d):=jR 2 d.d
 have fin:∀{e:E} {f:Bool},ev pg (call pg N) [s0,.own false ds,sd d.d] e=.ok ⟨d.d,f,false,[]⟩->exs pg (call pg N) [s0,.own false ds,sd d.d] (.cons (.app 1 e) .nil)=.next [s0,.own false (ds++[d.d]),sd d.d]:=λq=>cs (yJ q rfl hl rfl rfl) rfl
 cases d with
 | put ps=>
  have np:=aIa ps
  rw[gR] at v2 fin np ⊢
  refine cs (σ':=_) ?_ rfl
  rw[aS,bH (aX v2 rfl rfl) (by decide +kernel:(("put" : Str) == "choose")=false),aG,if_neg bN]
  refine cs (σ':=_) ?_ rfl
  rw[aS,bH (aX v2 rfl rfl) (by decide +kernel:(("put" : Str) == "loop")=false),aG,if_neg bN]
  refine fin (f:=false) (v2.trans ?_)
  unfold pv
  rw[np];rfl
 | wait g ps=>
  have np:=aIb g ps
  rw[eI] at v2 fin np ⊢
  refine cs (σ':=_) ?_ rfl
  rw[aS,bH (aX v2 rfl rfl) (by decide +kernel:(("wait" : Str) == "choose")=false),aG,if_neg bN]
  refine cs (σ':=_) ?_ rfl
  rw[aS,bH (aX v2 rfl rfl) (by decide +kernel:(("wait" : Str) == "loop")=false),aG,if_neg bN]
  refine fin (f:=false) (v2.trans ?_)
  unfold pv
  rw[np];rfl
 | cho q=>
  cases l with
  | zero=>exact o.elim
  | succ l=>
   have o:2<=q.length/\q.length<=4/\∀p∈q,p.length<=4/\∀d∈p,Ok m l d:=o
   rw[lE] at v2 fin ⊢
   refine cs (σ':=_) ?_ rfl
   rw[aS,bH (aX v2 rfl rfl) (by decide +kernel:(("choose" : Str) == "choose")=true),aG,if_pos rfl]
   have:=aIc (f:=37) (a:=.idx (.v 2) (.c (.int 1))) (v:=⟨.non,false,true,[]⟩) (ts:=q) (g:=prD) (gN (fr:=false) (aX v2 rfl rfl)) (by unfold lim;omega) λp hp=>h l rfl p (by have:=(o.2.2 p hp).1;omega) (o.2.2 p hp).2
   refine fin (f:=false) ?_
   rw[yE,aE,aE,this]
   rfl
 | lp k p=>
  cases l with
  | zero=>exact o.elim
  | succ l=>
   have o:k<=8/\p.length<=4/\∀d∈p,Ok m l d:=o
   rw[wF] at v2 fin ⊢
   refine cs (σ':=_) ?_ rfl
   rw[aS,bH (aX v2 rfl rfl) (by decide +kernel:(("loop" : Str) == "choose")=false),aG,if_neg bN]
   refine cs (σ':=_) ?_ rfl
   rw[aS,bH (aX v2 rfl rfl) (by decide +kernel:(("loop" : Str) == "loop")=true),aG,if_pos rfl]
   refine fin (f:=false) ?_
   rw[yE,aE,aE,aE,aX (z:=.cl (.int (k:Int))) v2 rfl rfl,cE (x:=⟨prD p,false,true,[]⟩) (aX v2 rfl rfl) (h l rfl p (by omega) o.2.2)]
   rfl
theorem tN{N m l:Nat}(h:∀l',l=l'+1->aEW N m l'):aEW (N+1) m l:=λp hl hp=>by
 obtain⟨σ',ef,s,hσ⟩:=fP (P:=pg) (cl:=call pg N) (σ:=[.sh true (prD p),.own false [],.dead]) (t:=.n 2) (b:=aKF) (λi σ=>∃s,σ=[.sh true (prD p),.own false ((p.take i).map Dd.d),s]) (gN aEV) ⟨.dead,rfl⟩ λi hi σ ⟨s,e⟩=>by
  rw[lM] at hi
  subst e
  rw[Bm]
  refine⟨[.sh true (prD p),.own false ((p.take i).map Dd.d),sd p[i].d],_,rfl,aDt h (hp _ (A9 hi)) _ (by rw[lM,BE];unfold lim;omega),sd p[i].d,?_⟩
  rw[cF hi,AJ]
  rfl
 subst hσ
 rw[lM,Ca] at ef
 exact aM (F:=f37) (v:=⟨prD p,true,false,[]⟩) rfl rfl (cs rfl (cs ef rfl))
mutual
def unr:Dd->List Dd
 | .put ps=>[.put ps]
 | .wait g ps=>[.wait g ps]
 | .cho q=>[.cho q]
 | .lp k p=>(Ad k (unrP p)).flatten
def unrP:List Dd->List Dd
 | []=>[]
 | d::p=>unr d++unrP p
end
theorem pP:∀p q:List Dd,unrP (p++q)=unrP p++unrP q
 | [],q=>rfl
 | d::p,q=>by rw[F0,unrP,pP p q,unrP,Ba]
theorem pQ:∀(a b:List D),noLs (a++b)=(noLs a&&noLs b)
 | [],_=>rfl
 | x::a,b=>by
  show(noL x&&noLs (a++b))=(noL x&&noLs a&&noLs b)
  rw[pQ a b,FZ]
theorem wJ(ds:List D):∀k:Nat,noLs (Ad (k+1) ds).flatten=noLs ds
 | 0=>by rw[A0,E5,AB,F1,Ax]
 | k+1=>by rw[A0,AB,pQ,wJ ds k,C9]
theorem jU{α:Type}(xs:List α):∀k:Nat,(Ad k xs).flatten.length=k*xs.length
 | 0=>by simp
 | k+1=>by rw[A0,AB,lA,jU xs k,DV,DW]
abbrev flg(ds:List D):Bool:=!noLs ds
def uD:Nat->Nat
 | 0=>1
 | l+1=>1+32*uD l
theorem yT(l:Nat):1<=uD l:=by cases l <;> simp[uD]
theorem tP{m l:Nat}(h:∀d,Ok m l d->(unr d).length<=uD l):∀(p:List Dd),(∀d∈p,Ok m l d)->(unrP p).length<=p.length*uD l
 | [],_=>by simp[unrP]
 | d::p,hp=>by
  have h1:=h d (hp d Aq)
  have h2:=tP h p λx hx=>hp x (Ag _ hx)
  rw[unrP,lA,lC,DV]
  omega
theorem tQ{m:Nat}:∀(l:Nat) (d:Dd),Ok m l d->(unr d).length<=uD l
 | l,.put ps,_=>by rw[unr];exact yT l
 | l,.wait g ps,_=>by rw[unr];exact yT l
 | l,.cho q,_=>by rw[unr];exact yT l
 | 0,.lp k p,o=>o.elim
 | l+1,.lp k p,o=>by
  have o:k<=8/\p.length<=4/\∀d∈p,Ok m l d:=o
  rw[unr,jU]
  have h1:=tP (tQ l) p o.2.2
  have h3:=B3 (uD l) o.2.1
  have h5:=Ev o.1 (AW h1 h3)
  show k*(unrP p).length<=1+32*uD l
  omega
theorem wK{m l:Nat}(p:List Dd)(h:∀d∈p,Ok m l d):(unrP p).length<=p.length*uD l:=tP (tQ l) p h
theorem aDu{l:Nat}(h:l<=2):uD l<=1100:=by
 rcases(by omega:l=0\/l=1\/l=2) with rfl|rfl|rfl <;> decide
def yU(N m l:Nat):Prop:=∀p:List Dd,p.length<=10->(∀d∈p,Ok m l d)->call pg N 12 [prD p]=.ok (prD (unrP p),true,flg ((unrP p).map Dd.d))
abbrev aKG:Ss:=match hdS (drp 1 f12.body) with|.for _ _ b=>b|_=>.nil
theorem aEX{P:Pg}{cl:Caller}{s0 s2:Sl}{e:E}{acc es:List D}{b:Bool}(hb:(b&&!noLs es)=flg es)(h:ev P cl [s0,.own (flg acc) acc,s2] e=.ok ⟨.lst es,true,b,[]⟩)(hl:acc.length+es.length<=lim):ex P cl [s0,.own (flg acc) acc,s2] (.ext 1 e)=.next [s0,.own (flg (acc++es)) (acc++es),s2]:=by
 show O.from _ (ev P cl [s0,.own (flg acc) acc,s2] e) (λv=>match qS v with|some (v',ds')=>put [s0,.own (flg acc) acc,s2] 1 v' λds=>some (ds++ds')|none=>.bad)=_
 rw[h,aG]
 show put [s0,.own (flg acc) acc,s2] 1 ⟨.non,false,b&&!noLs es,if noLs es=true then [] else []⟩ (λds=>some (ds++es))=_
 rw[show(if noLs es=true then ([]:List Nat) else [])=[] by split <;> rfl]
 show(if (acc++es).length<=lim then O.next [s0,.own (flg acc||(b&&!noLs es)) (acc++es),s2] else .bad)=_
 rw[if_pos (by rw[lA];exact hl),hb]
 unfold flg
 rw[pQ]
 cases noLs acc <;> cases noLs es <;> rfl
theorem nW{α β:Type}(f:α->β)(p:List α):∀k:Nat,(Ad k p).flatten.map f=(Ad k (p.map f)).flatten
 | 0=>rfl
 | k+1=>by rw[A0,AB,AJ,nW f p k,A0,AB]
theorem aEY{ds:List D}{k:Nat}{b:Bool}(hk:k<=8)(hl:ds.length*k<=lim):opD .Mult ⟨.lst ds,true,b,[]⟩ (.cl (.int (k:Int)))=.ok ⟨.lst (Ad k ds).flatten,true,b&&!noLs ds,[]⟩:=by
 have hs:aH (k:Int)=true:=gL (by omega)
 have e:rZ ⟨.lst ds,true,b,[]⟩ (.cl (.int (k:Int)))=R.iff (aH (k:Int)&&decide (ds.length*(k:Int).toNat<=lim)) (R.ok ⟨.lst (Ad (k:Int).toNat ds).flatten,true,b&&!noLs ds,if noLs ds=true then [] else []⟩):=by unfold rZ;rfl
 have e2:opD .Mult ⟨.lst ds,true,b,[]⟩ (.cl (.int (k:Int)))=rZ ⟨.lst ds,true,b,[]⟩ (.cl (.int (k:Int))):=by unfold opD;rfl
 rw[e2,e,hs,Cw,Al hl,show(if noLs ds=true then ([]:List Nat) else [])=[] by split <;> rfl]
 rfl
theorem wL{P:Pg}{cl:Caller}{σ:Sg}{f:Nat}{a:E}{x:Vl}{d:D}{fr b:Bool}(h1:ev P cl σ a=.ok x)(hx:x.al=[])(hp:x.pa=true)(hc:cl f [x.d]=.ok (d,fr,b)):ev P cl σ (.call f (.cons a .nil))=.ok ⟨d,fr,b,[]⟩:=by
 have e:evs P cl σ (.cons a .nil)=.ok [x]:=by rw[aE,h1];rfl
 rw[cV,e,aC]
 show(cl f [x.d] >>= λr=>R.ok (eT [x] r))=_
 rw[hc,aC]
 cases b with
 | false=>rfl
 | true=>
  show R.ok (Vl.mk d fr (aT [x]) (bS [x]))=_
  unfold aT bS
  simp[hp,hx]
theorem aDv{N m l:Nat}(hl2:l<=2)(h:∀l',l=l'+1->yU N m l'){d:Dd}(o:Ok m l d)(s0:Sl){acc:List Dd}(hl:acc.length<=100000) :
 exs pg (call pg N) [s0,.own (flg (acc.map Dd.d)) (acc.map Dd.d),sd d.d] aKG=.next [s0,.own (flg ((acc++unr d).map Dd.d)) ((acc++unr d).map Dd.d),sd d.d]:=by
 have v2:ev pg (call pg N) [s0,.own (flg (acc.map Dd.d)) (acc.map Dd.d),sd d.d] (.v 2)=.ok (pv d.d):=jR 2 d.d
 have hln:=tQ l d o
 have hub:=aDu hl2
 have fin:∀{e:E} {b:Bool},(b&&!noLs ((unr d).map Dd.d))=flg ((unr d).map Dd.d)->ev pg (call pg N) [s0,.own (flg (acc.map Dd.d)) (acc.map Dd.d),sd d.d] e=.ok ⟨.lst ((unr d).map Dd.d),true,b,[]⟩->exs pg (call pg N) [s0,.own (flg (acc.map Dd.d)) (acc.map Dd.d),sd d.d] (.cons (.ext 1 e) .nil)=.next [s0,.own (flg ((acc++unr d).map Dd.d)) ((acc++unr d).map Dd.d),sd d.d]:=λhb q=>by
  rw[AJ]
  exact cs (aEX hb q (by rw[lM,lM];unfold lim;omega)) rfl
 have one:∀x:D,ev pg (call pg N) [s0,.own (flg (acc.map Dd.d)) (acc.map Dd.d),sd d.d] (.v 2)=.ok (pv x)->ev pg (call pg N) [s0,.own (flg (acc.map Dd.d)) (acc.map Dd.d),sd d.d] (.lst (.cons (.v 2) .nil))=.ok ⟨.lst [x],true,flg [x],[]⟩:=λx q=>by
  rw[jP,aE,q,aC,aY,aC,aC]
  show R.ok (Vl.mk (.lst [x]) true (aT [pv x]) (bS [pv x]))=_
  unfold aT bS flg
  simp[noLs]
 cases d with
 | put ps=>
  rw[unr] at fin ⊢
  refine fin (C9 _) ?_
  have v:=one _ v2
  have v2:=v2.trans (congrArg (λd=>R.ok (pv d)) (gR ps))
  exact eK (k:=false) (bH (aX v2 rfl rfl) (by decide +kernel)) v
 | wait g ps=>
  rw[unr] at fin ⊢
  refine fin (C9 _) ?_
  have v:=one _ v2
  have v2:=v2.trans (congrArg (λd=>R.ok (pv d)) (eI g ps))
  exact eK (k:=false) (bH (aX v2 rfl rfl) (by decide +kernel)) v
 | cho q=>
  rw[unr] at fin ⊢
  refine fin (C9 _) ?_
  have v:=one _ v2
  have v2:=v2.trans (congrArg (λd=>R.ok (pv d)) (lE q))
  exact eK (k:=false) (bH (aX v2 rfl rfl) (by decide +kernel)) v
 | lp k p=>
  cases l with
  | zero=>exact o.elim
  | succ l=>
   have o:k<=8/\p.length<=4/\∀d∈p,Ok m l d:=o
   refine fin (b:=flg ((unrP p).map Dd.d)&&!noLs ((unrP p).map Dd.d)) ?_ ?_
   . rw[unr,nW]
     unfold flg
     cases k with
     | zero=>simp[noLs]
     | succ k=>rw[wJ,C9,C9]
   have v2:=v2.trans (congrArg (λd=>R.ok (pv d)) (wF k p))
   refine eK (k:=true) (bH (aX v2 rfl rfl) (by decide +kernel)) ?_
   have hlp:=wK p o.2.2
   have hub':=aDu (l:=l) (by omega)
   have h3:=B3 (uD l) o.2.1
   have h4:=B3 (unrP p).length o.1
   show ev _ _ _ (.op .Mult _ _)=_
   rw[eC (wL (x:=⟨prD p,false,true,[]⟩) (aX v2 rfl rfl) rfl rfl (h l rfl p (by omega) o.2.2)) (aX (z:=.cl (.int (k:Int))) v2 rfl rfl) (aEY o.1 (by rw[lM,Ck];unfold lim;omega)),unr,nW]
theorem tR{N m l:Nat}(hl2:l<=2)(h:∀l',l=l'+1->yU N m l'):yU (N+1) m l:=λp hl hp=>by
 have hub:=aDu hl2
 obtain⟨σ',ef,s,hσ⟩:=fP (P:=pg) (cl:=call pg N) (σ:=[.sh true (prD p),.own (flg []) [],.dead]) (t:=.n 2) (b:=aKG) (λi σ=>∃s,σ=[.sh true (prD p),.own (flg ((unrP (p.take i)).map Dd.d)) ((unrP (p.take i)).map Dd.d),s]) (gN aEV) ⟨.dead,rfl⟩ λi hi σ ⟨s,e⟩=>by
  rw[lM] at hi
  subst e
  rw[Bm]
  have hlt:=wK (m:=m) (l:=l) (p.take i) λd hd=>hp d (List.mem_of_mem_take hd)
  have h3:=B3 (uD l) (show(p.take i).length<=10 by rw[BE];omega)
  refine⟨[.sh true (prD p),.own (flg ((unrP (p.take i)).map Dd.d)) ((unrP (p.take i)).map Dd.d),sd p[i].d],_,rfl,aDv hl2 h (hp _ (A9 hi)) _ (by omega),sd p[i].d,?_⟩
  rw[cF hi,pP,show unrP [p[i]]=unr p[i] by rw[unrP,unrP,Ax]]
 subst hσ
 rw[lM,Ca] at ef
 exact aM (F:=f12) (v:=⟨prD (unrP p),true,flg ((unrP p).map Dd.d),[]⟩) rfl rfl (cs rfl (cs ef rfl))
def Rs(f:Dd->Nat->Nat->List (List Way)):List Dd->Nat->Nat->List (List Way)
 | [],_,_=>[]
 | d::ds,b,on=>f d b (if ds.isEmpty then on else b+cnt d)++Rs f ds (b+cnt d) on
def chs(f:List Dd->Nat->List (List Way))(on:Nat):List (List Dd)->Nat->List Way×List (List Way)
 | [],_=>([],[])
 | p::q,b=>(⟨.yes,[],((if cntP p=0 then on else b:Nat):Int)⟩::(chs f on q (b+cntP p)).1,f p b++(chs f on q (b+cntP p)).2)
def Rd:Nat->Dd->Nat->Nat->List (List Way)
 | _,.put ps,_,on=>[[⟨.yes,ps,(on:Int)⟩]]
 | _,.wait g ps,_,on=>[[⟨g,ps,(on:Int)⟩]]
 | l+1,.cho q,here,on=>(chs (λp b=>Rs (Rd l) (unrP p) b on) on q (here+1)).1::(chs (λp b=>Rs (Rd l) (unrP p) b on) on q (here+1)).2
 | _,_,_,_=>[]
def wM:Dd->Prop
 | .lp _ _=>False
 | _=>True
mutual
theorem lH:∀(d:Dd),∀x∈unr d,wM x
 | .put ps,x,h=>by rw[unr,A5] at h;rw[h];trivial
 | .wait g ps,x,h=>by rw[unr,A5] at h;rw[h];trivial
 | .cho q,x,h=>by rw[unr,A5] at h;rw[h];trivial
 | .lp k p,x,h=>by
  rw[unr,DI] at h
  obtain⟨l,h1,h2⟩:=h
  rw[B0 h1] at h2
  exact unrP_nolp p x h2
theorem unrP_nolp:∀(p:List Dd),∀x∈unrP p,wM x
 | [],x,h=>by rw[unrP] at h;cases h
 | d::p,x,h=>by
  rw[unrP] at h
  rcases AS.mp h with z|z
  . exact lH d x z
  . exact unrP_nolp p x z
end
theorem Ok.up{m:Nat}:∀{l:Nat} {d:Dd},Ok m l d->Ok m (l+1) d
 | l,.put _,o=>aDq (by cases l <;> exact o)
 | l,.wait g ps,o=>by
  have o:g.wf m true/\g.sz<=31/\nI m ps:=by cases l <;> exact o
  exact aAy o.1 o.2.1 o.2.2
 | 0,.cho _,o=>o.elim
 | 0,.lp _ _,o=>o.elim
 | l+1,.cho q,o=>⟨o.1,o.2.1,λp hp=>⟨(o.2.2 p hp).1,λd hd=>Ok.up ((o.2.2 p hp).2 d hd)⟩⟩
 | l+1,.lp k p,o=>⟨o.1,o.2.1,λd hd=>Ok.up (o.2.2 d hd)⟩
theorem pR{m:Nat}:∀(l:Nat) (d:Dd),Ok m l d->∀x∈unr d,Ok m l x
 | l,.put ps,o,x,h=>by rw[unr,A5] at h;rw[h];exact o
 | l,.wait g ps,o,x,h=>by rw[unr,A5] at h;rw[h];exact o
 | l,.cho q,o,x,h=>by rw[unr,A5] at h;rw[h];exact o
 | 0,.lp k p,o,x,h=>o.elim
 | l+1,.lp k p,o,x,h=>by
  have o:k<=8/\p.length<=4/\∀d∈p,Ok m l d:=o
  rw[unr,DI] at h
  obtain⟨z,h1,h2⟩:=h
  rw[B0 h1] at h2
  have:∀(p:List Dd),(∀d∈p,Ok m l d)->x∈unrP p->Ok m l x:=λp=>by
   induction p with
   | nil=>intro _ z;rw[unrP] at z;cases z
   | cons d p ih=>
    intro hp z
    rw[unrP] at z
    rcases AS.mp z with z|z
    . exact pR l d (hp d Aq) x z
    . exact ih (λy hy=>hp y (Ag _ hy)) z
  exact Ok.up (this p o.2.2 h2)
theorem fJ{m l:Nat}:∀(p:List Dd),(∀d∈p,Ok m l d)->∀x∈unrP p,Ok m l x
 | [],_,x,h=>by rw[unrP] at h;cases h
 | d::p,hp,x,h=>by
  rw[unrP] at h
  rcases AS.mp h with z|z
  . exact pR l d (hp d Aq) x z
  . exact fJ p (λy hy=>hp y (Ag _ hy)) x z
theorem tS(p:List Dd):∀k:Nat,cntP (Ad k p).flatten=k*cntP p
 | 0=>by rw[Nat.zero_mul];rfl
 | k+1=>by rw[A0,AB,dN,tS p k,DV,DW]
mutual
theorem lI:∀(d:Dd),cntP (unr d)=cnt d
 | .put ps=>by rw[unr,cntP,cntP,BR]
 | .wait g ps=>by rw[unr,cntP,cntP,BR]
 | .cho q=>by rw[unr,cntP,cntP,BR]
 | .lp k p=>by rw[unr,tS,cnt,cnt_unr p]
theorem cnt_unr:∀(p:List Dd),cntP (unrP p)=cntP p
 | []=>by rw[unrP]
 | d::p=>by rw[unrP,dN,lI d,cnt_unr p,cntP]
end
theorem aEZ{d:Dd}(h:wM d):1<=cnt d:=by
 cases d with
 | put=>rw[cnt];exact Aj _
 | wait=>rw[cnt];exact Aj _
 | cho q=>rw[cnt];omega
 | lp=>exact h.elim
theorem wN(p:List Dd):cntP p=0↔unrP p=[]:=by
 rw[<-cnt_unr]
 have:=unrP_nolp p
 cases hq:unrP p with
 | nil=>simp[cntP]
 | cons d q=>
  rw[hq] at this
  have h1:=aEZ (this d Aq)
  rw[cntP]
  constructor
  . intro z;omega
  . intro z;cases z
theorem wP:∀{ds:List D},noLs ds=true->∀d∈ds,noL d=true
 | [],_,d,h=>by cases h
 | x::ds,h,d,hd=>by
  have h:(noL x&&noLs ds)=true:=h
  rw[bA] at h
  rcases AD.mp hd with rfl|z
  . exact h.1
  . exact wP h.2 d z
theorem mM{f:Dd->Nat->Nat->List (List Way)}:∀(ds:List Dd) (b on:Nat),(∀d∈ds,∀b on,(f d b on).length=cnt d)->(Rs f ds b on).length=cntP ds
 | [],_,_,_=>rfl
 | d::ds,b,on,h=>by rw[Rs,lA,h d Aq,mM ds _ _ λx hx=>h x (Ag _ hx),cntP]
theorem lJ{f:List Dd->Nat->List (List Way)}{on:Nat}:∀(q:List (List Dd)) (b:Nat),(∀p∈q,∀b,(f p b).length=cntP p)->(chs f on q b).1.length=q.length/\(chs f on q b).2.length=cntQ q
 | [],_,_=>⟨rfl,rfl⟩
 | p::q,b,h=>by
  obtain⟨h1,h2⟩:=lJ (f:=f) (on:=on) q (b+cntP p) λx hx=>h x (Ag _ hx)
  exact⟨by rw[chs,lC,h1,lC],by rw[chs,lA,h p Aq,h2,cntQ]⟩
theorem iL{m:Nat}:∀(l:Nat) (d:Dd) (b on:Nat),wM d->Ok m l d->(Rd l d b on).length=cnt d
 | l,.put ps,b,on,_,_=>by cases l <;> rfl
 | l,.wait g ps,b,on,_,_=>by cases l <;> rfl
 | 0,.cho q,b,on,_,o=>o.elim
 | l+1,.cho q,b,on,_,o=>by
  have o:2<=q.length/\q.length<=4/\∀p∈q,p.length<=4/\∀d∈p,Ok m l d:=o
  rw[Rd,lC,(lJ q (b+1) λp hp b=>(mM _ _ _ λd hd b on=>iL l d b on (unrP_nolp p d hd) (fJ p (o.2.2 p hp).2 d hd)).trans (cnt_unr p)).2,cnt,DW]
 | l,.lp k p,_,_,n,_=>n.elim
theorem bW{m l:Nat}(p:List Dd)(h:∀d∈p,Ok m l d)(b on:Nat):(Rs (Rd l) (unrP p) b on).length=cntP p:=
 (mM _ _ _ λd hd b on=>iL l d b on (unrP_nolp p d hd) (fJ p h d hd)).trans (cnt_unr p)
theorem aDw{f:Dd->Nat->Nat->List (List Way)}:∀(xs ys:List Dd) (b on:Nat),Rs f (xs++ys) b on=Rs f xs b (if ys.isEmpty then on else b+cntP xs)++Rs f ys (b+cntP xs) on
 | [],ys,b,on=>by rw[Dc,Rs,Dc,cntP,BR]
 | x::xs,ys,b,on=>by
  rw[F0,Rs,aDw xs ys,Rs,cntP,Ba]
  congr 1
  . cases xs with
    | nil=>cases ys <;> simp[cntP]
    | cons=>rfl
  . rw[Cq]
theorem aKH{P:Pg}{cl:Caller}{σ:Sg}{i:Nat}{e:E}{ds ds':List D}(h:ev P cl σ e=.ok ⟨.lst ds',true,false,[]⟩)(hi:σ[i]? = some (.own false ds))(hl:ds.length+ds'.length<=lim):ex P cl σ (.ext i e)=.next (σ.set i (.own false (ds++ds'))):=by
 show O.from _ (ev P cl σ e) (λv=>match qS v with|some (v',ds')=>put σ i v' λds=>some (ds++ds')|none=>.bad)=_
 rw[h,aG]
 show put σ i ⟨.non,false,false&&!noLs ds',if noLs ds'=true then [] else []⟩ (λds=>some (ds++ds'))=_
 rw[show(if noLs ds'=true then ([]:List Nat) else [])=[] by split <;> rfl]
 unfold put hZ
 rw[bG,hi]
 show(if (ds++ds').length<=lim then O.next (σ.set i (.own (false||(false&&!noLs ds')) (ds++ds'))) else .bad)=_
 rw[if_pos (by rw[lA];exact hl)]
 rfl
theorem wQ:∀(ds:List D) (a:Int) (i:Nat) (h:i<(dD a ds).length),∃h':i<ds.length,(dD a ds)[i]=.tup [.int (a+i),ds[i]]
 | [],a,i,h=>absurd h (FC _)
 | d::ds,a,0,h=>⟨Nat.succ_pos _,by show D.tup [.int a,d]=_;simp⟩
 | d::ds,a,i+1,h=>by
  have hi:i<(dD (a+1) ds).length:=by simpa[dD] using h
  obtain⟨h',e⟩:=wQ ds (a+1) i hi
  refine⟨Nat.succ_lt_succ h',?_⟩
  show(dD (a+1) ds)[i]'hi=_
  rw[e]
  simp only[List.getElem_cons_succ]
  congr 3
  omega
theorem pS:∀(ds:List D) (a:Int),(dD a ds).length=ds.length
 | [],_=>rfl
 | d::ds,a=>by show(dD (a+1) ds).length+1=_;rw[pS ds];rfl
theorem aId{σ:Sg}{ds:List D}{al:List Nat}{i:Int}{d:D}{j k:Nat}(hd:d∈ds):bJ σ (Vl.sub ⟨.lst ds,false,flg ds,al⟩ (.tup [.int i,d])) (.t [j,k])=.ok ((σ.set j (.sh false (.int i))).set k (sd d)):=by
 have hn:noL (.tup [.int i,d])=noL d:=by simp[noL,noLs]
 have go:∀v:Vl,v.d=.tup [.int i,d]->bJ σ v (.t [j,k])=.ok ((σ.set j (v.sub (.int i)).slot).set k (v.sub d).slot):=λv e=>by unfold bJ;simp only[e];rfl
 rw[go _ (aAB _ _)]
 congr 2
 unfold sd Vl.sub
 by_cases h:noL d=true
 . rw[if_pos h,if_pos h]
 . have hf:noLs ds=false:=by
    cases q:noLs ds with
    | false=>rfl
    | true=>exact absurd (wP q d hd) h
   rw[if_neg h,if_neg (by rw[hn];exact h),if_neg h]
   unfold Vl.slot flg
   rw[hf];rfl
theorem mO{v:Vl}{d:D}(h:noL d=true):Vl.sub v d=.cl d:=by unfold Vl.sub;rw[if_pos h]
theorem aBv(n:Nat)(ps:List (Nat×Sm)):call pg (n+1) 0 [(Dd.put ps).d]=.ok (Cn.yes.d,false,false):=by
 rw[gR]
 exact aM (F:=f0) (v:=.cl Cn.yes.d) rfl rfl (cX (eK (k:=false) (bH (aX rfl rfl rfl) (by decide +kernel)) rfl))
theorem yV(n:Nat)(g:Cn)(ps:List (Nat×Sm)):call pg (n+1) 0 [(Dd.wait g ps).d]=.ok (g.d,false,false):=by
 rw[eI]
 refine aM (F:=f0) (v:=.cl g.d) rfl rfl (cX (eK (k:=true) (bH (aX rfl rfl rfl) (by decide +kernel)) ?_))
 refine aX rfl rfl ?_
 show R.ok (Vl.sub _ g.d)=_
 rw[mO g.noL]
theorem yW(n:Nat)(ps:List (Nat×Sm))(on:Int):call pg (n+2) 1 [(Dd.put ps).d,.int on]=.ok (Way.d ⟨.yes,ps,on⟩,false,false):=by
 have h0:=aBv n ps
 rw[gR] at h0 ⊢
 refine aM (F:=f1) (v:=.cl (Way.d ⟨.yes,ps,on⟩)) rfl rfl (cX (mI (cE (x:=pv (.tup [.str "put",dF ps])) rfl h0) (aX (y:=.cl (.int (-1))) rfl rfl ?_) rfl))
 show R.ok (Vl.sub _ (dF ps))=_
 rw[mO (iK ps)]
theorem wR(n:Nat)(g:Cn)(ps:List (Nat×Sm))(on:Int):call pg (n+2) 1 [(Dd.wait g ps).d,.int on]=.ok (Way.d ⟨g,ps,on⟩,false,false):=by
 have h0:=yV n g ps
 rw[eI] at h0 ⊢
 refine aM (F:=f1) (v:=.cl (Way.d ⟨g,ps,on⟩)) rfl rfl (cX (mI (cE (x:=pv (.tup [.str "wait",g.d,dF ps])) rfl h0) (aX (y:=.cl (.int (-1))) rfl rfl ?_) rfl))
 show R.ok (Vl.sub _ (dF ps))=_
 rw[mO (iK ps)]
theorem aFa{P:Pg}{cl:Caller}{σ:Sg}{e:E}{w:Way}(h:ev P cl σ e=.ok (.cl w.d)):ev P cl σ (.lst (.cons (.lst (.cons e .nil)) .nil))=.ok ⟨.lst (aF [[w]]),true,false,[]⟩:=by
 have h1:ev P cl σ (.lst (.cons e .nil))=.ok ⟨.lst [w.d],true,false,[]⟩:=by rw[jP,aE,h];rfl
 rw[jP,aE,h1]
 rfl
def ChF(N m l:Nat):Prop:=∀(q:List (List Dd)) (b on:Nat),q.length<=4->(∀p∈q,p.length<=4/\∀d∈p,Ok m l d)->cntQ q<=8->call pg N 28 [.lst (q.map prD),.int b,.int on]=.ok (.lst (aF ((chs (λp b=>Rs (Rd l) (unrP p) b on) on q (b+1)).1::(chs (λp b=>Rs (Rd l) (unrP p) b on) on q (b+1)).2)),true,false)
def DrF(N m l:Nat):Prop:=∀(d:Dd) (b on:Nat),wM d->Ok m l d->cnt d<=8->call pg N 27 [d.d,.int b,.int on]=.ok (.lst (aF (Rd l d b on)),true,false)
def RfF(N m l:Nat):Prop:=∀(p:List Dd) (b on:Nat),p.length<=10->(∀d∈p,Ok m l d)->cntP p<=8->call pg N 11 [prD p,.int b,.int on]=.ok (.lst (aF (Rs (Rd l) (unrP p) b on)),true,false)
theorem yX{N m l:Nat}(h:∀l',l=l'+1->ChF (N+2) m l'):DrF (N+3) m l:=λd b on hn o hc=>by
 cases d with
 | put ps=>
  have hw:=yW N ps (on:Int)
  rw[show Rd l (.put ps) b on=[[⟨.yes,ps,(on:Int)⟩]] by cases l <;> rfl]
  rw[gR] at hw ⊢
  exact aM (F:=f27) (v:=⟨.lst (aF [[⟨.yes,ps,(on:Int)⟩]]),true,false,[]⟩) rfl rfl (cX (eK (k:=false) (bH (aX rfl rfl rfl) (by decide +kernel)) (aFa (kZ (x:=pv (.tup [.str "put",dF ps])) (y:=.cl (.int on)) rfl rfl hw))))
 | wait g ps=>
  have hw:=wR N g ps (on:Int)
  rw[show Rd l (.wait g ps) b on=[[⟨g,ps,(on:Int)⟩]] by cases l <;> rfl]
  rw[eI] at hw ⊢
  exact aM (F:=f27) (v:=⟨.lst (aF [[⟨g,ps,(on:Int)⟩]]),true,false,[]⟩) rfl rfl (cX (eK (k:=false) (bH (aX rfl rfl rfl) (by decide +kernel)) (aFa (kZ (x:=pv (.tup [.str "wait",g.d,dF ps])) (y:=.cl (.int on)) rfl rfl hw))))
 | cho q=>
  cases l with
  | zero=>exact o.elim
  | succ l=>
   have o:2<=q.length/\q.length<=4/\∀p∈q,p.length<=4/\∀d∈p,Ok m l d:=o
   rw[cnt] at hc
   have hw:=h l rfl q b on o.2.1 o.2.2 (by omega)
   rw[lE,Rd]
   exact aM (F:=f27) (v:=⟨.lst (aF _),true,false,[]⟩) rfl rfl (cX (eK (k:=true) (bH (aX rfl rfl rfl) (by decide +kernel)) (dB (x:=⟨.lst (q.map prD),false,true,[]⟩) (y:=.cl (.int b)) (z:=.cl (.int on)) (aX rfl rfl rfl) rfl rfl hw)))
 | lp k p=>exact hn.elim
theorem gA(p q:List (List Dd)):cntQ (p++q)=cntQ p+cntQ q:=by rw[iX,iX,iX,AJ,Ee]
theorem bQ(h:List (List Way)):(aF h).length=h.length:=lM _
theorem aIe{P:Pg}{cl:Caller}{σ:Sg}{i j:Nat}{ds ds':List D}(hij:i≠j)(hi:σ[i]? = some (.own false ds))(hj:σ[j]? = some (.own false ds'))(hl:ds.length+ds'.length<=lim) :
 ∃s,ex P cl σ (.extV i j)=.next ((σ.set j s).set i (.own false (ds++ds'))):=by
 have e:ex P cl σ (.extV i j)=(match σ[j]? with|some (.own pa ds)=>if i≠j then put σ i ⟨.non,false,pa&&!noLs ds,if noLs ds then [] else [j]⟩ λes=>some (es++ds) else .bad|_=>.bad):=id rfl
 rw[e,hj]
 show ∃s,(if i≠j then put σ i ⟨.non,false,false&&!noLs ds',if noLs ds' then [] else [j]⟩ (λes=>some (es++ds')) else .bad)=_
 rw[if_pos hij]
 have hlt:j<σ.length:=(Aw.mp hj).1
 have fin:∀τ:Sg,τ[i]? = some (.own false ds)->∀al,freeze σ al=τ->put σ i ⟨.non,false,false&&!noLs ds',al⟩ (λes=>some (es++ds'))=.next (τ.set i (.own false (ds++ds'))):=λτ ht al ha=>by
  unfold put hZ
  show(match (match (freeze σ al)[i]? with|some (.own pa ds)=>some (pa,ds)|_=>none) with
   | some (pa,ds)=>(match some (ds++ds') with
    | some ds''=>if ds''.length<=lim then O.next ((freeze σ al).set i (.own (pa||(false&&!noLs ds')) ds'')) else .bad
    | none=>.bad)
   | none=>.bad)=_
  rw[ha,ht]
  show(if (ds++ds').length<=lim then O.next (τ.set i (.own (false||(false&&!noLs ds')) (ds++ds'))) else .bad)=_
  rw[if_pos (by rw[lA];exact hl)]
  rfl
 by_cases hn:noLs ds'=true
 . refine⟨.own false ds',?_⟩
   rw[if_pos hn,fin σ hi [] rfl]
   congr 2
   apply Fi
   intro k
   by_cases hk:j=k
   . subst hk;rw[Ap hlt,hj]
   . rw[Ac hk]
 . refine⟨.sh false (.lst ds'),?_⟩
   rw[if_neg hn]
   refine fin (σ.set j (.sh false (.lst ds'))) (by rw[Ac (Cz hij)];exact hi) [j] ?_
   show(match σ[j]? with|some s=>σ.set j s.freeze|none=>σ)=_
   rw[hj]
   rfl
abbrev xf(q:List (List Dd))(b on:Nat)(ws:List Way)(rs:List (List Way))(s5 s6 s7:Sl):Sg:=[.sh true (.lst (q.map prD)),.sh true (.int b),.sh true (.int on),.own false (ws.map Way.d),.own false (aF rs),s5,s6,s7]
abbrev aKI:Ss:=match hdS (drp 2 f28.body) with|.for _ _ b=>b|_=>.nil
theorem aFb{N m l:Nat}(h:RfF N m l){q:List (List Dd)}{b on:Nat}{ws:List Way}{rs:List (List Way)}(hw:ws.length<=100)(hr:rs.length<=100){p:List Dd}(hl:p.length<=4)(hp:∀d∈p,Ok m l d)(hc:cntP p<=8)(s6 s7:Sl) :
 ∃s7',exs pg (call pg N) (xf q b on ws rs (sd (prD p)) s6 s7) aKI=.next (xf q b on (ws++[⟨.yes,[],((if cntP p=0 then on else b+1+rs.length:Nat):Int)⟩]) (rs++Rs (Rd l) (unrP p) (b+1+rs.length) on) (sd (prD p)) (.sh false (.int ((b+1+rs.length:Nat):Int))) s7'):=by
 have hlen:=bW p hp (b+1+rs.length) on
 have hin:=h p (b+1+rs.length) on (by omega) hp hc
 generalize hI:Rs (Rd l) (unrP p) (b+1+rs.length) on=inn at hlen hin ⊢
 have e1:ex pg (call pg N) (xf q b on ws rs (sd (prD p)) s6 s7) (.set (.n 6) (.op .Add (.op .Add (.v 1) (.c (.int 1))) (.bi .len (.cons (.v 4) .nil))))=.next (xf q b on ws rs (sd (prD p)) (.sh false (.int ((b+1+rs.length:Nat):Int))) s7):=by
  refine(jE (eC (eC (x:=.cl (.int b)) rfl rfl (add_int _ _)) (fW (x:=⟨.lst (aF rs),false,false,[4]⟩) rfl (cP _ _ _ _)) ((add_int _ _).trans (by rw[bQ,show((b:Int)+1+(rs.length:Int))=((b+1+rs.length:Nat):Int) by omega])))).trans rfl
 have e2:ex pg (call pg N) (xf q b on ws rs (sd (prD p)) (.sh false (.int ((b+1+rs.length:Nat):Int))) s7) (.set (.n 7) (.call 11 (.cons (.v 5) (.cons (.v 6) (.cons (.v 2) .nil)))))=.next (xf q b on ws rs (sd (prD p)) (.sh false (.int ((b+1+rs.length:Nat):Int))) (.own false (aF inn))):=
  (aDl (dB (a:=.v 5) (b:=.v 6) (c:=.v 2) (x:=pv (prD p)) (y:=.cl (.int ((b+1+rs.length:Nat):Int))) (z:=.cl (.int on)) (show ev _ _ (xf q b on ws rs (sd (prD p)) _ _) (.v 5)=_ from jR 5 (prD p)) rfl rfl hin)).trans rfl
 have et:ev pg (call pg N) (xf q b on ws rs (sd (prD p)) (.sh false (.int ((b+1+rs.length:Nat):Int))) (.own false (aF inn))) (.ife (.v 7) (.v 6) (.v 2))=.ok (.cl (.int ((if cntP p=0 then on else b+1+rs.length:Nat):Int))):=by
  by_cases hz:cntP p=0
  . have:inn=[]:=CG.mp (by omega)
    subst this
    rw[if_pos hz]
    exact eK (k:=false) rfl rfl
  . rw[if_neg hz]
    cases inn with
    | nil=>exact absurd hlen.symm hz
    | cons r rr=>exact eK (k:=true) rfl rfl
 have e3:ex pg (call pg N) (xf q b on ws rs (sd (prD p)) (.sh false (.int ((b+1+rs.length:Nat):Int))) (.own false (aF inn))) (.app 3 (.tup (.cons (.tup (.cons (.c (.str "yes")) .nil)) (.cons (.tup .nil) (.cons (.ife (.v 7) (.v 6) (.v 2)) .nil)))))=.next (xf q b on (ws++[⟨.yes,[],((if cntP p=0 then on else b+1+rs.length:Nat):Int)⟩]) rs (sd (prD p)) (.sh false (.int ((b+1+rs.length:Nat):Int))) (.own false (aF inn))):=
  (yJ (v:=.cl (Way.d ⟨.yes,[],((if cntP p=0 then on else b+1+rs.length:Nat):Int)⟩)) (mI (x:=Cn.yes.d) (y:=dF []) rfl rfl et) rfl (by rw[lM];unfold lim;omega) rfl (by rw[AJ];rfl)).trans rfl
 obtain⟨s,e4⟩:=aIe (P:=pg) (cl:=call pg N) (σ:=xf q b on (ws++[⟨.yes,[],((if cntP p=0 then on else b+1+rs.length:Nat):Int)⟩]) rs (sd (prD p)) (.sh false (.int ((b+1+rs.length:Nat):Int))) (.own false (aF inn))) (i:=4) (j:=7) (ds:=aF rs) (ds':=aF inn) (by decide) rfl rfl (by rw[bQ,bQ];unfold lim;omega)
 refine⟨s,cs e1 (cs e2 (cs e3 (cs e4 ?_)))⟩
 have ha:aF (rs++inn)=aF rs++aF inn:=AJ
 refine HF (b:=O.next [.sh true (.lst (q.map prD)),.sh true (.int b),.sh true (.int on),.own false ((ws++[(⟨.yes,[],((if cntP p=0 then on else b+1+rs.length:Nat):Int)⟩:Way)]).map Way.d),.own false (aF rs++aF inn),sd (prD p),.sh false (.int ((b+1+rs.length:Nat):Int)),s]) rfl ?_
 rw[<-ha]
theorem iY{α:Type}{l:List α}{i:Nat}(h:i<l.length):l.drop i=l[i]::l.drop (i+1):=Bs h
theorem wU{ws:List Way}{rs:List (List Way)}(hr:rs.length<=100):∃al,opD .Add (gW [⟨.lst (ws.map Way.d),false,false,[3]⟩]) ⟨.lst (aF rs),false,false,[4]⟩=.ok ⟨.lst (aF (ws::rs)),true,false,al⟩:=by
 have e:opD .Add (gW [⟨.lst (ws.map Way.d),false,false,[3]⟩]) ⟨.lst (aF rs),false,false,[4]⟩=uJ (gW [⟨.lst (ws.map Way.d),false,false,[3]⟩]) ⟨.lst (aF rs),false,false,[4]⟩:=by unfold opD;rfl
 rw[e]
 refine⟨(if noLs [D.lst (ws.map Way.d)] then [] else [3])++(if noLs (aF rs) then [] else [4]),?_⟩
 unfold uJ
 show R.iff (decide ([D.lst (ws.map Way.d)].length+(aF rs).length<=lim)) _=_
 rw[Al (by rw[bQ];simp;unfold lim;omega)]
 rfl
theorem aDx{N m l:Nat}(h:RfF N m l):ChF (N+1) m l:=λq b on hq hp hc=>by
 let f:List Dd->Nat->List (List Way):=λp b=>Rs (Rd l) (unrP p) b on
 have hf:∀p∈q,∀b,(f p b).length=cntP p:=λp hq b=>bW p (hp p hq).2 b on
 obtain⟨σ',ef,ws,rs,s5,s6,s7,hσ,h1,h2,h3,h4⟩:=fP (P:=pg) (cl:=call pg N) (σ:=xf q b on [] [] .dead .dead .dead) (t:=.n 5) (b:=aKI) (λi σ=>∃(ws:List Way) (rs:List (List Way)) (s5 s6 s7:Sl),σ=xf q b on ws rs s5 s6 s7/\ws.length=i/\rs.length=cntQ (q.take i)/\ws++(chs f on (q.drop i) (b+1+rs.length)).1=(chs f on q (b+1)).1/\rs++(chs f on (q.drop i) (b+1+rs.length)).2=(chs f on q (b+1)).2) (gN (f:=prD) (a:=.v 0) (fr:=false) rfl)
  ⟨[],[],.dead,.dead,.dead,rfl,rfl,rfl,rfl,rfl⟩ λi hi σ ⟨ws,rs,s5,s6,s7,e,h1,h2,h3,h4⟩=>by
   rw[lM] at hi
   subst e
   rw[Bm]
   have hm:=A9 hi
   have hct:cntQ (q.take i)+cntP q[i]<=cntQ q:=by
    have:=gA (q.take (i+1)) (q.drop (i+1))
    rw[Cs,cF hi,gA] at this
    rw[this,cntQ,cntQ]
    omega
   obtain⟨s7',et⟩:=aFb h (q:=q) (b:=b) (on:=on) (ws:=ws) (rs:=rs) (by omega) (by omega) (hp _ hm).1 (hp _ hm).2 (by omega) s6 s7
   rw[iY hi,chs] at h3 h4
   refine⟨xf q b on ws rs (sd (prD q[i])) s6 s7,_,rfl,et,_,_,_,_,s7',rfl,by rw[lA,h1];rfl,?_,?_,?_⟩
   . rw[lA,h2,bW _ (hp _ hm).2,cF hi,gA]
     rfl
   . rw[Ba,lA,bW _ (hp _ hm).2,<-Cq]
     exact h3
   . rw[Ba,lA,bW _ (hp _ hm).2,<-Cq]
     exact h4
 subst hσ
 rw[lM] at h1 h2 h3 h4
 rw[Bl,chs,Ax] at h3 h4
 subst h3 h4
 have hlr:=(lJ (on:=on) q (b+1) hf).2
 obtain⟨al,ea⟩:=wU (ws:=(chs f on q (b+1)).1) (rs:=(chs f on q (b+1)).2) (by omega)
 have er:ev pg (call pg N) (xf q b on (chs f on q (b+1)).1 (chs f on q (b+1)).2 s5 s6 s7) (.op .Add (.lst (.cons (.v 3) .nil)) (.v 4))=.ok ⟨.lst (aF ((chs f on q (b+1)).1::(chs f on q (b+1)).2)),true,false,al⟩:=eC (x:=gW [⟨.lst ((chs f on q (b+1)).1.map Way.d),false,false,[3]⟩]) rfl rfl ea
 exact aM (F:=f28) (v:=⟨.lst (aF ((chs f on q (b+1)).1::(chs f on q (b+1)).2)),true,false,al⟩) rfl rfl (cs rfl (cs rfl (cs ef (cX er))))
abbrev rf(p:List Dd)(b on:Nat)(s3:Sl)(acc:List (List Way))(s5 s6 s7 s8:Sl):Sg:=[.sh true (prD p),.sh true (.int b),.sh true (.int on),s3,.own false (aF acc),s5,s6,s7,s8]
abbrev rfB:Ss:=match hdS (drp 2 f11.body) with|.for _ _ b=>b|_=>.nil
theorem aFc{N m l:Nat}(hd:DrF N m l)(hc:yS N m l){p:List Dd}{b on:Nat}{U:List D}{f:Bool}{acc:List (List Way)}(ha:acc.length<=100){d:Dd}(hn:wM d)(o:Ok m l d)(h8:cnt d<=8){i:Nat}(hi:i<U.length)(s7 s8:Sl) :
 ∃s7' s8',exs pg (call pg N) (rf p b on (.sh f (.lst U)) acc (.sh false (.int (i:Int))) (sd d.d) s7 s8) rfB=.next (rf p b on (.sh f (.lst U)) (acc++Rd l d (b+acc.length) (if i+1=U.length then on else b+acc.length+cnt d)) (.sh false (.int (i:Int))) (sd d.d) s7' s8'):=by
 let s3:Sl:=.sh f (.lst U)
 have v6:∀s7 s8,ev pg (call pg N) (rf p b on s3 acc (.sh false (.int (i:Int))) (sd d.d) s7 s8) (.v 6)=.ok (pv d.d):=λ_ _=>jR 6 d.d
 have e1:ex pg (call pg N) (rf p b on s3 acc (.sh false (.int (i:Int))) (sd d.d) s7 s8) (.set (.n 7) (.op .Add (.v 1) (.bi .len (.cons (.v 4) .nil))))=.next (rf p b on s3 acc (.sh false (.int (i:Int))) (sd d.d) (.sh false (.int ((b+acc.length:Nat):Int))) s8):=
  (jE (eC (x:=.cl (.int b)) rfl (fW (x:=⟨.lst (aF acc),false,false,[4]⟩) rfl (cP _ _ _ _)) ((add_int _ _).trans (by rw[bQ,show((b:Int)+(acc.length:Int))=((b+acc.length:Nat):Int) by omega])))).trans rfl
 have hk:bL .Eq (.int (i:Int)) (.int ((U.length:Int)-1))=some (decide (i+1=U.length)):=by
  show some ((i:Int)==(U.length:Int)-1)=_
  congr 1
  by_cases h:i+1=U.length
  . rw[Al h];simp;omega
  . rw[Ao h];simp;omega
 have e2:ex pg (call pg N) (rf p b on s3 acc (.sh false (.int (i:Int))) (sd d.d) (.sh false (.int ((b+acc.length:Nat):Int))) s8) (.set (.n 8) (.cmp .Eq (.v 5) (.op .Sub (.bi .len (.cons (.v 3) .nil)) (.c (.int 1)))))=.next (rf p b on s3 acc (.sh false (.int (i:Int))) (sd d.d) (.sh false (.int ((b+acc.length:Nat):Int))) (.sh false (.bl (decide (i+1=U.length))))):=
  (jE (aKq (x:=.cl (.int i)) (y:=.cl (.int ((U.length:Int)-1))) rfl (eC (fW (x:=⟨.lst U,false,f&&!noL (.lst U),[]⟩) rfl (cP _ _ _ _)) rfl (sub_int _ _)) hk)).trans rfl
 let τ:Sg:=rf p b on s3 acc (.sh false (.int (i:Int))) (sd d.d) (.sh false (.int ((b+acc.length:Nat):Int))) (.sh false (.bl (decide (i+1=U.length))))
 have ea:ev pg (call pg N) τ (.ife (.v 8) (.v 2) (.op .Add (.v 7) (.call 10 (.cons (.v 6) .nil))))=.ok (.cl (.int ((if i+1=U.length then on else b+acc.length+cnt d:Nat):Int))):=by
  have ht:tst pg (call pg N) τ (.v 8)=.ok (decide (i+1=U.length)):=rfl
  by_cases h:i+1=U.length
  . rw[if_pos h]
    rw[Al h] at ht
    exact eK ht rfl
  . rw[if_neg h]
    rw[Ao h] at ht
    exact eK ht (eC (x:=.cl (.int ((b+acc.length:Nat):Int))) rfl (cE (v6 _ _) (hc d o)) ((add_int _ _).trans (by rw[<-Cp])))
 have ec:=hd d (b+acc.length) (if i+1=U.length then on else b+acc.length+cnt d) hn o h8
 have hln:(Rd l d (b+acc.length) (if i+1=U.length then on else b+acc.length+cnt d)).length=cnt d:=iL l d _ _ hn o
 have e3:=aKH (i:=4) (dB (f:=27) (a:=.v 6) (b:=.v 7) (x:=pv d.d) (y:=.cl (.int ((b+acc.length:Nat):Int))) (z:=.cl (.int ((if i+1=U.length then on else b+acc.length+cnt d:Nat):Int))) (v6 (.sh false (.int ((b+acc.length:Nat):Int))) (.sh false (.bl (decide (i+1=U.length))))) rfl ea ec) (ds:=aF acc) rfl (by rw[bQ,bQ,hln];unfold lim;omega)
 refine⟨.sh false (.int ((b+acc.length:Nat):Int)),.sh false (.bl (decide (i+1=U.length))),cs e1 (cs e2 (cs e3 ?_))⟩
 have hm:aF (acc++Rd l d (b+acc.length) (if i+1=U.length then on else b+acc.length+cnt d))=aF acc++aF (Rd l d (b+acc.length) (if i+1=U.length then on else b+acc.length+cnt d)):=AJ
 show O.next [.sh true (prD p),.sh true (.int b),.sh true (.int on),.sh f (.lst U),.own false (aF acc++aF (Rd l d (b+acc.length) (if i+1=U.length then on else b+acc.length+cnt d))),.sh false (.int (i:Int)),sd d.d,.sh false (.int ((b+acc.length:Nat):Int)),.sh false (.bl (decide (i+1=U.length)))]=_
 rw[<-hm]
theorem eQ{v:Vl}{ds:List D}{i:Nat}(h:i<(items v ds).length):∃h':i<ds.length,(items v ds)[i]=Vl.sub v ds[i]:=⟨by simpa[items] using h,by simp[items]⟩
theorem yY{N m l:Nat}(hl2:l<=2)(hu:yU N m l)(hd:DrF N m l)(hc:yS N m l):RfF (N+1) m l:=λp b on hl hp h8=>by
 let u:=unrP p
 let U:=u.map Dd.d
 have e1:ex pg (call pg N) [.sh true (prD p),.sh true (.int b),.sh true (.int on),.dead,.dead,.dead,.dead,.dead,.dead] (.set (.n 3) (.call 12 (.cons (.v 0) .nil)))=.next [.sh true (prD p),.sh true (.int b),.sh true (.int on),.own (flg U) U,.dead,.dead,.dead,.dead,.dead]:=by
  rw[dI,wL (x:=⟨prD p,false,true,[]⟩) rfl rfl rfl (hu p hl hp)]
  rfl
 have hw:walk pg (call pg N) [.sh true (prD p),.sh true (.int b),.sh true (.int on),.own (flg U) U,.own false [],.dead,.dead,.dead,.dead] (.enum (.v 3))=.ok (items ⟨.lst U,false,flg U,[3]⟩ (dD 0 U),[3]):=rfl
 have ho:=fJ p hp
 have hn:=unrP_nolp p
 have hcu:=cnt_unr p
 obtain⟨σ',ef,acc,s5,s6,s7,s8,hσ,h1,h2⟩:=fP (P:=pg) (cl:=call pg N) (t:=.t [5,6]) (b:=rfB) (λi σ=>∃(acc:List (List Way)) (s5 s6 s7 s8:Sl),σ=rf p b on (.sh (flg U) (.lst U)) acc s5 s6 s7 s8/\acc.length=cntP (u.take i)/\acc++Rs (Rd l) (u.drop i) (b+acc.length) on=Rs (Rd l) u b on) hw
  ⟨[],.dead,.dead,.dead,.dead,rfl,rfl,rfl⟩ λi hi σ ⟨acc,s5,s6,s7,s8,e,h1,h2⟩=>by
   have hi':i<u.length:=by simpa[items,pS,U] using hi
   have hiU:i<U.length:=by simpa[U] using hi'
   subst e
   have hg:(items ⟨.lst U,false,flg U,[3]⟩ (dD 0 U))[i]=Vl.sub ⟨.lst U,false,flg U,[3]⟩ (.tup [.int (i:Int),u[i].d]):=by
    obtain⟨h0,e0⟩:=eQ hi
    obtain⟨h',e'⟩:=wQ U 0 i h0
    rw[e0,e',GH]
    congr 4
    exact Bm _
   have hm:u[i]∈u:=A9 hi'
   have hct:cntP (u.take i)+cnt u[i]<=cntP u:=by
    have:=dN (u.take (i+1)) (u.drop (i+1))
    rw[Cs,cF hi',dN] at this
    rw[this,show cntP [u[i]]=cnt u[i] by rw[cntP,cntP,BR]]
    omega
   have hcu:cntP u<=8:=by show cntP (unrP p)<=8;rw[cnt_unr];exact h8
   obtain⟨s7',s8',et⟩:=aFc hd hc (p:=p) (b:=b) (on:=on) (U:=U) (f:=flg U) (acc:=acc) (by omega) (hn _ hm) (ho _ hm) (by omega) hiU s7 s8
   refine⟨rf p b on (.sh (flg U) (.lst U)) acc (.sh false (.int (i:Int))) (sd u[i].d) s7 s8,_,?_,et,_,_,_,s7',s8',rfl,?_,?_⟩
   . rw[hg,aId (List.mem_map_of_mem hm)]
     rfl
   . rw[lA,h1,iL l _ _ _ (hn _ hm) (ho _ hm),cF hi',dN,show cntP [u[i]]=cnt u[i] by rw[cntP,cntP,BR]]
   . rw[lA,iL l _ _ _ (hn _ hm) (ho _ hm),Ba,<-h2,iY hi',Rs,<-Cq]
     congr 3
     have:(u.drop (i+1)).isEmpty=decide (i+1=U.length):=by
      have hU:U.length=u.length:=by simp[U]
      by_cases hz:i+1=U.length
      . rw[Al hz,List.drop_of_length_le (by omega)];rfl
      . rw[Ao hz]
        cases hq:u.drop (i+1) with
        | nil=>exact absurd (List.drop_eq_nil_iff.mp hq) (by omega)
        | cons=>rfl
     rw[this]
     simp only[A7]
 subst hσ
 have hlen:(items ⟨.lst U,false,flg U,[3]⟩ (dD 0 U)).length=u.length:=by simp[items,pS,U]
 rw[hlen] at h1 h2
 rw[Bl,Rs,Ax] at h2
 subst h2
 exact aM (F:=f11) (v:=⟨.lst (aF (Rs (Rd l) u b on)),true,false,[]⟩) rfl rfl (cs e1 (cs rfl (cs ef rfl)))
theorem aDy(n m:Nat):(yS (n+1) m 0/\aBr (n+2) m 0)/\(yS (n+3) m 1/\aBr (n+4) m 1)/\yS (n+5) m 2/\aBr (n+6) m 2:=by
 have a:=pN (N:=n) (m:=m) (l:=0) λl' e=>by cases e
 have b:=pM a
 have c:=pN (N:=n+2) (m:=m) (l:=1) λl' e=>by cases e;exact b
 have d:=pM c
 have e:=pN (N:=n+4) (m:=m) (l:=2) λl' e=>by cases e;exact d
 exact⟨⟨a,b⟩,⟨c,d⟩,e,pM e⟩
theorem aIf(n m:Nat):yU (n+1) m 0/\yU (n+2) m 1/\yU (n+3) m 2:=by
 have a:=tR (N:=n) (m:=m) (l:=0) (by decide) λl' e=>by cases e
 have b:=tR (N:=n+1) (m:=m) (l:=1) (by decide) λl' e=>by cases e;exact a
 exact⟨a,b,tR (N:=n+2) (m:=m) (l:=2) (by decide) λl' e=>by cases e;exact b⟩
theorem pT(n m:Nat):nJ (n+1) m 0/\nJ (n+2) m 1/\nJ (n+3) m 2:=by
 have a:=pO (N:=n) (m:=m) (l:=0) λl' e=>by cases e
 have b:=pO (N:=n+1) (m:=m) (l:=1) λl' e=>by cases e;exact a
 exact⟨a,b,pO (N:=n+2) (m:=m) (l:=2) λl' e=>by cases e;exact b⟩
theorem aMf(n m:Nat):aEW (n+3) m 2:=by
 have a:=tN (N:=n) (m:=m) (l:=0) λl' e=>by cases e
 have b:=tN (N:=n+1) (m:=m) (l:=1) λl' e=>by cases e;exact a
 exact tN (N:=n+2) (m:=m) (l:=2) λl' e=>by cases e;exact b
theorem aBw(n m:Nat):RfF (n+10) m 2:=by
 have d0:DrF (n+3) m 0:=yX λl' e=>by cases e
 have r0:RfF (n+4) m 0:=yY (by decide) (aIf (n+2) m).1 d0 (aDy (n+2) m).1.1
 have d1:DrF (n+6) m 1:=yX (N:=n+3) λl' e=>by cases e;exact aDx r0
 have r1:RfF (n+7) m 1:=yY (by decide) (aIf (n+4) m).2.1 d1 (aDy (n+3) m).2.1.1
 have d2:DrF (n+9) m 2:=yX (N:=n+6) λl' e=>by cases e;exact aDx r1
 exact yY (by decide) (aIf (n+6) m).2.2 d2 (aDy (n+4) m).2.2.1
abbrev aAC(p:List Dd):List (List Way):=Rs (Rd 2) (unrP p) 0 (cntP p)
theorem aDz(n m:Nat){bs:List (Str×Int)}{p:List Dd}(hl:p.length<=4)(hp:∀d∈p,Ok m 2 d)(hc:cntP p<=8):call pg (n+11) 2 [.lst (aD bs),prD p]=.ok (.lst (aF (aAC p)),true,false):=by
 have v1:ev pg (call pg (n+10)) [.sh true (.lst (aD bs)),.sh true (prD p)] (.v 1)=.ok ⟨prD p,false,true,[]⟩:=rfl
 have e1:=aBu (aDy (n+3) m).2.2.2 (p:=p) (by omega) hp hc
 have e2:=(aDy (n+4) m).2.2.2 p (by omega) hp
 exact aM (F:=f2) (v:=⟨.lst (aF (aAC p)),true,false,[]⟩) rfl rfl (cs (wB (cE v1 e1)) (cX (dB v1 (y:=.cl (.int ((0:Nat):Int))) rfl (cE v1 e2) (aBw n m p 0 (cntP p) (by omega) hp hc))))
theorem pU{f g:Dd->Nat->Nat->List (List Way)}:∀(ds:List Dd) (b on:Nat),(∀d∈ds,∀b on,f d b on=g d b on)->Rs f ds b on=Rs g ds b on
 | [],_,_,_=>rfl
 | d::ds,b,on,h=>by rw[Rs,Rs,h d Aq,pU ds _ _ λx hx=>h x (Ag _ hx)]
theorem rK{f g:List Dd->Nat->List (List Way)}{on:Nat}:∀(q:List (List Dd)) (b:Nat),(∀p∈q,∀b,f p b=g p b)->chs f on q b=chs g on q b
 | [],_,_=>rfl
 | p::q,b,h=>by rw[chs,chs,h p Aq,rK q _ λx hx=>h x (Ag _ hx)]
theorem aFG{m:Nat}:∀(l:Nat) (d:Dd) (b on:Nat),wM d->Ok m l d->Rd (l+1) d b on=Rd l d b on
 | l,.put ps,b,on,_,_=>by cases l <;> rfl
 | l,.wait g ps,b,on,_,_=>by cases l <;> rfl
 | 0,.cho q,b,on,_,o=>o.elim
 | l+1,.cho q,b,on,_,o=>by
  have o:2<=q.length/\q.length<=4/\∀p∈q,p.length<=4/\∀d∈p,Ok m l d:=o
  rw[Rd,Rd,rK q _ λp hp b=>pU _ _ _ λd hd b on=>aFG l d b on (unrP_nolp p d hd) (fJ p (o.2.2 p hp).2 d hd)]
 | l,.lp k p,_,_,n,_=>n.elim
theorem aKJ{m l:Nat}(p:List Dd)(h:∀d∈p,Ok m l d)(b on:Nat):Rs (Rd (l+1)) (unrP p) b on=Rs (Rd l) (unrP p) b on:=
 pU _ _ _ λd hd b on=>aFG l d b on (unrP_nolp p d hd) (fJ p h d hd)
theorem wV(p:List Dd):∀k:Nat,unrP (Ad k p).flatten=(Ad k (unrP p)).flatten
 | 0=>by rw[E5,F1,unrP];rfl
 | k+1=>by rw[A0,AB,pP,wV p k,A0,AB]
def LaF(N m l:Nat):Prop:=∀(p:List Dd) (b on:Nat),p.length<=40->(∀d∈p,Ok m l d)->cntP p<=8->call pg N 36 [prD p,.int b,.int on]=.ok (.lst (aF (Rs (Rd l) (unrP p) b on)),true,false)
def LrF(N m l:Nat):Prop:=∀(d:Dd) (b on:Nat),Ok m l d->cnt d<=8->call pg N 35 [d.d,.int b,.int on]=.ok (.lst (aF (Rs (Rd l) (unr d) b on)),true,false)
def LcF(N m l:Nat):Prop:=∀(q:List (List Dd)) (b on:Nat),q.length<=4->(∀p∈q,p.length<=4/\∀d∈p,Ok m l d)->cntQ q<=8->call pg N 34 [.lst (q.map prD),.int b,.int on]=.ok (.lst (aF ((chs (λp b=>Rs (Rd l) (unrP p) b on) on q (b+1)).1::(chs (λp b=>Rs (Rd l) (unrP p) b on) on q (b+1)).2)),true,false)
theorem aDA{ds:List D}{k:Nat}{b:Bool}(hk:k<=8)(hl:ds.length*k<=lim):opD .Mult ⟨.lst ds,false,b,[]⟩ (.cl (.int (k:Int)))=.ok ⟨.lst (Ad k ds).flatten,true,b&&!noLs ds,[]⟩:=by
 have hs:aH (k:Int)=true:=gL (by omega)
 have e:rZ ⟨.lst ds,false,b,[]⟩ (.cl (.int (k:Int)))=R.iff (aH (k:Int)&&decide (ds.length*(k:Int).toNat<=lim)) (R.ok ⟨.lst (Ad (k:Int).toNat ds).flatten,true,b&&!noLs ds,if noLs ds=true then [] else []⟩):=by unfold rZ;rfl
 have e2:opD .Mult ⟨.lst ds,false,b,[]⟩ (.cl (.int (k:Int)))=rZ ⟨.lst ds,false,b,[]⟩ (.cl (.int (k:Int))):=by unfold opD;rfl
 rw[e2,e,hs,Cw,Al hl,show(if noLs ds=true then ([]:List Nat) else [])=[] by split <;> rfl]
 rfl
theorem yZ{N m l:Nat}(h:∀l',l=l'+1->LcF N m l'/\LaF N m l'):LrF (N+1) m l:=λd b on o h8=>by
 cases d with
 | put ps=>
  rw[unr,Rs,Rs,Ax,show Rd l (.put ps) b (if ([]:List Dd).isEmpty then on else b+cnt (.put ps))=[[⟨.yes,ps,(on:Int)⟩]] by cases l <;> rfl,gR]
  refine aM (F:=f35) (v:=⟨.lst (aF [[⟨.yes,ps,(on:Int)⟩]]),true,false,[]⟩) rfl rfl (pA (bH (aX rfl rfl rfl) (by decide +kernel)) (cX (aFa (mI (x:=Cn.yes.d) rfl (aX rfl rfl ?_) rfl))))
  show R.ok (Vl.sub _ (dF ps))=_
  rw[mO (iK ps)]
 | wait g ps=>
  rw[unr,Rs,Rs,Ax,show Rd l (.wait g ps) b (if ([]:List Dd).isEmpty then on else b+cnt (.wait g ps))=[[⟨g,ps,(on:Int)⟩]] by cases l <;> rfl,eI]
  refine aM (F:=f35) (v:=⟨.lst (aF [[⟨g,ps,(on:Int)⟩]]),true,false,[]⟩) rfl rfl (cs (dW (bH (aX rfl rfl rfl) (by decide +kernel))) (pA (bH (aX rfl rfl rfl) (by decide +kernel)) (cX (aFa (mI (x:=g.d) (aX rfl rfl ?_) (aX rfl rfl ?_) rfl)))))
  . show R.ok (Vl.sub _ g.d)=_
    rw[mO g.noL]
  . show R.ok (Vl.sub _ (dF ps))=_
    rw[mO (iK ps)]
 | cho q=>
  cases l with
  | zero=>exact o.elim
  | succ l=>
   have o:2<=q.length/\q.length<=4/\∀p∈q,p.length<=4/\∀d∈p,Ok m l d:=o
   have h9:=h8
   rw[cnt] at h9
   have hw:=(h l rfl).1 q b on o.2.1 o.2.2 (by omega)
   rw[unr,Rs,Rs,Ax,Rd,lE]
   exact aM (F:=f35) (v:=⟨.lst (aF _),true,false,[]⟩) rfl rfl (cs (dW (bH (aX rfl rfl rfl) (by decide +kernel))) (cs (dW (bH (aX rfl rfl rfl) (by decide +kernel))) (pA (bH (aX rfl rfl rfl) (by decide +kernel)) (cX (dB (x:=⟨.lst (q.map prD),false,true,[]⟩) (y:=.cl (.int b)) (z:=.cl (.int on)) (aX rfl rfl rfl) rfl rfl hw)))))
 | lp k p=>
  cases l with
  | zero=>exact o.elim
  | succ l=>
   have o:k<=8/\p.length<=4/\∀d∈p,Ok m l d:=o
   have hmem:∀d∈(Ad k p).flatten,Ok m l d:=λd hd=>by
    obtain⟨x,h1,h2⟩:=DI.mp hd
    rw[B0 h1] at h2
    exact o.2.2 d h2
   have hlen:k*p.length<=8*4:=Ev o.1 o.2.1
   have hw:=(h l rfl).2 (Ad k p).flatten b on (by rw[jU];omega) hmem (by rw[tS];rw[cnt] at h8;exact h8)
   have he:Rs (Rd (l+1)) (unr (.lp k p)) b on=Rs (Rd l) (unrP (Ad k p).flatten) b on:=by rw[<-aKJ _ hmem,wV,unr]
   rw[he,wF]
   have hx:prD (Ad k p).flatten=.lst (Ad k (p.map Dd.d)).flatten:=by show D.lst _=_;rw[nW]
   rw[hx] at hw
   exact aM (F:=f35) (v:=⟨.lst (aF _),true,false,[]⟩) rfl rfl (cs (dW (bH (aX rfl rfl rfl) (by decide +kernel))) (cs (dW (bH (aX rfl rfl rfl) (by decide +kernel))) (cs (dW (bH (aX rfl rfl rfl) (by decide +kernel))) (cX (dB (x:=⟨.lst (Ad k (p.map Dd.d)).flatten,true,true&&!noLs (p.map Dd.d),[]⟩) (y:=.cl (.int b)) (z:=.cl (.int on)) (eC (aX (z:=⟨prD p,false,true,[]⟩) rfl rfl rfl) (aX (z:=.cl (.int (k:Int))) rfl rfl rfl) (aDA o.1 (by rw[lM,Ck];unfold lim;omega))) rfl rfl hw)))))
theorem aDB{α:Type}{xs:List α}{k:Nat}(h:k<=xs.length):cut xs (some (k:Int)) none=xs.drop k:=by
 unfold cut
 have e1:Hp.sIx xs.length 0 (some (k:Int))=k:=by
  show(if (k:Int)<0 then ((k:Int)+(xs.length:Int)).toNat else min (k:Int).toNat xs.length)=k
  rw[if_neg (by omega),Cw]
  omega
 have e2:Hp.sIx xs.length xs.length none=xs.length:=rfl
 rw[e1,e2]
 exact List.take_of_length_le (by rw[C0];omega)
theorem wW{P:Pg}{cl:Caller}{σ:Sg}{a b:E}{i:Nat}{x y:List D}(h1:ev P cl σ a=.ok ⟨.lst x,false,false,[i]⟩)(h2:ev P cl σ b=.ok ⟨.lst y,true,false,[]⟩)(hl:x.length+y.length<=lim)(hi:i<σ.length):ex P cl σ (.set (.n i) (.op .Add a b))=.next (σ.set i (.own false (x++y))):=by
 have e:opD .Add ⟨.lst x,false,false,[i]⟩ ⟨.lst y,true,false,[]⟩=uJ ⟨.lst x,false,false,[i]⟩ ⟨.lst y,true,false,[]⟩:=by unfold opD;rfl
 have e2:uJ ⟨.lst x,false,false,[i]⟩ ⟨.lst y,true,false,[]⟩=R.iff (decide (x.length+y.length<=lim)) (.ok ⟨.lst (x++y),true,(false&&!noLs x)||(false&&!noLs y),(if noLs x then [] else [i])++(if noLs y then [] else [])⟩):=by unfold uJ;rfl
 have e3:ev P cl σ (.op .Add a b)=.ok ⟨.lst (x++y),true,false,if noLs x then [] else [i]⟩:=eC h1 h2 (by
  rw[e,e2,Al hl,show(if noLs y=true then ([]:List Nat) else [])=[] by split <;> rfl,Ax]
  rfl)
 rw[dI,e3,aG]
 by_cases hn:noLs x=true
 . rw[if_pos hn];rfl
 . rw[if_neg hn]
   show O.next ((match σ[i]? with|some s=>σ.set i s.freeze|none=>σ).set i (.own false (x++y)))=_
   rw[Am hi]
   show O.next ((σ.set i _).set i _)=_
   rw[List.set_set]
abbrev af(p:List Dd)(b on:Nat)(acc:List (List Way))(s4 s5 s6:Sl):Sg:=[.sh true (prD p),.sh true (.int b),.sh true (.int on),.own false (aF acc),s4,s5,s6]
abbrev laB:Ss:=match hdS (drp 1 f36.body) with|.for _ _ b=>b|_=>.nil
theorem aFd{N m l:Nat}(hr:LrF N m l)(hm:nJ N m l){p:List Dd}{b on:Nat}{acc:List (List Way)}(ha:acc.length<=100)(hl:p.length<=40)(hp:∀d∈p,Ok m l d){i:Nat}(hi:i<p.length)(h8:cnt p[i]<=8)(s5 s6:Sl) :
 ∃s5' s6',exs pg (call pg N) (af p b on acc (.sh false (.int (i:Int))) s5 s6) laB=.next (af p b on (acc++Rs (Rd l) (unr p[i]) (b+acc.length) (if cntP (p.drop (i+1))=0 then on else b+acc.length+cnt p[i])) (.sh false (.int (i:Int))) s5' s6'):=by
 have hdm:=hp _ (A9 hi)
 have ed:∀s5 s6,∃y,ev pg (call pg N) (af p b on acc (.sh false (.int (i:Int))) s5 s6) (.idx (.v 0) (.v 4))=.ok y/\y.d=p[i].d:=λ_ _=>⟨_,aX (x:=⟨prD p,false,true,[]⟩) (y:=.cl (.int (i:Int))) rfl rfl (aKz (f:=Dd.d) rfl (Am hi)),aAB _ _⟩
 have eh:∀s5 s6,ev pg (call pg N) (af p b on acc (.sh false (.int (i:Int))) s5 s6) (.op .Add (.v 1) (.bi .len (.cons (.v 3) .nil)))=.ok (.cl (.int ((b+acc.length:Nat):Int))):=λ_ _=>
  eC (x:=.cl (.int b)) rfl (fW (x:=⟨.lst (aF acc),false,false,[3]⟩) rfl (cP _ _ _ _)) ((add_int _ _).trans (by rw[bQ,show((b:Int)+(acc.length:Int))=((b+acc.length:Nat):Int) by omega]))
 have e1:ex pg (call pg N) (af p b on acc (.sh false (.int (i:Int))) s5 s6) (.set (.n 5) (.call 32 (.cons (.sli (.v 0) (.cons (.op .Add (.v 4) (.c (.int 1))) .nil) .nil) .nil)))=.next (af p b on acc (.sh false (.int (i:Int))) (.sh false (.int (cntP (p.drop (i+1))))) s6):=by
  have es:∃y,ev pg (call pg N) (af p b on acc (.sh false (.int (i:Int))) s5 s6) (.sli (.v 0) (.cons (.op .Add (.v 4) (.c (.int 1))) .nil) .nil)=.ok y/\y.d=prD (p.drop (i+1)):=by
   have ea:ev pg (call pg N) (af p b on acc (.sh false (.int (i:Int))) s5 s6) (.op .Add (.v 4) (.c (.int 1)))=.ok (.cl (.int ((i+1:Nat):Int))):=eC (x:=.cl (.int i)) rfl rfl (add_int _ _)
   refine⟨⟨.lst (cut (p.map Dd.d) (some ((i+1:Nat):Int)) none),true,true&&!noLs (p.map Dd.d),if noLs (p.map Dd.d) then [] else []⟩,?_,?_⟩
   . rw[tG,show ev pg (call pg N) (af p b on acc (.sh false (.int (i:Int))) s5 s6) (.v 0)=.ok ⟨prD p,false,true,[]⟩ from rfl,aC,ea,aC]
     show R.iff (aH ((i+1:Nat):Int)) _=_
     rw[gL (by omega)]
     rfl
   . show D.lst (cut (p.map Dd.d) (some ((i+1:Nat):Int)) none)=_
     rw[aDB (by rw[lM];omega),<-List.map_drop]
  obtain⟨y,e,hy⟩:=es
  refine(jE (cE e (d:=.int (cntP (p.drop (i+1)))) ?_)).trans rfl
  rw[hy]
  exact hm _ (by rw[C0];omega) λd hd=>hp d (List.mem_of_mem_drop hd)
 let τ:Sl:=.sh false (.int (cntP (p.drop (i+1))))
 have e2:ex pg (call pg N) (af p b on acc (.sh false (.int (i:Int))) τ s6) (.set (.n 6) (.op .Add (.op .Add (.v 1) (.bi .len (.cons (.v 3) .nil))) (.call 32 (.cons (.lst (.cons (.idx (.v 0) (.v 4)) .nil)) .nil))))=.next (af p b on acc (.sh false (.int (i:Int))) τ (.sh false (.int ((b+acc.length+cnt p[i]:Nat):Int)))):=by
  obtain⟨y,e,hy⟩:=ed τ s6
  have el:ev pg (call pg N) (af p b on acc (.sh false (.int (i:Int))) τ s6) (.lst (.cons (.idx (.v 0) (.v 4)) .nil))=.ok (gW [y]):=by rw[jP,aE,e];rfl
  refine(jE (eC (eh τ s6) (cE el (d:=.int (cnt p[i])) (fr:=false) ?_) ((add_int _ _).trans (by rw[<-Cp])))).trans rfl
  show call pg N 32 [.lst [y.d]]=_
  rw[hy]
  exact(hm [p[i]] (by simp) λd hd=>by rw[A5.mp hd];exact hdm).trans (by rw[cntP,cntP,BR])
 have e3:ex pg (call pg N) (af p b on acc (.sh false (.int (i:Int))) τ (.sh false (.int ((b+acc.length+cnt p[i]:Nat):Int)))) (.iff (.cmp .Eq (.v 5) (.c (.int 0))) (.cons (.mov 6 2) .nil) .nil)=.next (af p b on acc (.sh false (.int (i:Int))) τ (.sh false (.int ((if cntP (p.drop (i+1))=0 then on else b+acc.length+cnt p[i]:Nat):Int)))):=by
  have ht:tst pg (call pg N) (af p b on acc (.sh false (.int (i:Int))) τ (.sh false (.int ((b+acc.length+cnt p[i]:Nat):Int)))) (.cmp .Eq (.v 5) (.c (.int 0)))=.ok (((cntP (p.drop (i+1)):Nat):Int)==0):=eU (x:=.cl (.int (cntP (p.drop (i+1))))) rfl rfl rfl
  by_cases hz:cntP (p.drop (i+1))=0
  . rw[if_pos hz]
    refine aKB (ht.trans (by rw[hz];rfl)) (cs rfl rfl)
  . rw[if_neg hz]
    exact dW (ht.trans (by rw[show(((cntP (p.drop (i+1)):Nat):Int)==0)=false by simpa using hz]))
 let υ:Sl:=.sh false (.int ((if cntP (p.drop (i+1))=0 then on else b+acc.length+cnt p[i]:Nat):Int))
 have hln:(Rs (Rd l) (unr p[i]) (b+acc.length) (if cntP (p.drop (i+1))=0 then on else b+acc.length+cnt p[i])).length=cnt p[i]:=(mM _ _ _ λd hd b on=>iL l d b on (lH _ d hd) (pR l _ hdm d hd)).trans (lI _)
 obtain⟨y,e,hy⟩:=ed τ υ
 have ec:=hr p[i] (b+acc.length) (if cntP (p.drop (i+1))=0 then on else b+acc.length+cnt p[i]) hdm h8
 have e4:=wW (i:=3) (a:=.v 3) (σ:=af p b on acc (.sh false (.int (i:Int))) τ υ) (P:=pg) (cl:=call pg N) rfl (dB (f:=35) e (eh τ υ) (c:=.v 6) (z:=.cl (.int ((if cntP (p.drop (i+1))=0 then on else b+acc.length+cnt p[i]:Nat):Int))) rfl (by rw[hy];exact ec)) (by rw[bQ,bQ,hln];unfold lim;omega) (by show 3<7;decide)
 refine⟨τ,υ,cs e1 (cs e2 (cs e3 (cs e4 ?_)))⟩
 have ha':aF (acc++Rs (Rd l) (unr p[i]) (b+acc.length) (if cntP (p.drop (i+1))=0 then on else b+acc.length+cnt p[i]))=aF acc++aF (Rs (Rd l) (unr p[i]) (b+acc.length) (if cntP (p.drop (i+1))=0 then on else b+acc.length+cnt p[i])):=AJ
 show O.next [.sh true (prD p),.sh true (.int b),.sh true (.int on),.own false (aF acc++aF (Rs (Rd l) (unr p[i]) (b+acc.length) (if cntP (p.drop (i+1))=0 then on else b+acc.length+cnt p[i]))),.sh false (.int (i:Int)),τ,υ]=_
 rw[<-ha']
theorem zA{N m l:Nat}(hr:LrF N m l)(hm:nJ N m l):LaF (N+1) m l:=λp b on hl hp h8=>by
 have hwk:walk pg (call pg N) (af p b on [] .dead .dead .dead) (.rng (.c (.int 0)) (.bi .len (.cons (.v 0) .nil)))=.ok ((AO p.length).map λ(j:Nat)=>Vl.cl (.int (j:Int)),[]):=by
  have hs:=gL (n:=p.length) (by omega)
  have hb:(p.map Dd.d).length=p.length:=lM _
  simp only[vQ,bT,iH,aE,aY,eB,bV,gS,gZ,fE,aC,cP,hb,cQ,aAi,hs,BV,rE,sX]
 obtain⟨σ',ef,acc,s4,s5,s6,hσ,h1,h2⟩:=fP (P:=pg) (cl:=call pg N) (σ:=af p b on [] .dead .dead .dead) (t:=.n 4) (b:=laB) (λi σ=>∃(acc:List (List Way)) (s4 s5 s6:Sl),σ=af p b on acc s4 s5 s6/\acc.length=cntP (p.take i)/\acc++Rs (Rd l) (unrP (p.drop i)) (b+acc.length) on=Rs (Rd l) (unrP p) b on) hwk
  ⟨[],.dead,.dead,.dead,rfl,rfl,rfl⟩ λi hi σ ⟨acc,s4,s5,s6,e,h1,h2⟩=>by
   have hi':i<p.length:=by simpa using hi
   subst e
   have hdm:=hp _ (A9 hi')
   have hct:cntP (p.take i)+cnt p[i]<=cntP p:=by
    have:=dN (p.take (i+1)) (p.drop (i+1))
    rw[Cs,cF hi',dN] at this
    rw[this,show cntP [p[i]]=cnt p[i] by rw[cntP,cntP,BR]]
    omega
   obtain⟨s5',s6',et⟩:=aFd hr hm (p:=p) (b:=b) (on:=on) (acc:=acc) (by omega) hl hp hi' (by omega) s5 s6
   refine⟨af p b on acc (.sh false (.int (i:Int))) s5 s6,_,?_,et,_,_,s5',s6',rfl,?_,?_⟩
   . rw[Bm,List.getElem_range]
     rfl
   . rw[lA,h1,mM _ _ _ λd hd b on=>iL l d b on (lH _ d hd) (pR l _ hdm d hd),lI,cF hi',dN,show cntP [p[i]]=cnt p[i] by rw[cntP,cntP,BR]]
   . rw[lA,mM _ _ _ λd hd b on=>iL l d b on (lH _ d hd) (pR l _ hdm d hd),Ba,<-h2,iY hi',unrP,aDw,lI,<-Cq]
     have:(unrP (p.drop (i+1))).isEmpty=decide (cntP (p.drop (i+1))=0):=by
      by_cases hz:cntP (p.drop (i+1))=0
      . rw[Al hz,(wN _).mp hz];rfl
      . rw[Ao hz]
        cases hq:unrP (p.drop (i+1)) with
        | nil=>exact absurd ((wN _).mpr hq) hz
        | cons=>rfl
     rw[this]
     simp only[A7]
 subst hσ
 have hlen:(HD (λ(j:Nat)=>Vl.cl (.int (j:Int))) (AO p.length)).length=p.length:=by simp
 rw[hlen,Bl,unrP,Rs,Ax] at h2
 subst h2
 exact aM (F:=f36) (v:=⟨.lst (aF (Rs (Rd l) (unrP p) b on)),true,false,[]⟩) rfl rfl (cs rfl (cs ef rfl))
abbrev lg(q:List (List Dd))(b on:Nat)(ws:List Way)(rs:List (List Way))(s5 s6:Sl):Sg:=[.sh true (.lst (q.map prD)),.sh true (.int b),.sh true (.int on),.own false (ws.map Way.d),.own false (aF rs),s5,s6]
abbrev lcB:Ss:=match hdS (drp 2 f34.body) with|.for _ _ b=>b|_=>.nil
theorem aFe{N m l:Nat}(h:LaF N m l)(hn:nJ N m l){q:List (List Dd)}{b on:Nat}{ws:List Way}{rs:List (List Way)}(hw:ws.length<=100)(hr:rs.length<=100){p:List Dd}(hl:p.length<=4)(hp:∀d∈p,Ok m l d)(hc:cntP p<=8)(s6:Sl) :
 ∃s6',exs pg (call pg N) (lg q b on ws rs (sd (prD p)) s6) lcB=.next (lg q b on (ws++[⟨.yes,[],((if cntP p=0 then on else b+1+rs.length:Nat):Int)⟩]) (rs++Rs (Rd l) (unrP p) (b+1+rs.length) on) (sd (prD p)) s6'):=by
 have hlen:=bW p hp (b+1+rs.length) on
 have hin:=h p (b+1+rs.length) on (by omega) hp hc
 generalize hI:Rs (Rd l) (unrP p) (b+1+rs.length) on=inn at hlen hin ⊢
 have ef:∀ws s6,ev pg (call pg N) (lg q b on ws rs (sd (prD p)) s6) (.op .Add (.op .Add (.v 1) (.c (.int 1))) (.bi .len (.cons (.v 4) .nil)))=.ok (.cl (.int ((b+1+rs.length:Nat):Int))):=λ_ _=>
  eC (eC (x:=.cl (.int b)) rfl rfl (add_int _ _)) (fW (x:=⟨.lst (aF rs),false,false,[4]⟩) rfl (cP _ _ _ _)) ((add_int _ _).trans (by rw[bQ,show((b:Int)+1+(rs.length:Int))=((b+1+rs.length:Nat):Int) by omega]))
 have v5:∀ws s6,ev pg (call pg N) (lg q b on ws rs (sd (prD p)) s6) (.v 5)=.ok (pv (prD p)):=λ_ _=>jR 5 (prD p)
 have e1:ex pg (call pg N) (lg q b on ws rs (sd (prD p)) s6) (.set (.n 6) (.op .Add (.op .Add (.v 1) (.c (.int 1))) (.bi .len (.cons (.v 4) .nil))))=.next (lg q b on ws rs (sd (prD p)) (.sh false (.int ((b+1+rs.length:Nat):Int)))):=(jE (ef ws s6)).trans rfl
 have hcn:=hn p (by omega) hp
 have e2:ex pg (call pg N) (lg q b on ws rs (sd (prD p)) (.sh false (.int ((b+1+rs.length:Nat):Int)))) (.iff (.cmp .Eq (.call 32 (.cons (.v 5) .nil)) (.c (.int 0))) (.cons (.mov 6 2) .nil) .nil)=.next (lg q b on ws rs (sd (prD p)) (.sh false (.int ((if cntP p=0 then on else b+1+rs.length:Nat):Int)))):=by
  have ht:tst pg (call pg N) (lg q b on ws rs (sd (prD p)) (.sh false (.int ((b+1+rs.length:Nat):Int)))) (.cmp .Eq (.call 32 (.cons (.v 5) .nil)) (.c (.int 0)))=.ok (((cntP p:Nat):Int)==0):=eU (x:=.cl (.int (cntP p))) (cE (v5 _ _) hcn) rfl rfl
  by_cases hz:cntP p=0
  . rw[if_pos hz]
    refine aKB (ht.trans (by rw[hz];rfl)) (cs rfl rfl)
  . rw[if_neg hz]
    exact dW (ht.trans (by rw[show(((cntP p:Nat):Int)==0)=false by simpa using hz]))
 let υ:Sl:=.sh false (.int ((if cntP p=0 then on else b+1+rs.length:Nat):Int))
 let w:Way:=⟨.yes,[],((if cntP p=0 then on else b+1+rs.length:Nat):Int)⟩
 have e3:ex pg (call pg N) (lg q b on ws rs (sd (prD p)) υ) (.app 3 (.tup (.cons (.tup (.cons (.c (.str "yes")) .nil)) (.cons (.tup .nil) (.cons (.v 6) .nil)))))=.next (lg q b on (ws++[w]) rs (sd (prD p)) υ):=
  (yJ (v:=.cl (Way.d w)) (mI (x:=Cn.yes.d) (y:=dF []) rfl rfl rfl) rfl (by rw[lM];unfold lim;omega) rfl (by rw[AJ];rfl)).trans rfl
 have e4:=wW (i:=4) (a:=.v 4) (σ:=lg q b on (ws++[w]) rs (sd (prD p)) υ) (P:=pg) (cl:=call pg N) rfl (dB (f:=36) (v5 _ _) (ef (ws++[w]) υ) (c:=.v 2) (z:=.cl (.int on)) rfl hin) (by rw[bQ,bQ,hlen];unfold lim;omega) (by show 4<7;decide)
 refine⟨υ,cs e1 (cs e2 (cs e3 (cs e4 ?_)))⟩
 have ha:aF (rs++inn)=aF rs++aF inn:=AJ
 refine HF (b:=O.next [.sh true (.lst (q.map prD)),.sh true (.int b),.sh true (.int on),.own false ((ws++[w]).map Way.d),.own false (aF rs++aF inn),sd (prD p),υ]) rfl ?_
 rw[<-ha]
theorem aDC{N m l:Nat}(h:LaF N m l)(hn:nJ N m l):LcF (N+1) m l:=λq b on hq hp hc=>by
 let f:List Dd->Nat->List (List Way):=λp b=>Rs (Rd l) (unrP p) b on
 have hf:∀p∈q,∀b,(f p b).length=cntP p:=λp hq b=>bW p (hp p hq).2 b on
 obtain⟨σ',ef,ws,rs,s5,s6,hσ,h1,h2,h3,h4⟩:=fP (P:=pg) (cl:=call pg N) (σ:=lg q b on [] [] .dead .dead) (t:=.n 5) (b:=lcB) (λi σ=>∃(ws:List Way) (rs:List (List Way)) (s5 s6:Sl),σ=lg q b on ws rs s5 s6/\ws.length=i/\rs.length=cntQ (q.take i)/\ws++(chs f on (q.drop i) (b+1+rs.length)).1=(chs f on q (b+1)).1/\rs++(chs f on (q.drop i) (b+1+rs.length)).2=(chs f on q (b+1)).2) (gN (f:=prD) (a:=.v 0) (fr:=false) rfl)
  ⟨[],[],.dead,.dead,rfl,rfl,rfl,rfl,rfl⟩ λi hi σ ⟨ws,rs,s5,s6,e,h1,h2,h3,h4⟩=>by
   rw[lM] at hi
   subst e
   rw[Bm]
   have hm:=A9 hi
   have hct:cntQ (q.take i)+cntP q[i]<=cntQ q:=by
    have:=gA (q.take (i+1)) (q.drop (i+1))
    rw[Cs,cF hi,gA] at this
    rw[this,cntQ,cntQ]
    omega
   obtain⟨s6',et⟩:=aFe h hn (q:=q) (b:=b) (on:=on) (ws:=ws) (rs:=rs) (by omega) (by omega) (hp _ hm).1 (hp _ hm).2 (by omega) s6
   rw[iY hi,chs] at h3 h4
   refine⟨lg q b on ws rs (sd (prD q[i])) s6,_,rfl,et,_,_,_,s6',rfl,by rw[lA,h1];rfl,?_,?_,?_⟩
   . rw[lA,h2,bW _ (hp _ hm).2,cF hi,gA]
     rfl
   . rw[Ba,lA,bW _ (hp _ hm).2,<-Cq]
     exact h3
   . rw[Ba,lA,bW _ (hp _ hm).2,<-Cq]
     exact h4
 subst hσ
 rw[lM] at h1 h2 h3 h4
 rw[Bl,chs,Ax] at h3 h4
 subst h3 h4
 have hlr:=(lJ (on:=on) q (b+1) hf).2
 obtain⟨al,ea⟩:=wU (ws:=(chs f on q (b+1)).1) (rs:=(chs f on q (b+1)).2) (by omega)
 have er:ev pg (call pg N) (lg q b on (chs f on q (b+1)).1 (chs f on q (b+1)).2 s5 s6) (.op .Add (.lst (.cons (.v 3) .nil)) (.v 4))=.ok ⟨.lst (aF ((chs f on q (b+1)).1::(chs f on q (b+1)).2)),true,false,al⟩:=eC (x:=gW [⟨.lst ((chs f on q (b+1)).1.map Way.d),false,false,[3]⟩]) rfl rfl ea
 exact aM (F:=f34) (v:=⟨.lst (aF ((chs f on q (b+1)).1::(chs f on q (b+1)).2)),true,false,al⟩) rfl rfl (cs rfl (cs rfl (cs ef (cX er))))
theorem laid(n m:Nat):LaF (n+8) m 2:=by
 have a0:∀n,LaF (n+2) m 0:=λn=>zA (yZ (N:=n) λl' e=>by cases e) (pT n m).1
 have c0:∀n,LcF (n+3) m 0:=λn=>aDC (a0 n) (pT (n+1) m).1
 have a1:∀n,LaF (n+5) m 1:=λn=>zA (yZ (N:=n+3) λl' e=>by cases e;exact⟨c0 n,a0 (n+1)⟩) (pT (n+2) m).2.1
 have c1:∀n,LcF (n+6) m 1:=λn=>aDC (a1 n) (pT (n+3) m).2.1
 exact zA (yZ (N:=n+6) λl' e=>by cases e;exact⟨c1 n,a1 (n+1)⟩) (pT (n+4) m).2.2
section
variable {m e:Nat}
theorem aAD{ps:List (Nat×Sm)}(o:nI m ps){on:Nat}(h:on<=e):rG m ⟨.yes,ps,(on:Int)⟩/\(0:Int)<=on/\(on:Int)<(e:Int)+1:=⟨⟨trivial,by show Cn.yes.sz<=31;decide,o.all,o.up⟩,by omega,by omega⟩
theorem aAE{w:Way}(h:rG m w/\0<=w.nx/\w.nx<(e:Int)+1):∀ws∈[[w]],lD m e ws:=λws hw=>by
 rw[A5.mp hw]
 exact⟨Aj _,by show 1<=4;decide,λx hx=>by rw[A5.mp hx];exact h⟩
theorem zB{f:Dd->Nat->Nat->List (List Way)}:∀(ds:List Dd) (b on:Nat),b+cntP ds<=e->on<=e->(∀d∈ds,∀b on,b+cnt d<=e->on<=e->∀ws∈f d b on,lD m e ws)->∀ws∈Rs f ds b on,lD m e ws
 | [],_,_,_,_,_,ws,h=>by cases h
 | d::ds,b,on,hb,ho,hf,ws,h=>by
  rw[cntP] at hb
  rw[Rs] at h
  rcases AS.mp h with z|z
  . refine hf d Aq b _ (by omega) ?_ ws z
    split <;> omega
  . exact zB ds _ on (by omega) ho (λx hx=>hf x (Ag _ hx)) ws z
theorem aAF{f:List Dd->Nat->List (List Way)}{on:Nat}(ho:on<=e):∀(q:List (List Dd)) (b:Nat),b+cntQ q<=e->(∀p∈q,∀b,b+cntP p<=e->∀ws∈f p b,lD m e ws) ->
 (∀w∈(chs f on q b).1,rG m w/\0<=w.nx/\w.nx<(e:Int)+1)/\∀ws∈(chs f on q b).2,lD m e ws
 | [],_,_,_=>⟨λw h=>absurd h BF,λw h=>absurd h BF⟩
 | p::q,b,hb,hf=>by
  rw[cntQ] at hb
  obtain⟨h1,h2⟩:=aAF (f:=f) ho q (b+cntP p) (by omega) λx hx=>hf x (Ag _ hx)
  rw[chs]
  refine⟨λw hw=>?_,λws hw=>?_⟩
  . rcases AD.mp hw with rfl|z
    . exact aAD ⟨λp h=>absurd h BF,D2⟩ (by split <;> omega)
    . exact h1 w z
  . rcases AS.mp hw with z|z
    . exact hf p Aq b (by omega) ws z
    . exact h2 ws z
theorem aDD:∀(l:Nat) (d:Dd) (b on:Nat),wM d->Ok m l d->b+cnt d<=e->on<=e->∀ws∈Rd l d b on,lD m e ws
 | l,.put ps,b,on,_,o,_,h=>by
  have o:nI m ps:=by cases l <;> exact o
  rw[show Rd l (.put ps) b on=[[⟨.yes,ps,(on:Int)⟩]] by cases l <;> rfl]
  exact aAE (aAD o h)
 | l,.wait g ps,b,on,_,o,_,h=>by
  have o:g.wf m true/\g.sz<=31/\nI m ps:=by cases l <;> exact o
  rw[show Rd l (.wait g ps) b on=[[⟨g,ps,(on:Int)⟩]] by cases l <;> rfl]
  exact aAE ⟨⟨o.1,o.2.1,o.2.2.all,o.2.2.up⟩,Dx on,by show(on:Int)<e+1;omega⟩
 | 0,.cho q,b,on,_,o,_,_=>o.elim
 | l+1,.cho q,b,on,_,o,hb,h=>by
  have o:2<=q.length/\q.length<=4/\∀p∈q,p.length<=4/\∀d∈p,Ok m l d:=o
  rw[cnt] at hb
  obtain⟨h1,h2⟩:=aAF (m:=m) (f:=λp b=>Rs (Rd l) (unrP p) b on) h q (b+1) (by omega) λp hp b hb=>zB (unrP p) b on (by rw[cnt_unr];exact hb) h λd hd b on=>aDD l d b on (unrP_nolp p d hd) (fJ p (o.2.2 p hp).2 d hd)
  have hl:=(lJ (f:=λp b=>Rs (Rd l) (unrP p) b on) (on:=on) q (b+1) λp hq b=>bW p (o.2.2 p hq).2 b on).1
  intro ws hw
  rw[Rd] at hw
  rcases AD.mp hw with rfl|z
  . exact⟨by omega,by omega,h1⟩
  . exact h2 ws z
 | l,.lp k p,_,_,n,_,_,_=>n.elim
theorem aFf{p:List Dd}(hp:∀d∈p,Ok m 2 d)(hc:cntP p<=8):tL m (aAC p):=by
 have hl:=bW p hp 0 (cntP p)
 refine⟨by rw[hl];exact hc,λws hw=>?_⟩
 rw[hl]
 exact zB (unrP p) 0 (cntP p) (by rw[cnt_unr];omega) (Aj _) (λd hd b on=>aDD 2 d b on (unrP_nolp p d hd) (fJ p hp d hd)) ws hw
theorem wX{ps:List (Nat×Sm)}(o:nI m ps)(n:Nat):okE (n+8) (dF ps)=true:=by
 show(ps.map putD).all (okE (n+7))=true
 rw[Bz,Az]
 intro p hp
 have e2:=mJ p.2 (n+5-p.2.sz)
 rw[show n+5-p.2.sz+p.2.sz+1=n+6 by have:=(o.all p hp).sz;omega] at e2
 show(true&&(okE (n+6) p.2.d&&true))=true
 rw[e2];rfl
theorem zC:∀(l:Nat) (d:Dd) (n:Nat),Ok m l d->okE (n+40+4*l) d.d=true
 | l,.put ps,n,o=>by
  have o:nI m ps:=by cases l <;> exact o
  have e:=wX o (n+31+4*l)
  rw[gR,show n+40+4*l=n+31+4*l+8+1 by omega]
  show(okE (n+31+4*l+8) (.str "put")&&(okE (n+31+4*l+8) (dF ps)&&true))=true
  rw[e];rfl
 | l,.wait g ps,n,o=>by
  have o:g.wf m true/\g.sz<=31/\nI m ps:=by cases l <;> exact o
  have e:=wX o.2.2 (n+31+4*l)
  have e1:=pK g (n+38+4*l-g.sz)
  rw[show n+38+4*l-g.sz+g.sz+1=n+31+4*l+8 by have:=o.2.1;omega] at e1
  rw[eI,show n+40+4*l=n+31+4*l+8+1 by omega]
  show(okE (n+31+4*l+8) (.str "wait")&&(okE (n+31+4*l+8) g.d&&(okE (n+31+4*l+8) (dF ps)&&true)))=true
  rw[e,e1];rfl
 | 0,.cho q,n,o=>o.elim
 | 0,.lp k p,n,o=>o.elim
 | l+1,.cho q,n,o=>by
  have o:2<=q.length/\q.length<=4/\∀p∈q,p.length<=4/\∀d∈p,Ok m l d:=o
  rw[lE,show n+40+4*(l+1)=n+1+40+4*l+1+1+1 by omega]
  have e:(q.map prD).all (okE (n+1+40+4*l+1))=true:=by
   rw[Bz,Az]
   intro p hp
   show(p.map Dd.d).all (okE (n+1+40+4*l))=true
   rw[Bz,Az]
   exact λd hd=>zC l d (n+1) ((o.2.2 p hp).2 d hd)
  show(okE (n+1+40+4*l+1+1) (.str "choose")&&((q.map prD).all (okE (n+1+40+4*l+1))&&true))=true
  rw[e];rfl
 | l+1,.lp k p,n,o=>by
  have o:k<=8/\p.length<=4/\∀d∈p,Ok m l d:=o
  rw[wF,show n+40+4*(l+1)=n+2+40+4*l+1+1 by omega]
  have e:(p.map Dd.d).all (okE (n+2+40+4*l))=true:=by
   rw[Bz,Az]
   exact λd hd=>zC l d (n+2) (o.2.2 d hd)
  show(okE (n+2+40+4*l+1) (.str "loop")&&(okE (n+2+40+4*l+1) (.int k)&&((p.map Dd.d).all (okE (n+2+40+4*l))&&true)))=true
  rw[e];rfl
theorem aFg{p:List Dd}(hp:∀d∈p,Ok m 2 d):eqD (prD p) (prD p)=some true:=by
 refine pJ 120 _ ?_
 show(p.map Dd.d).all (okE 119)=true
 rw[Bz,Az]
 exact λd hd=>zC 2 d 71 (hp d hd)
end
theorem aBx(n:Nat)(k:Int):call pg (n+1) 13 [.int k]=.ok (.bl true,false,false):=rfl
section
variable {P:Pg} {cl:Caller} {σ:Sg}
theorem aBy{k:Nat}{caps:List Nat}{t:T}{it:It}{c elt:E}{xs:List Vl}{al:List Nat}(hw:walk P cl σ it=.ok (xs,al))(hb:∀x∈xs,∃σ1,bJ (Ad k .dead++caps.map λi=>((freeze σ al)[i]?).getD .dead) x t=.ok σ1/\tst P cl σ1 c=.ok false) :
 ev P cl σ (.comp k caps t it (.cons c .nil) elt)=.ok ⟨.lst [],true,false,[]⟩:=by
 have go:∀(f:Vl->R (Option Vl)) (xs:List Vl),(∀x∈xs,f x=.ok none)->cY f xs=.ok []:=λf xs=>by
  induction xs with
  | nil=>intro _;rfl
  | cons x r ih=>
   intro h
   show(f x >>= λy=>cY f r >>= λys=>(match y with|some y=>R.ok (y::ys)|none=>.ok ys))=_
   rw[h x Aq,aC,ih λy hy=>h y (Ag _ hy)]
   rfl
 rw[sV,hw,aC,go _ xs λx hx=>?_]
 . rfl
 . obtain⟨σ1,e1,e2⟩:=hb x hx
   show(bJ _ x t >>= λσ1=>tsts P cl σ1 (.cons c .nil) >>= λb=>_)=_
   rw[e1,aC]
   have:tsts P cl σ1 (.cons c .nil)=.ok false:=by
    show(tst P cl σ1 c >>= λx=>if x then tsts P cl σ1 .nil else R.ok false)=_
    rw[e2];rfl
   rw[this]
   rfl
theorem aFh{f i:Nat}{z:Bool}{a:E}{x:Vl}{ds:List D}{k:Bool}(h:ev P cl σ a=.ok x)(ho:dG σ i=some ds)(hc:cl f (if z then [x.d,.lst ds] else [.lst ds,x.d])=.ok (.bl k,false,false)):tst P cl σ (.callO f z a i)=.ok k:=by
 show(ev P cl σ a >>= λx=>(match dG σ i with|some ds=>cl f (if z then [x.d,.lst ds] else [.lst ds,x.d]) >>= λr=>R.iff (!r.2.2) (eA ⟨r.1,r.2.1,false,[]⟩)|none=>.bad))=_
 rw[h,aC,ho]
 show(cl f (if z then [x.d,.lst ds] else [.lst ds,x.d]) >>= λr=>R.iff (!r.2.2) (eA ⟨r.1,r.2.1,false,[]⟩))=_
 rw[hc]
 rfl
theorem aFi{f i:Nat}{z:Bool}{a:E}{x:Vl}{ds:List D}{d:D}{fr:Bool}(h:ev P cl σ a=.ok x)(ho:dG σ i=some ds)(hc:cl f (if z then [x.d,.lst ds] else [.lst ds,x.d])=.ok (d,fr,false)):ev P cl σ (.callO f z a i)=.ok ⟨d,fr,false,[]⟩:=by
 show(ev P cl σ a >>= λx=>(match dG σ i with|some ds=>cl f (if z then [x.d,.lst ds] else [.lst ds,x.d]) >>= λr=>R.iff (!r.2.2) (R.ok (Vl.mk r.1 r.2.1 false []))|none=>.bad))=_
 rw[h,aC,ho]
 show(cl f (if z then [x.d,.lst ds] else [.lst ds,x.d]) >>= λr=>R.iff (!r.2.2) (R.ok (Vl.mk r.1 r.2.1 false [])))=_
 rw[hc]
 rfl
theorem zT{i:Nat}{a:E}{x:Vl}{ds:List D}{k:Bool}(h:ev P cl σ a=.ok x)(ho:dG σ i=some ds)(e:bL .NotEq (.lst ds) x.d=some k):tst P cl σ (.neO i a)=.ok k:=by
 show(ev P cl σ a >>= λx=>(match dG σ i with|some ds=>(match bL .NotEq (.lst ds) x.d with|some k=>R.ok k|none=>.bad)|none=>.bad))=_
 rw[h,aC,ho]
 show(match bL .NotEq (.lst ds) x.d with|some k=>R.ok k|none=>.bad)=_
 rw[e]
end
abbrev hf(h:List (List Way))(s:Sl):Sg:=[.sh true (.lst (aF h)),.sh true (.lst (aF h)),s]
theorem nC(n:Nat){m:Nat}{h:List (List Way)}(o:tL m h):call pg (n+2) 38 [.lst (aF h),.lst (aF h)]=.ok (.bl true,false,false):=by
 have v0:∀s,ev pg (call pg (n+1)) (hf h s) (.v 0)=.ok ⟨.lst (aF h),false,true,[]⟩:=λ_=>rfl
 have v1:∀s,ev pg (call pg (n+1)) (hf h s) (.v 1)=.ok ⟨.lst (aF h),false,true,[]⟩:=λ_=>rfl
 have e1:=dW (P:=pg) (cl:=call pg (n+1)) (σ:=hf h .dead) (a:=.cons (.ret (.c (.bl false))) .nil) (nA (jK (nB (cs:=[.tList]) (k:=true) (v0 _) rfl)) (eU (v0 _) (v1 _) (aDo (aAx o))))
 obtain⟨σ',e2,s,hσ⟩:=fP (P:=pg) (cl:=call pg (n+1)) (σ:=hf h .dead) (t:=.n 2) (b:=match hdS (drp 1 f38.body) with|.for _ _ b=>b|_=>.nil) (λi σ=>∃s,σ=hf h s) (gN (f:=lB) (a:=.v 0) (fr:=false) (v0 .dead)) ⟨.dead,rfl⟩ λi hi σ ⟨s,hs⟩=>by
  rw[lM] at hi
  subst hs
  rw[Bm]
  have hm:=A9 hi
  generalize h[i]=ws at hm
  have v2:ev pg (call pg (n+1)) (hf h (sd (lB ws))) (.v 2)=.ok (pv (lB ws)):=jR 2 (lB ws)
  refine⟨hf h (sd (lB ws)),_,rfl,cs (dW (jK (nB (k:=true) v2 rfl))) (pI (dW (eU (y:=⟨.lst [],true,false,[]⟩) (aBy (xs:=ws.map λw=>Vl.cl w.d) (al:=[]) ?_ λx hx=>?_) rfl rfl))),_,rfl⟩
  . rw[iI,v2,aC]
    show R.ok (items _ (ws.map Way.d),[])=_
    rw[mE kW]
  . obtain⟨w,hw,rfl⟩:=AH.mp hx
    have v:ev pg (call pg (n+1)) [.sh false w.d] (.v 0)=.ok (.cl w.d):=bC 0 _
    exact⟨[.sh false w.d],aDk _,nA (jK (nB (k:=true) v rfl)) (jK (aET (x:=.cl (.int w.nx)) (aX v rfl rfl) (aBx n w.nx)))⟩
 subst hσ
 exact aM (F:=f38) (v:=.cl (.bl true)) rfl rfl (cs e1 (cs e2 rfl))
theorem aBz{m e:Nat}{h:List (List Way)}(o:∀ws∈h,lD m e ws):(aF h).all qR=true:=by
 rw[Bz,Az]
 intro ws hw
 have h1:=(o ws hw).one
 have h4:=(o ws hw).few
 cases ws with
 | nil=>exact absurd h1 (by decide)
 | cons w ws=>
  show decide ((ws.map Way.d).length<1000)=true
  rw[lM]
  rw[lC] at h4
  exact Al (by omega)
theorem tU{w x:Str}{ds:List D}(h:x≠w):jD w (.tup (.str x::ds))=true:=by simp[jD,h]
theorem aBA(p:List Dd):(p.map Dd.d).all (jD "loop")=true:=by
 rw[Bz,Az]
 intro d _
 show jD "loop" d.d=true
 cases d with
 | put ps=>rw[gR];exact tU (by decide +kernel)
 | wait g ps=>rw[eI];exact tU (by decide +kernel)
 | cho q=>rw[lE];exact tU (by decide +kernel)
 | lp k p=>rw[wF];simp[jD]
theorem pure(ns:List Int)(_:ns.length<=63):∃fr pa,call pg 60 39 [.lst (ns.map D.int)]=.ok (.bl true,fr,pa):=by
 refine⟨false,false,aM (F:=f39) rfl rfl (v:=.cl (.bl true)) ?_⟩
 show exs pg (call pg 59) [.sh true (.lst (ns.map D.int)),.dead,.dead,.dead,.dead,.dead,.dead,.dead,.dead] _=_
 obtain⟨bs,k,T,hm,hm4,hk,hbx⟩:=aBo 56 ns
 have h90:cD 2<=90000:=by decide
 obtain⟨p0,k',o0,hk',hpd⟩:=tM 45 ns hm hm4 k (by have:=h90;omega)
 obtain⟨p,b,hl,hp,hc,hsh⟩:=aBt (pT 55 bs.length).2.2 o0.1 o0.2
 have o:=aFf hp hc
 generalize hR:aAC p=R at o
 let lw:Nat->Sl->Sl->Sl->Sl->Sl->Sl->Sl->Sg:=λk s2 s3 s4 s5 s6 s7 s8=>[.sh true (.lst (ns.map D.int)),.own true (aR ns k),s2,s3,s4,s5,s6,s7,s8]
 have e1:ex pg (call pg 59) [.sh true (.lst (ns.map D.int)),.dead,.dead,.dead,.dead,.dead,.dead,.dead,.dead] (hdS f39.body)=.next (lw 0 .dead .dead .dead .dead .dead .dead .dead):=rfl
 have e2:ex pg (call pg 59) (lw 0 .dead .dead .dead .dead .dead .dead .dead) (.setL 2 1 [] (.call 5 (.cons (.e (.c (.int 12))) .nil)))=.next (lw k (.own false (aD bs)) .dead .dead .dead .dead .dead .dead):=by
  rw[fI,bG,pD (P:=pg) (cl:=call pg 59) (l:=1) (σ:=lw 0 .dead .dead .dead .dead .dead .dead .dead) (z:=(true,aR ns 0)) rfl rfl (vs:=[.cl (.int 12)]) (σ1:=lw 0 .dead .dead .dead .dead .dead .dead .dead) rfl (pa:=true) (cs:=aR ns 0) rfl hbx]
  rfl
 have e3:ex pg (call pg 59) (lw k (.own false (aD bs)) .dead .dead .dead .dead .dead .dead) (.setL 3 1 [2] (.pcall 33 (.cons (.call 31 (.cons (.e (.v 2)) (.cons (.e (.c (.int 1))) .nil))) .nil)))=.next (lw k' (.sh false (.lst (aD bs))) (.own false (p.map Dd.d)) .dead .dead .dead .dead .dead):=by
  rw[fI]
  show O.from _ (evls' pg (call pg 59) 1 (lw k (.sh false (.lst (aD bs))) .dead .dead .dead .dead .dead .dead) (.cons (.call 31 (.cons (.e (.v 2)) (.cons (.e (.c (.int 1))) .nil))) .nil) >>= λr=>call pg 59 33 (r.1.map (·.d)) >>= λq=>noAl (eT r.1 q) r.2) _=_
  rw[gM,pD (P:=pg) (cl:=call pg 59) (l:=1) (σ:=lw k (.sh false (.lst (aD bs))) .dead .dead .dead .dead .dead .dead) (z:=(true,aR ns k)) rfl rfl (vs:=[.cl (.lst (aD bs)),.cl (.int 1)]) (σ1:=lw k (.sh false (.lst (aD bs))) .dead .dead .dead .dead .dead .dead) rfl (pa:=true) (cs:=aR ns k) rfl hpd]
  show O.from _ (call pg 59 33 [prD p0] >>= λq=>noAl (eT [⟨prD p0,true,false,[]⟩] q) (lw k' (.sh false (.lst (aD bs))) .dead .dead .dead .dead .dead .dead)) _=_
  rw[hsh,aC]
  cases b <;> rfl
 let lv:Sl->Sl->Sl->Sl->Sl->Sg:=λs4 s5 s6 s7 s8=>lw k' (.sh false (.lst (aD bs))) (.own false (p.map Dd.d)) s4 s5 s6 s7 s8
 have w2:∀s4 s5 s6 s7 s8,ev pg (call pg 59) (lv s4 s5 s6 s7 s8) (.v 2)=.ok (.cl (.lst (aD bs))):=λ_ _ _ _ _=>bC 2 _
 have w3:∀s4 s5 s6 s7 s8,ev pg (call pg 59) (lv s4 s5 s6 s7 s8) (.v 3)=.ok ⟨prD p,false,false,[3]⟩:=λ_ _ _ _ _=>sZ 3 false _
 have w4:∀s5 s6 s7 s8,ev pg (call pg 59) (lv (.own false (aF R)) s5 s6 s7 s8) (.v 4)=.ok ⟨.lst (aF R),false,false,[4]⟩:=λ_ _ _ _=>sZ 4 false _
 have e4:ex pg (call pg 59) (lv .dead .dead .dead .dead .dead) (.set (.n 4) (.call 36 (.cons (.v 3) (.cons (.c (.int 0)) (.cons (.call 32 (.cons (.v 3) .nil)) .nil)))))=.next (lv (.own false (aF R)) .dead .dead .dead .dead):=by
  have h1:=laid 51 bs.length p 0 (cntP p) (by omega) hp hc
  rw[show Rs (Rd 2) (unrP p) 0 (cntP p)=R from hR] at h1
  exact aDl (dB (w3 _ _ _ _ _) (y:=.cl (.int ((0:Nat):Int))) rfl (cE (w3 _ _ _ _ _) ((pT 56 bs.length).2.2 p (by omega) hp)) h1)
 let lu:Sl->Sl->Sl->Sl->Sg:=λs5 s6 s7 s8=>lv (.own false (aF R)) s5 s6 s7 s8
 have e5:ex pg (call pg 59) (lu .dead .dead .dead .dead) (.tldD 5 37 (.cons (.v 3) .nil))=.next (lu (.dp (some (p.map Dd.d))) .dead .dead .dead):=by
  show O.from (lu .dead .dead .dead .dead) (evs pg (call pg 59) (lu .dead .dead .dead .dead) (.cons (.v 3) .nil)) (λvs=>O.from (lu .dead .dead .dead .dead) (call pg 59 37 (vs.map (·.d))) λr=>match r with
   | (.lst ds,true,false)=>O.next ((lu .dead .dead .dead .dead).set 5 (.dp (some ds)))
   | _=>.bad)=_
  rw[aE,w3,aC]
  show O.from (lu .dead .dead .dead .dead) (call pg 59 37 [prD p]) _=_
  rw[aMf 56 bs.length p (by omega) hp]
  rfl
 have hmd:call pg 59 2 [.lst (aD bs),prD p]=.ok (.lst (aF R),true,false):=by
  rw[<-hR];exact aDz 48 bs.length hl hp hc
 have e6:ex pg (call pg 59) (lu (.dp (some (p.map Dd.d))) .dead .dead .dead) (.tldO 6 2 (.v 2) 5)=.next (lu (.dp (some (p.map Dd.d))) (.dp (some (aF R))) .dead .dead):=by
  show O.from (lu (.dp (some (p.map Dd.d))) .dead .dead .dead) (ev pg (call pg 59) (lu (.dp (some (p.map Dd.d))) .dead .dead .dead) (.v 2)) (λx=>O.from (lu (.dp (some (p.map Dd.d))) .dead .dead .dead) (call pg 59 2 [x.d,prD p]) λr=>match r with
   | (.lst ds,true,false)=>O.next ((lu (.dp (some (p.map Dd.d))) .dead .dead .dead).set 6 (.dp (some ds)))
   | _=>.bad)=_
  rw[w2,aG,cQ,hmd]
  rfl
 have ne:=aDo (aAx o)
 have e7:ex pg (call pg 59) (lu (.dp (some (p.map Dd.d))) (.dp (some (aF R))) .dead .dead) (hdS (drp 6 f39.body))=.next (lu (.dp (some (p.map Dd.d))) (.dp (some (aF R))) .dead .dead):=
  dW (nA (jK (aFh (f:=38) (i:=6) (z:=false) (k:=true) (w4 _ _ _ _) rfl (nC 57 o))) (nA (zT (w3 _ _ _ _ _) rfl (aDo (aFg hp))) (eU (aFi (f:=21) (i:=6) (z:=true) (w2 _ _ _ _ _) rfl (wD 20 o)) (w4 _ _ _ _) ne)))
 have e8:ex pg (call pg 59) (lu (.dp (some (p.map Dd.d))) (.dp (some (aF R))) .dead .dead) (.wrkC 5 7 "loop")=.next (lu (.dp none) (.dp (some (aF R))) .dead .dead):=by
  show(if 5≠7/\7<9/\(p.map Dd.d).all (jD "loop")=true then O.next (lu (.dp none) (.dp (some (aF R))) .dead .dead) else .bad)=_
  exact if_pos ⟨by decide,by decide,aBA p⟩
 have e9:ex pg (call pg 59) (lu (.dp none) (.dp (some (aF R))) .dead .dead) (.clrD 5)=.next (lu (.dp none) (.dp (some (aF R))) .dead .dead):=rfl
 have e10:ex pg (call pg 59) (lu (.dp none) (.dp (some (aF R))) .dead .dead) (hdS (drp 9 f39.body))=.next (lu (.dp none) (.dp (some (aF R))) .dead .dead):=dW (zT (w4 _ _ _ _) rfl ne)
 have e11:ex pg (call pg 59) (lu (.dp none) (.dp (some (aF R))) .dead .dead) (.wrkA 6 8)=.next (lu (.dp none) (.dp none) .dead .dead):=by
  show(if 6≠8/\8<9/\(aF R).length<1000/\(aF R).all qR=true then O.next (lu (.dp none) (.dp none) .dead .dead) else .bad)=_
  exact if_pos ⟨by decide,by decide,by rw[bQ];have:=o.few;omega,aBz o.ok⟩
 exact cs e1 (cs e2 (cs e3 (cs e4 (cs e5 (cs e6 (cs e7 (cs e8 (cs e9 (cs e10 (cs e11 (cX (kZ (aDm (w2 _ _ _ _ _) (w3 _ _ _ _ _) hmd) (w4 _ _ _ _) (nC 57 o)))))))))))))
end K76
end
noncomputable section
set_option maxRecDepth 100000
set_option maxHeartbeats 0
namespace K76
open PySem PySem.W L2 Hp Hh
def ix:List (Nat×List Str):=(31,["deed"]) ::
 (32,["deed", "place"]) ::
 (33,["boxes", "program"]) ::
 (42,["_law_script", "_law_k", "_law_base"]) ::
 (43,["_law_pen", "_law_many_here", "_law_cell_here"]) ::
 (44,["_law_pen", "_law_most", "_law_boxes_here", "_law_room", "_law_k", "_law_top", "_law_letter"]) ::
 (45,["_law_pen", "_law_boxes_here", "_law_deep", "_law_way_here"]) ::
 (46,["_law_pen", "_law_boxes_here", "_law_deep", "_law_way_here"]) ::
 (34,["program"]) ::
 (35,["program"]) ::
 (36,["deed"]) ::
 (37,["program", "begin", "on", "deeds", "rows", "number", "deed", "here", "last"]) ::
 (38,["program", "deeds", "deed"]) ::
 (48,["_law_thing"]) ::
 (6,["thing"]) ::
 (7,["thing", "least", "most"]) ::
 (13,["boxes", "thing", "plain"]) ::
 (14,["boxes", "thing", "plain"]) ::
 (15,["boxes", "kind", "thing", "plain", "seen", "form", "due", "inner"]) ::
 (16,["kind", "thing", "plain", "word", "form"]) ::
 (17,["boxes", "due", "thing", "most"]) ::
 (24,["boxes", "thing"]) ::
 (25,["boxes", "thing", "end"]) ::
 (26,["boxes", "thing", "end"]) ::
 (27,["boxes", "thing"]) ::
 (28,["boxes", "thing", "least", "put"]) ::
 (29,["boxes", "thing", "least"]) ::
 (39,["deed", "here", "on"]) ::
 (40,["programs", "here", "on", "ways", "rows", "program", "begin", "inner"]) ::
 (49,["_law_pen", "_law_boxes_here", "_law_puts_here", "_law_k"]) ::
 (50,["_law_pen", "_law_boxes_here", "_law_deep", "_law_way_here", "_law_times"]) ::
 (51,["_law_pen", "_law_boxes_here", "_law_deep"]) ::
 (52,["_law_program_here", "_law_many_here", "_law_deed_here"]) ::
 (53,["_law_program_here", "_law_found"]) ::
 (54,["_law_programs", "_law_begin", "_law_on", "_law_ways", "_law_rows", "_law_one", "_law_first"]) ::
 (55,["_law_deed_here", "_law_begin", "_law_on"]) ::
 (56,["_law_program_here", "_law_begin", "_law_on", "_law_rows", "_law_k", "_law_rest", "_law_after"]) ::
 (57,["_law_program_here", "_law_found", "_law_deed_here"]) ::
 (58,["_law_found", "_law_due", "_law_row"]) ::
 (59,["_law_script", "_law_pen", "_law_boxes_here", "_law_program_here", "_law_due", "_law_handed", "_law_found", "_law_deed_here", "_law_row"])::[]
def sn:Sn:=⟨[("MOST_PARTS",(.int 40)),("MOST_NUMBER",(.int 99)),("MOST_ROWS",(.int 8)),("MOST_WAYS",(.int 4)),("GUARD",(.int 0)),("PUTS",(.int 1)),("NEXT",(.int 2))],[("SUM_FORMS",[("number",["number"]),("box",["box"]),("after",["box"]),("plus",["sum", "sum"]),("minus",["sum", "sum"])]),("COND_FORMS",[("yes",[]),("is",["sum", "sum"]),("less",["sum", "sum"]),("not",["cond"]),("both",["cond", "cond"]),("either",["cond", "cond"])])]⟩
abbrev pw:=DJ
theorem chk:iG ⟨[],[],(ix.map (nG pw)).map (·.x),sn.cns,[],true,sn.tbs.map (·.1)⟩ pg.fns (ix.map (nG pw))=true:=by decide +kernel
abbrev Lq(w:AG)(os:FG):Prop:=aKk pw (rD pw) (sU pw) (λs=>iS pw sn s.heap) 100000 w os=some (true,GY (rD pw) (sU pw),lY pw sn w)
theorem lf1(os:FG)(w:AG):Lq (w.withFollow "special-get-raises" false) os:=by kernel_rfl
theorem lf2(os:FG)(w:AG):Lq (w.withFollow "special-get-raises" true) os:=by kernel_rfl
theorem lft:HC pw (rD pw) (sU pw) (λ_=>true) (λs=>iS pw sn s.heap) (λw=>lY pw sn w) 100000:=aHM (by kernel_rfl) rfl (λ_=>by kernel_rfl) λw os=>byRow2 "special-get-raises" (P:=λw=>Lq w os) (lf1 os) (lf2 os) w
abbrev rr:=Cc
theorem w0:looksOpen rr.row.prog=true:=by kernel_rfl
theorem w1:rr.row.wellSaid=true:=by unfold OpenRow.wellSaid OpenRow.partSaid;rw[w0];kernel_rfl
theorem ws:rr.wellSaid=true:=by unfold OpenLaw.wellSaid;rw[w1];kernel_rfl
end K76
end
noncomputable section
open PySem PySem.W PyProof.Rows Hh
set_option maxRecDepth 100000 in
set_option maxHeartbeats 0 in
theorem PySem.Challenge.cw_handpromise_k76_rows_made_holds : PySem.Challenge.rw_handpromise_k76_rows_made.Holds := by
 refine holds_law K76.ws λ said => ?_
 refine aHR (l := Cc) (k := 59) (f := 39) (x := "_law_script") (sl := ["_law_pen", "_law_boxes_here", "_law_program_here", "_law_due", "_law_handed", "_law_found", "_law_deed_here", "_law_row"]) said K76.lft (by kernel_rfl) (by kernel_rfl) rfl rfl (by decide +kernel) ⟨rfl, rfl, rfl, rfl, rfl, by decide +kernel⟩ ?hw rfl rfl (by decide +kernel) (by decide +kernel) K76.chk rfl (by decide +kernel) ⟨rfl, rfl, by decide, by decide⟩ (by kernel_rfl) rfl K76.pure
 w_witness2
end
