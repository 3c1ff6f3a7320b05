import PyProof.Rows.All
import Wide.All
import OpenK.AllK
import Wide.FinOn
import Lean
import PyProof.EqAt
import PyProof.EqKinds
import PyProof.TupleCall
import PySem.Syntax
import PySem.Builtin.Str.Common
import PyProof.ReprReads
import PyProof.RaisesMany
import PyProof.NeKinds
import KE.KIsAll
import OpenK.KOwn
import PyProof.RulesDel
import PyProof.RulesAs
import PyProof.ExcArgsOwn
import PyProof.ExcAttrAll.ValueError
import PyProof.DictTable
import PyProof.ZipIter
import PyProof.StrWalks
import PyProof.AutoListH
import PySem.Challenge.RW_handpromise_k13_what_is_no_hand
set_option genSizeOf false
set_option compiler.extract_closed false
set_option compiler.postponeCompile true
set_option genInjectivity false
set_option bootstrap.genMatcherCode false
set_option Elab.async false
set_option linter.all false
noncomputable section
open PySem renaming wpAny_bind->Aa,Shared->Ad,Expr->Ag,wpAny->Ao,wpAny_pure->Ar,model->Au,Program->A5,wpAny_field->AD,mainGlobals->AF,starEach->AI,World->AM,sizeLine_eq->AW,Around->AY,wpAny_loadPart_at->AZ,mem_of_lookup->Bf,wpAny_newObj_type->Bq,wpAny_Call_Name_kw->Bu,wpAny_callSpecial?_slot->Bw,foldedSetIterable->Bx,wpAny_isSubtype_exc->B0,Stmt->B5,wpAny_mono->B6,bootBuiltins->B8,NameKind->BA,wpAny_setField->BB,wpAny_truthy_bool->BD,PassesOwn->BE,noteFrame->BG,IsPair->BM,wpAny_holding->BN,wpAny_seqItems->BQ,wpAny_setField_rec->BR,compareOp->BV,rawInt->Ca,Pos->Cf,wpAny_call_entry->Ci,Scope->Ck,assignEach->Co,binaryOp->Cu,FuncData->Cv,eval->C4,excClassObj->C7,wpAny_standAt->CH,wpAny_execs_nil->CJ,wpAny_passesOwn->CK,sliceBounds->CU,backTo->CW,sysModules->Dd,setFlight->De,wpAny_onRaise->Dj,wpAny_updateSeq_pair->Dk,letOwnedTupleGo->Dl,DictEntry->Dt,IsZip->Dz,wpAny_pyIter_list->D6,codeAny->D8,wpAny_comprehension_free->DD,wpAny_execs_cons->DH,noFill_tuple_add->DI,assign->DQ,Builtin->DR,concat_meets->DU,IsPart->DV,wpAny_Call_method_late->DX,callerA->DZ,valueAt->Ea,OsState->Eb,importedModules->Eh,codeAny_handlers_test->Ek,Env->En,wpAny_setFlight_none->Er,unbindBehindTheSuite->Et,compEnvC->Eu,Arguments->E3,getItem->E4,wpAny_handleBy_cons->E8,Model->EC,behindInMarks->ED,seq_tuple_add->EE,Paired->EK,builtinsNs->EM,call_meets->EQ,wpAny_entryPlaceOf->ET,wpAny_rule->EU,excMatches->EV,wpAny_pyIter_tuple->EX,GenState->Fd,spliced->Fe,wpAny_assign_Name->Ff,holding->Fh,wpAny_sequenceKey->Fi,wpAny_typeOf->Fj,seqIndex_neg->Fk,slot_list_getitem->Fl,list_append->Fo,codeAny_mono->Fp,wpAny_frameOf_fun->Ft,ZipApart->Fy,swapsWith->F3,pyNext->F4,wpAny_Try_except->F9,checkBuiltinCall->FA,wpAny_isInstance->FD,wpAny_pyIter_zip->FE,treeTable->FF,seqIndex_of->FI,wpAny_throw->FJ,field->FK,wpAny_letGo->FL,relabel->FU,wpAny_Name->FV,recursionLimit->FW,bindArgs->FX,bindL->FY,bindC->FZ,typeIs_int->Gd,Params->Ge,call->Gf,firstArgMember->Gj,Thread->Gm,intBits_le_64->Gv,evalPart_none->Gy,call_list_seq->G0,wpAny_handled->G6,wpAny_attempt->G7,fenceModules?->G8,lastMarks->GC,cLine->GD,cellsFrom->GF,seqItems?->GH,pyIter->GJ,BindsTo->GK,leaving->GL,entryPlaceOf->GN,ExcBaseFacts->GS,passOn->GU,denote->GV,interactive->Hb,IsRangeIter->Hd,subscripted->Hf,setField->Hj,tc_notTuple->Hk,compPost->Hm,wpAny_BinOp->Hn,Sem->Ht,Result->Hy,BoolOp->H9,hashStr->HB,Drawn->HC,standAt->HD,Keyword->HE,Tok->HS
open PySem.Heap renaming get?_push_of_some->Ab,lt_size->Al,get?_update_other->Am,get?_push_size->A0,get?_update_self->AK,size_push->BC,size_after_update->BL,SameBut->BX,ExtBut->Ho
open List renaming getElem?_set_ne->Ac,replicate->Ae,mem_cons_of_mem->Af,mem_cons_self->Aj,size_toArray->Ak,getElem?_eq_getElem->Ap,mem_append_right->Aq,getElem?_set_self->As,mem_map->Aw,length_set->Ax,getElem?_eq_some_iff->Az,getElem?_map->A6,mem_cons->A8,mem_append_left->AC,getElem?_append_right->AN,length_replicate->AO,all_eq_true->AS,length_singleton->AX,getElem?_append_left->Ba,map_map->Bb,mem_append->Bc,nodup_cons->Bd,replicate_succ->Bg,zip_cons_cons->Bh,getElem_mem->Bl,filterMap_cons->Bm,range->Bt,length_take->Bv,getElem?_replicate->BF,append_nil->BH,foldl_cons->BW,flatten_cons->BY,eq_of_mem_replicate->Cd,not_mem_nil->Cj,mem_filterMap->Cp,map_append->Cz,length_drop->C8,drop_eq_getElem_cons->CC,map_congr_left->CG,length_append->CM,contains_cons->CO,length->CQ,lookup->CV,drop_length->Df,getElem_map->Dg,all_cons->Dh,of_mem_zip->Dm,nil_append->Dn,getElem?_take->D1,mem_singleton->D3,getElem?_zip_eq_some->D4,length_range->DB,map_inj_left->DC,length_eq_zero_iff->DK,take_length->DL,lookup_cons->DM,pairwise_singleton->DO,mem_filter->Ee,length_map->Ef,forIn_cons->Eg,forIn_nil->Ew,forall_mem_cons->Ez,mem_of_mem_take->E1,foldl->EO,getElem_range->Fc,append_assoc->Fm,set_set->F0,zipIdx_cons->FB,map_id->FM,zipIdx_nil->FQ,set->HW,map->HY
open Option.some renaming inj->Ah,injEq->BZ
open PySem.W renaming Frag->Ai,excIn->Be,boot_heap->B7,kia_one->BJ,kitOne->C6,keepIn->Da,nsIn->Db,methodObj->D5,findIn->DE,cellsFrom_some->DS,fnOf->DT,findIn->Ex,SharedT->E5,callWith_K->EW,boot_drawn->EY,looks_findIn->Fw,boot_toks->FG,OpenLaw->FR,codeIn->Ga,kitAny->Gi,namesBound->Gn,staticsOk->GI,stepOk->GW,gensDone->Hq,laidKept->Hr,openGood->Hs,OpenLaw->HF,mroIn->HG,subIn->HH,through->HJ,stepT->HK,topStub->HM,topFrom->HN,LeftO->HX
open Nat renaming le_refl->An,lt_of_lt_of_le->Av,ne_of_lt->A9,le_trans->AH,add_sub_cancel_left->AJ,lt_irrefl->AU,lt_succ_self->Bk,ne_of_gt->B9,not_lt->BI,zero_le->Cm,lt_succ_of_lt->C3,le_of_lt->DP,lt_of_succ_lt_succ->Ed,pow_le_pow_right->Ey,le_succ_of_le->Fu,lt_trans->Fv,le_of_not_lt->F8,le_of_eq->GM,mul_comm->GP,mul_succ->GQ,sub_zero->GR,zero_add->GY,le_succ->Hl
open Array renaming getElem?_eq_some_iff->A7,length_toList->Cg,mk->Go
open PySem.Value renaming ref->AA,none->AG,builtin->C0,bool->EJ,isStrOf->Gq,str->GA,isInt->Ha,type->Hx,int->HP
open PySem.Obj renaming data_mapFields->AB,isFreed_of_fields->AQ,mapFields->AR,mapSeq->Dx,cls_mapFields->D9
open PySem.Builtin.SmallTypes renaming nextOf->AE,ownedTupleIsFree->Bs,ownedTupleHandOut->CF
open PySem.NameKind renaming free->AL
open PyProof.Rows renaming slot_tuple_getitem->AV,callWith_type1->BK,callWith_builtin1->Ch,AllBare->Dr,subscriptTail_builtinR->DW,entry_tuple_getitem->E6,args_tuple_getitem->EN,IntsAre->FT,slicePart_none->Gb,Constant_none->Gu,tupleItemsOf_->Gx,subscriptTail->Gz
open Option renaming map_eq_some_iff->Bj,isSome_iff_exists->Br,getD_none->DJ,none->Hi
open Ne renaming symm->Bp
open Bool renaming or_true->Bz,or_eq_true->Cw,not_eq_true'->Dc,and_true->Di,false_and->Eo,false_ne_true->EI,and_eq_true->F6,not_false->Gk
open Sum renaming inr->B4,inl->E2
open PySem.F renaming excBase_ValueError->BO,slot_tuple_iterator_next->BP,args_tuple_add_2->CI,entry_tuple_add->CT,slot_tuple_add->CY,args_tuple_iterator_next_1->Dp,slot_zip_next->Dq,entry_tuple_iterator_next->Ds,slot_list_append->DF,type_list_append->DG,plainAttrs_list->DN,slot_dict_get->Ei,slot_int_rmul->Ej,typeOf_object_class->El,attrBase_ValueError->Em,args_list_append_2->Ep,entry_list_append->E7,slot_list_append->ES,args_zip_next_1->Fz,entry_zip_next->FC
open PySem.Challenge renaming rw_handpromise_k13_what_is_no_hand->BS,pw_handpromise_k13_what_is_no_hand->D2
open PySem.Builtin.Slice renaming slicePlaces->BU,sliceAdjust->C9,sliceApplied->Dv,slicePartIndex->FN,sliceFields->Gp
open PySem.Builtin.Tuple renaming tupleExact->Cb,tupleItemsOf->Dw,tupleIsExact->Gh
open PySem.Builtin.List renaming listTooLong->Cc,listFitsIndex->Dy
open Prod.mk renaming injEq->Ce
open PySem.Calls renaming spliced_cons->Cq,evalArgs_plain->C5,Name_function_global->Du,spliced_nil->D7,callWith_builtin->DY
open False renaming elim->Cr
open Int renaming emod_lt_of_pos->Cs,emod_nonneg->CL,natCast_nonneg->CP,toNat_natCast->Fx,natCast_mul->FO,natCast_add->FS
open ForInStep renaming yield->Cy
open PySem.EntryCells renaming newEntry->CD
open True renaming intro->CN
open PySem.Str renaming ofString->CZ,length->Gc
open PySem.PassesOwn renaming looking->DA,leaving->HI,never->HU
open PySem.Heap.SameBut renaming update->E9
open PySem.W.Fast renaming te10156331382660048174->EF,te11892475500146522536->EG,te14364793385576792824->EH,te6613529449190102663->EZ,te4187177175401517315->Fa,te5923862056798008813->Fb,sEq->F2,sEq_iff->GX
open List.Pairwise renaming nil->Fq
open Classical renaming not_not->F1
open PySem.Data renaming cell->F5,seq->Gg,fields->He
open PySem.IsL renaming update->F7
open Sum.inr renaming inj->FH
open PySem.Heap.DictOf renaming new->FP
open PySem.Paired renaming length->Gs
open List.cons renaming inj->G9
open PySem.Builtin.Range renaming rangeSize->GB
open PyProof.Rows.IsTup renaming new->GG
open PySem.AutoSeq1 renaming sub_list_list->GO,idx_int->HR
open PySem.AutoListH renaming joined_fits->GZ
open PySem.Builtin.Str renaming tooLong->Hu
open PySem.SeqAt.EqAt renaming int_str->Hv,str_int->Hw
open PySem.Heap.IsSliceOf renaming new->Hz
open PySem.W.WShape renaming has->H0
open PySem.ScopeKind renaming function->HA
open PySem.W.WData renaming int->HQ
open Prod renaming ext->HV
def Ay:=@decide_eq_true
def A4:=@decide_eq_false
def AT:=@decide_eq_true_eq
theorem nf{p:Prop}(h:false=true):p:=absurd h EI
noncomputable def gS:=@List.getElem?_cons_succ.{0}
noncomputable def gZ:=@List.getElem?_cons_zero.{0}
noncomputable def lS:=@List.set_cons_succ.{0}
noncomputable def lZ:=@List.set_cons_zero.{0}
noncomputable def bF:=@Bool.false_eq_true
noncomputable def lC:=@List.length_cons.{0}
noncomputable def lN:=@List.length_nil.{0}
noncomputable def lA:=@List.length_append.{0}
noncomputable def mC:=@List.map_cons.{0,0}
noncomputable def mN:=@List.map_nil.{0,0}
noncomputable def lM:=@List.length_map.{0,0}
noncomputable def mG:=@List.mem_of_getElem?.{0}
noncomputable def bN:=@Bool.false_ne_true
noncomputable def bA:=@Bool.and_eq_true
noncomputable section
set_option maxRecDepth 100000
namespace L2
open PySem PySem.Spec PyProof.Rows
abbrev Key:=Sum Int Str
noncomputable def lH:Key->Value->Bool
 | .inl k,v=>Ha k v|.inr x,v=>Gq x v
noncomputable def aKf(w:AM):Key->Int
 | .inl k=>hashInt k|.inr x=>HB w x
theorem keyIs_shape:∀{k:Key} {v:Value},lH k v=true->(∃i t,k=E2 i/\v=HP i t)\/(∃x t,k=B4 x/\v=GA x t)
 | .inl i,v,h=>by obtain⟨t,e⟩:=Value.isInt_shape (k:=i) (v:=v) h;exact .inl ⟨i,t,rfl,e⟩|.inr x,v,h=>by obtain⟨t,e⟩:=Value.isStrOf_shape (x:=x) (v:=v) h;exact .inr ⟨x,t,rfl,e⟩
theorem zC(i:Int)(t:HS):lH (.inl i) (.int i t)=true:=by simp[lH,Ha]
theorem nO(x:Str)(t:HS):lH (.inr x) (.str x t)=true:=by simp[lH,Gq]
theorem aEQ(a b:Int):decide ((E2 a:Key)=E2 b)=(a==b):=by by_cases e:a=b;subst e;simp;have h:¬ (E2 a:Key)=E2 b:=λq=>e (Sum.inl.inj q);rw[A4 h];exact(beq_eq_false_iff_ne.mpr e).symm
theorem aER(a b:Str):decide ((B4 a:Key)=B4 b)=decide (a=b):=by by_cases e:a=b;subst e;simp;have h:¬ (B4 a:Key)=B4 b:=λq=>e (FH q);rw[A4 h,A4 e]
theorem aES(a:Int)(b:Str):decide ((E2 a:Key)=B4 b)=false:=A4 (λq=>nomatch q)
theorem aET(a:Str)(b:Int):decide ((B4 a:Key)=E2 b)=false:=A4 (λq=>nomatch q)
noncomputable def dN(prog:A5)(w:AM):PySem.KeyKind prog w Key where
 is:=lH
 hash:=aKf w
 inj:=λv a b ha hb=>by
  rcases keyIs_shape ha with⟨i,t,rfl,rfl⟩|⟨x,t,rfl,rfl⟩
  rcases keyIs_shape hb with⟨j,u,rfl,e⟩|⟨y,u,rfl,e⟩
  injection e with e1 _;rw[e1]
  exact nomatch e;rcases keyIs_shape hb with⟨j,u,rfl,e⟩|⟨y,u,rfl,e⟩
  exact nomatch e;injection e with e1 _;rw[e1]
 byValue:=λk v h=>by rcases keyIs_shape h with⟨i,t,rfl,rfl⟩|⟨x,t,rfl,rfl⟩ <;> rfl
 pyHash:=λhv h=>by
  rcases keyIs_shape hv with⟨i,t,rfl,rfl⟩|⟨x,t,rfl,rfl⟩
  exact wpAny_pyHash_int h;exact wpAny_pyHash_str h
 eqBool:=λhu hv h=>by
  rcases keyIs_shape hu with⟨i,t,rfl,rfl⟩|⟨x,t,rfl,rfl⟩
  rcases keyIs_shape hv with⟨j,u,rfl,rfl⟩|⟨y,u,rfl,rfl⟩
  rw[aEQ] at h;exact wpAny_eqBool_int h;rw[aES] at h;exact Hv i t y u _ _ _ _ h;rcases keyIs_shape hv with⟨j,u,rfl,rfl⟩|⟨y,u,rfl,rfl⟩
  rw[aET] at h;exact Hw x t j u _ _ _ _ h;rw[aER] at h;exact wpAny_eqBool_str h
 «strs»:=λk x t v h=>by
  rcases keyIs_shape h with⟨i,u,rfl,e⟩|⟨y,u,rfl,e⟩
  exact nomatch e;injection e with e1 _
  subst e1;cases v <;> rfl
set_option genInjectivity true in
inductive V where
 | non|bl (b:Bool)|int (i:Int)|str (x:Str)|byt (b:Array UInt8)|flt (b:UInt64)|ref (a:Addr)|ty (n:String)
 deriving DecidableEq
noncomputable def bC:V->Value->Prop
 | .non,u=>u=AG|.bl b,u=>u=EJ b|.int i,u=>∃t,u=HP i t|.str x,u=>∃t,u=GA x t|.byt b,u=>∃t,u=Value.bytes b t|.flt b,u=>∃t,u=Value.float b t|.ref a,u=>u=AA a|.ty n,u=>u=Hx n
abbrev aQ:List V->List Value->Prop:=EK bC
theorem aQ.length{xs:List V}{us:List Value}(r:aQ xs us):xs.length=us.length:=Gs r
theorem aQ.get:∀{xs:List V} {us:List Value} {i:Nat} {x:V},aQ xs us->xs[i]? = some x->∃u,us[i]? = some u/\bC x u
 | _,_,_,_,.nil,e=>by simp at e|_,_,0,_,.cons r _,e=>by simp at e;subst e;exact⟨_,rfl,r⟩|_,_,i+1,x,.cons _ t,e=>by obtain⟨u,q,I⟩:=aQ.get (i:=i) (x:=x) t (by simpa using e);exact⟨u,by simpa using q,I⟩
theorem aQ.set{x:V}{u:Value}(r:bC x u):∀{xs:List V} {us:List Value} (i:Nat),aQ xs us->aQ (xs.set i x) (us.set i u)
 | _,_,_,.nil=>.nil|_,_,0,.cons _ t=>.cons r t|_,_,i+1,.cons q t=>.cons q (aQ.set r i t)
theorem aQ.append:∀{xs q:List V} {us ws:List Value},aQ xs us->aQ q ws->aQ (xs++q) (us++ws)
 | _,_,_,_,.nil,s=>s|_,_,_,_,.cons r t,s=>.cons r (aQ.append t s)
theorem aQ.take:∀{xs:List V} {us:List Value} (n:Nat),aQ xs us->aQ (xs.take n) (us.take n)
 | _,_,0,_=>.nil|_,_,_+1,.nil=>.nil|_,_,n+1,.cons r t=>.cons r (aQ.take n t)
theorem aQ.drop:∀{xs:List V} {us:List Value} (n:Nat),aQ xs us->aQ (xs.drop n) (us.drop n)
 | _,_,0,r=>r|_,_,_+1,.nil=>.nil|_,_,n+1,.cons _ t=>aQ.drop n t
noncomputable def aHn:Option V->Option Value->Prop
 | some v,some u=>bC v u|none,none=>True|_,_=>False
noncomputable def KV{κ:Type}:List (κ×V)->List (κ×Value)->Prop:=EK λ(p:κ×V) (q:κ×Value)=>p.1=q.1/\bC p.2 q.2
noncomputable def kV:Key->V
 | .inl i=>.int i|.inr x=>.str x
inductive HO where
 | lst (xs:List V)
 | tup (xs:List V)
 | dK (kvs:List (Key×V))|dT (kvs:List (List Key×V))
 | set (S:Int->Bool) (n:Nat)
 | ins (C dx:Addr) (fs:List (Str×V))
 | own (x:Addr)
 | xd (fs:List (Str×V))
 | met (f x:Addr)
 | rng (lo hi:Int)
 | frz (o:Obj) (u:HO)
 | tbl (ps:Array Value)
 | ext (φ:Heap->Prop)
abbrev Hp:=Addr->Option HO
noncomputable def upd(H:Hp)(a:Addr)(o:HO):Hp:=λb=>if b=a then some o else H b
theorem aO{H:Hp}{a:Addr}{o:HO}:upd H a o a=some o:=by unfold upd;rw[if_pos rfl]
theorem aJ{H:Hp}{a b:Addr}{o:HO}(h:b≠a):upd H a o b=H b:=by unfold upd;rw[if_neg h]
theorem aU{H:Hp}{a b:Addr}{o:HO}(h:H a=some o)(h':H b=none):a≠b:=by intro e;subst e;rw[h] at h';cases h'
section
variable (P:A5) (w:AM)
noncomputable def cG(H:Hp)(h:Heap)(a:Addr):HO->Prop
 | .lst xs=>xs.length<=sizeLine/\∃(its:List Value) (n:Nat),aQ xs its/\h.get? a=some { cls:=.type "list",data:=.seq its.toArray n }|.tup xs=>xs.length<=sizeLine/\∃its:List Value,aQ xs its/\IsTup h a its.toArray|.dK kvs=>kvs.length<=sizeLine/\(a==Dd)=false/\∃vs,KV kvs vs/\h.DictOf (dN P w) a vs|.dT kvs=>kvs.length<=sizeLine/\(a==Dd)=false/\∃xs:List (List Key×Addr×Value),
  EK (λ(p:List Key×V) (q:List Key×Addr×Value)=>p.1=q.1/\H q.2.1=some (.tup (p.1.map kV))/\bC p.2 q.2.2) kvs xs /\
  ∃o es ep,h.get? a=some o/\o.ExactDict/\o.data=.dict es ep/\es.toList=xs.map (entryOfKey (tupleKind (dN P w)))/\(xs.map (·.1)).Nodup
 | .set S n=>h.SetOf (intKind P w) a S n|.ins C dx fs=>H dx=some (.own a)/\fs.length<=1000/\dx≠a/\h.get? a=some (PySem.W.instObj C dx) /\
  ∃mA,h.Ns1 dx mA/\(∀f,aHn (fs.lookup f) (mA f))/\PySem.Within mA (fs.map (·.1))
 | .own _=>∃o,h.get? a=some o|.xd fs=>∃mA,h.Ns1 a mA/\∀f,aHn (fs.lookup f) (mA f)|.rng lo hi=>∃t u v,h.get? a=some { cls:=.type "range",data:=.fields #[.int lo t,.int hi u,.int 1 v] }|.frz o u=>h.get? a=some o/\cG H h a u|.tbl ps=>h.get? a=some { cls:=.none,data:=.fields ps }|.met f x=>h.get? a=some (D5 (.ref f) (.ref x))|.ext φ=>φ h/\(∃o,h.get? a=some o)/\∀h1 h2:Heap,φ h1->(∀o,h1.get? a=some o->h2.get? a=some o)->φ h2
noncomputable def HOk(H:Hp)(h:Heap):Prop:=∀a o,H a=some o->cG P w H h a o
end
section
variable {P:A5} {w:AM} {H H':Hp} {h h':Heap} {a:Addr} {o:HO}
theorem cG.lt(x:cG P w H h a o):a<h.objs.size:=by
 cases o with
 | lst xs=>obtain⟨_,_,_,_,e⟩:=x;exact Al e|tup xs=>obtain⟨_,_,_,p⟩:=x;exact p.lt|dK kvs=>obtain⟨_,_,_,_,o,_,_,e,_⟩:=x;exact Al e|dT kvs=>obtain⟨_,_,_,_,o,_,_,e,_⟩:=x;exact Al e|set S n=>obtain⟨o,_,_,_,e,_⟩:=x;exact Al e|ins C dx fs=>obtain⟨_,_,_,e,_⟩:=x;exact Al e|own y=>obtain⟨_,e⟩:=x;exact Al e|xd fs=>obtain⟨_,⟨_,_,_,e,_⟩,_⟩:=x;exact Al e|rng lo hi=>obtain⟨_,_,_,e⟩:=x;exact Al e|frz q u=>obtain⟨e,_⟩:=x;exact Al e|tbl ps=>exact Al (show h.get? a=some _ from x)|met f y=>exact Al (show h.get? a=some _ from x)|ext φ=>obtain⟨_,⟨_,e⟩,_⟩:=x;exact Al e
theorem Paired.mapP{α M:Type}{F L:α->M->Prop}:∀{q:List α} {I:List M},EK F q I->(∀a b,F a b->L a b)->EK L q I
 | _,_,.nil,_=>.nil|_,_,.cons r t,f=>.cons (f _ _ r) (Paired.mapP t f)
theorem cG.stay(x:cG P w H h a o)(k:∀b u,(b=a\/H b=some (.own a))->h.get? b=some u->h'.get? b=some u)
 (ho:∀b,H b=some (.own a)->H' b=some (.own a)) (ht:∀b xs,H b=some (.tup xs)->H' b=some (.tup xs)):cG P w H' h' a o:=by
 induction o with
 | lst xs=>obtain⟨z,M,n,r,e⟩:=x;exact⟨z,M,n,r,k _ _ (.inl rfl) e⟩|tup xs=>obtain⟨z,M,r,I,e,c⟩:=x;exact⟨z,M,r,I,k _ _ (.inl rfl) e,c⟩|dK kvs=>obtain⟨z,y,vs,r,I,es,L,e,c⟩:=x;exact⟨z,y,vs,r,I,es,L,k _ _ (.inl rfl) e,c⟩|dT kvs=>obtain⟨z,y,xs,r,I,es,L,e,c⟩:=x;exact⟨z,y,xs,Paired.mapP r λp q z=>⟨z.1,ht _ _ z.2.1,z.2.2⟩,I,es,L,k _ _ (.inl rfl) e,c⟩|set S n=>obtain⟨I,es,L,t,e,c⟩:=x;exact⟨I,es,L,t,k _ _ (.inl rfl) e,c⟩|ins C dx fs=>obtain⟨d,z,ne,e,U,⟨od,es,L,W,c⟩,r⟩:=x;exact⟨ho _ d,z,ne,k _ _ (.inl rfl) e,U,⟨od,es,L,k _ _ (.inr d) W,c⟩,r⟩|own y=>obtain⟨I,e⟩:=x;exact⟨I,k _ _ (.inl rfl) e⟩|xd fs=>obtain⟨U,⟨od,es,L,e,c⟩,r⟩:=x;exact⟨U,⟨od,es,L,k _ _ (.inl rfl) e,c⟩,r⟩|rng lo hi=>obtain⟨t,u,v,e⟩:=x;exact⟨t,u,v,k _ _ (.inl rfl) e⟩|frz I u ih=>obtain⟨e,q⟩:=x;exact⟨k _ _ (.inl rfl) e,ih q⟩|tbl ps=>have e:h.get? a=some { cls:=.none,data:=.fields ps }:=x;show h'.get? a=some { cls:=.none,data:=.fields ps };exact k a _ (.inl rfl) e|met f y=>have e:h.get? a=some (D5 (.ref f) (.ref y)):=x;show h'.get? a=some (D5 (.ref f) (.ref y));exact k a _ (.inl rfl) e|ext φ=>obtain⟨p,⟨o,e⟩,st⟩:=x;exact⟨st _ _ p λo q=>k _ _ (.inl rfl) q,⟨o,k _ _ (.inl rfl) e⟩,st⟩
theorem HOk.lt(x:HOk P w H h)(e:H a=some o):a<h.objs.size:=(x a o e).lt
theorem HOk.fresh(x:HOk P w H h)(e:h.objs.size<=a):H a=none:=by
 cases q:H a with
 | none=>rfl|some u=>exact absurd (Av (x.lt q) e) (AU _)
theorem HOk.kept(x:HOk P w H h)(k:∀b u,h.get? b=some u->h'.get? b=some u):HOk P w H h':=λa o e=>(x a o e).stay (λb u _ q=>k b u q) (λ_ q=>q) λ_ _ q=>q
theorem HOk.laid(x:HOk P w H h)(k:∀b u,h.get? b=some u->h'.get? b=some u)(L:h.objs.size<=a)(new:cG P w (upd H a o) h' a o):HOk P w (upd H a o) h':=λb u e=>by have I:=x.fresh L;by_cases hb:b=a;subst hb;rw[aO] at e;cases e;exact new;rw[aJ hb] at e;exact(x b u e).stay (λc v _ q=>k c v q) (λc q=>by rw[aJ (aU q I)];exact q) λc xs q=>by rw[aJ (aU q I)];exact q
end
noncomputable def Rd(H:Hp)(a:Addr)(u:HO):Prop:=H a=some u\/∃o,H a=some (.frz o u)
theorem Rd.ok{P:A5}{w:AM}{H:Hp}{h:Heap}{a:Addr}{u:HO}(r:Rd H a u)(x:HOk P w H h):cG P w H h a u:=by
 rcases r with r|⟨o,r⟩
 exact x a u r;obtain⟨_,q⟩:=x a _ r;exact q
noncomputable def Mut:Option HO->Prop
 | some (.lst _)=>True|some (.dK _)=>True|some (.dT _)=>True|some (.set _ _)=>True|some (.ins _ _ _)=>True|some (.ext _)=>True|_=>False
section
variable {P:A5} {w:AM} {H:Hp} {h h':Heap} {x e:Addr} {o':HO}
theorem HOk.write(ok:HOk P w H h)(W:Mut (H x))(he:e=x\/H e=some (.own x))(k:∀b u,b≠e->h.get? b=some u->h'.get? b=some u)(q0:∃u,h'.get? e=some u)
 (new:cG P w (upd H x o') h' x o'):HOk P w (upd H x o') h':=λb u q=>by
 have L:∀c y,H c=some (.own y)->c≠x:=λc y r z=>by subst z;rw[r] at W;exact W
 have M:∀c xs,H c=some (.tup xs)->c≠x:=λc xs r z=>by subst z;rw[r] at W;exact W
 by_cases hb:b=x;subst hb;rw[aO] at q;cases q;exact new;rw[aJ hb] at q;by_cases I:b=e;have q':H b=some (.own x):=by rcases he with z|z;exact absurd (I.trans z) hb;rw[I];exact z
 rw[q] at q';cases q';obtain⟨v,hv⟩:=q0;exact⟨v,by rw[I];exact hv⟩;refine(ok b u q).stay (λc v U r=>k c v ?_ r) (λc r=>by rw[aJ (L c b r)];exact r) λc xs r=>by rw[aJ (M c xs r)];exact r
 rcases U with rfl|U;exact I;rintro rfl;rcases he with z|z;exact L c b U z;rw[U] at z;cases z;exact hb rfl
end
structure Un (fs ex:List Addr) (H H':Hp) (h h':Heap):Prop where
 keep:∀b o,h.get? b=some o->H b=none->b∉fs->b∉ex->h'.get? b=some o
 slot:∀b o,h.get? b=some o->H b=none->b∈fs->b∉ex->∃sl,h'.get? b=some { o with slots:=sl }
 free:∀b o,h.get? b=some o->H b=none->b∉ex->H' b=none
 there:∀b o,h.get? b=some o->b∉ex->∃o',h'.get? b=some o'
 tups:∀b xs,H b=some (.tup xs)->H' b=some (.tup xs)
 frzs:∀b o u,H b=some (.frz o u)->H' b=some (.frz o u)
 tbls:∀b ps,H b=some (.tbl ps)->∃more,H' b=some (.tbl (ps++more))
section
variable {fs fs' ex ex':List Addr} {H H1 H2:Hp} {h h1 h2 h':Heap} {a x e:Addr} {o:HO}
theorem Un.any(u:Un fs ex H H1 h h1){b:Addr}{I:Obj}(q:h.get? b=some I)(n:H b=none)(L:b∉ex):∃sl,h1.get? b=some { I with slots:=sl }:=by by_cases hb:b∈fs;exact u.slot b I q n hb L;exact⟨I.slots,u.keep b I q n hb L⟩
theorem Un.kept(k:∀b u,h.get? b=some u->h'.get? b=some u):Un fs ex H H h h':=
 ⟨λb I q _ _ _=>k b I q,λb I q _ _ _=>⟨I.slots,k b I q⟩,λ_ _ _ n _=>n,λb I q _=>⟨I,k b I q⟩,λ_ _ q=>q,λ_ _ _ q=>q,λ_ ps q=>⟨#[],by rw[q];simp⟩⟩
theorem Un.refl:Un fs ex H H h h:=Un.kept λ_ _ q=>q
theorem Un.laid(k:∀b u,h.get? b=some u->h'.get? b=some u)(L:h.objs.size<=a)(I:H a=none):Un fs ex H (upd H a o) h h' where
 keep:=λb u q _ _ _=>k b u q
 slot:=λb u q _ _ _=>⟨u.slots,k b u q⟩
 free:=λb u q n _=>by rw[aJ (A9 (Av (Al q) L))];exact n
 there:=λb u q _=>⟨u,k b u q⟩
 tups:=λb xs q=>by rw[aJ (aU q I)];exact q
 frzs:=λb u xs q=>by rw[aJ (aU q I)];exact q
 tbls:=λb ps q=>⟨#[],by rw[aJ (aU q I),q];simp⟩
theorem Un.write(L:Mut (H x))(W:e=x\/H e=some (.own x))(k:∀b u,b≠e->h.get? b=some u->h'.get? b=some u)(M:∃u,h'.get? e=some u):Un fs ex H (upd H x o) h h':=by
 have U:∀b,H b=none->b≠x:=λb n z=>by subst z;rw[n] at L;exact L
 have hb:∀b,H b=none->b≠e:=λb n z=>by subst z;rcases W with r|r;exact U b n r;rw[n] at r;cases r
 have hm:∀b u,H b=some u->¬ Mut (some u)->b≠x:=λb u q nm z=>by subst z;rw[q] at L;exact nm L
 refine⟨λb u q n _ _=>k b u (hb b n) q,λb u q n _ _=>⟨u.slots,k b u (hb b n) q⟩,λb u q n _=>by rw[aJ (U b n)];exact n,λb u q _=>?_,
  λb xs q=>by rw[aJ (hm b _ q λz=>z)];exact q,λb u xs q=>by rw[aJ (hm b _ q λz=>z)];exact q,λb ps q=>⟨#[],by rw[aJ (hm b _ q λz=>z),q];simp⟩⟩
 by_cases I:b=e;subst I;exact M;exact⟨u,k b u I q⟩
end
noncomputable def trk(h:Heap)(H:Hp):List Addr:=(Bt h.objs.size).filter λa=>(H a).isSome
noncomputable def pF(h:Heap)(H:Hp):Heap:=PySem.W.hideAll h (trk h H)
theorem zD(h:Heap)(H:Hp):(pF h H).objs.size=h.objs.size:=PySem.W.hideAll_size _ _
theorem aAr{h:Heap}{H:Hp}{b:Addr}{o:Obj}(e:h.get? b=some o)(n:H b=none):(pF h H).get? b=some o:=
 PySem.W.hideAll_get _ e λhm=>by have q:(H b).isSome=true:=(Ee.mp hm).2;rw[n] at q;simp at q
theorem aCF{h:Heap}{H:Hp}{b:Addr}{o:Obj}(e:(pF h H).get? b=some o):h.get? b=some o/\H b=none:=by
 have I:h.get? b=some o:=PySem.W.of_hideAll (trk h H) e;refine⟨I,?_⟩;cases q:H b with
 | none=>rfl|some x=>have hm:b∈trk h H:=Ee.mpr ⟨List.mem_range.mpr (Al I),by simp[q]⟩;have z:(pF h H).get? b=none:=PySem.W.hideAll_none (trk h H) hm;rw[z] at e;cases e
noncomputable def aCG(g h:Heap)(L:Addr):List (Addr×Obj):=(Bt h.objs.size).filterMap λa=>if a=L\/(g.get? a).isSome=true then none else (h.get? a).map λo=>(a,o)
noncomputable def rest(g h:Heap)(L d:Addr):List (Addr×Obj):=(aCG g h L).filter λp=>decide (p.1≠d)
structure Mod (K:Ai) (mg:Str->Option Value) (base:Heap):Prop where
 kin:K.In base
 glob:base.Ns AF mg
 blt:∃mb,base.Ns EM mb/\∀x:Str,x ≠ "__name__" -> mb x=B8 x
 nolimit:base.NoLimit
set_option genInjectivity true in
structure Cx where
 prog:A5
 w:AM
 K:Ai
 mg:Str->Option Value
 base:Heap
 A:AY
 N:List Str
 s₀:Ad
 H₀:Hp
 env:En
 outer:List En
 stack:List En
 ex:List Addr
 fn:Str->Bool
 calm:Bool
 pn:List (Addr×Obj)
 xe:Value->Ad->Prop
noncomputable def frs(l:List En):List Addr:=l.filterMap (·.frame)
abbrev Cx.fs(X:Cx):List Addr:=frs X.outer
noncomputable def Vis(sc:Ck)(x:Str):Prop:=sc.names.lookup x=some .local\/sc.names.lookup x=some .cell\/sc.names.lookup x=some .free
noncomputable def Loc(sc:Ck)(x:Str):Prop:=sc.names.lookup x=some .local\/sc.names.lookup x=some .cell
noncomputable def aKg(env:En)(h:Heap)(m:Str->Option Value)(x:Str)(u:Value):Prop:=
 (env.kindOf x=some .local/\m x=some u)\/((env.kindOf x=some .cell\/env.kindOf x=some .free)/\∃c,env.cells.lookup x=some c/\h.IsCell c (some u))
structure Cx.Ok (X:Cx):Prop where
 mod:Mod X.K X.mg X.base
 kind:X.env.scope.kind=.function
 glob:X.env.globals=AF
 blt:X.env.builtins=EM
 above:X.s₀.heap.objs.size<=X.env.locals
 inj:∀x y c,X.env.cells.lookup x=some c->X.env.cells.lookup y=some c->x=y
 has:∀x,(X.env.kindOf x=some .cell\/X.env.kindOf x=some .free)->∃c,X.env.cells.lookup x=some c
 cab:∀x c,X.fn x=true->X.env.cells.lookup x=some c->X.s₀.heap.objs.size<=c
 hd:X.calm=true->X.A.handled=none
 frames:X.A.frames=some X.stack
 stk:X.stack=X.outer\/(X.stack=X.env::X.outer/\X.env.frame=some X.env.locals)
 exf:∀b∈X.ex,b≠X.env.locals/\∀x c,X.env.cells.lookup x=some c->c≠b
 bs:∀b o,X.base.get? b=some o->X.s₀.heap.get? b=some o/\X.H₀ b=none
 bsz:X.base.objs.size<=X.s₀.heap.objs.size
 noex:∀b o,X.base.get? b=some o->b∉X.ex
 exfs:∀b∈X.ex,b∉X.fs
 funs:X.s₀.heap.FunFrames X.base X.outer
 frf:∀b∈X.fs,X.H₀ b=none
structure Inv (X:Cx) (G:List (Addr×Obj)) (Z:List (Option V)) (H:Hp) (s:Ad):Prop where
 ok:X.Ok
 os:s.os=X.s₀.os
 bare:Dr s.gens
 base:Un X.fs X.ex X.H₀ H X.s₀.heap s.heap
 loc:∃m,s.heap.Ns X.env.locals m/\∀(i:Nat) (x:Str) (v:V),X.N[i]? = some x->Z[i]? = some (some v)->Vis X.env.scope x->∃u,bC v u/\aKg X.env s.heap m x u
 cell:∀x c,X.env.cells.lookup x=some c->∃v,s.heap.IsCell c v
 free:H X.env.locals=none
 freeC:∀x c,X.env.cells.lookup x=some c->H c=none
 pin:∀p∈X.pn++G,s.heap.get? p.1=some p.2/\H p.1=none/\p.1≠X.env.locals/\p.1∉X.fs/\∀v,p.2.data≠.cell v
 hok:HOk X.prog X.w H s.heap
 len:Z.length=X.N.length
section
variable {X:Cx} {G:List (Addr×Obj)} {Z:List (Option V)} {H H':Hp} {s:Ad} {h':Heap}
theorem Cx.Ok.nofr(ok:X.Ok){b:Addr}{o:Obj}(e:X.base.get? b=some o):b∉X.fs:=λhb=>by have:=(ok.funs.mem hb).1;rw[e] at this;cases this
theorem Inv.bs(I:Inv X G Z H s):∀b o,X.base.get? b=some o->s.heap.get? b=some o/\H b=none:=λb o e=>⟨I.base.keep b o (I.ok.bs b o e).1 (I.ok.bs b o e).2 (I.ok.nofr e) (I.ok.noex b o e),I.base.free b o (I.ok.bs b o e).1 (I.ok.bs b o e).2 (I.ok.noex b o e)⟩
theorem Inv.bk(I:Inv X G Z H s):∀b o,X.base.get? b=some o->s.heap.get? b=some o:=λb o e=>(I.bs b o e).1
theorem Inv.mod(I:Inv X G Z H s):Mod X.K X.mg X.base:=I.ok.mod
theorem Inv.kIn(I:Inv X G Z H s):X.K.In s.heap:=I.ok.mod.kin.keeps I.bk
theorem Inv.lt(I:Inv X G Z H s):X.env.locals<s.heap.objs.size:=let ⟨_,hn,_⟩:=I.loc;hn.lt
theorem Inv.sz(I:Inv X G Z H s):X.s₀.heap.objs.size<=s.heap.objs.size:=AH I.ok.above (DP I.lt)
theorem Inv.nofs(I:Inv X G Z H s){a:Addr}(h:s.heap.objs.size<=a):a∉X.fs:=λhb=>by obtain⟨_,o,q,_⟩:=I.ok.funs.mem hb;exact absurd (Av (Al q) (AH I.sz h)) (AU _)
theorem Inv.cne(I:Inv X G Z H s):∀x c,X.env.cells.lookup x=some c->c≠X.env.locals:=λx c e z=>by obtain⟨v,o,M,hd⟩:=I.cell x c e;obtain⟨m,⟨o',es,U,L,q,_⟩,_⟩:=I.loc;rw[z,L] at M;cases M;rw[q] at hd;cases hd
theorem Inv.funs(I:Inv X G Z H s):s.heap.FunFrames X.base X.outer:=by
 have all:∀(l:List En),(∀b∈frs l,b∈X.fs)->X.s₀.heap.FunFrames X.base l->s.heap.FunFrames X.base l:=by
  intro l
  induction l with
  | nil=>intro _ _;trivial|cons env r ih=>intro hs U;obtain⟨M,⟨L,o,hf,W,ho,hd⟩,hr⟩:=U;have q:L∈X.fs:=hs L (by unfold frs;rw[Bm,hf];exact Aj);obtain⟨sl,e⟩:=I.base.slot L o ho (I.ok.frf L q) q λz=>I.ok.exfs L z q;exact⟨M,⟨L,_,hf,W,e,hd⟩,ih (λb hb=>hs b (by unfold frs;rw[Bm,hf];exact Af _ hb)) hr⟩
 exact all X.outer (λ_ hb=>hb) I.ok.funs
theorem Inv.stack(I:Inv X G Z H s):s.heap.FunFrames X.base X.stack:=by
 rcases I.ok.stk with e|⟨e,hf⟩
 rw[e];exact I.funs;rw[e];obtain⟨m,q,_⟩:=I.loc;refine .cons (by rw[I.ok.kind];decide) hf q ?_ I.funs;exact Heap.get?_none_of_le (AH I.ok.bsz I.ok.above)
theorem Inv.stkSub(I:Inv X G Z H s):∀b∈frs X.stack,b∈X.env.locals::X.fs:=λb hb=>by
 rcases I.ok.stk with e|⟨e,hf⟩
 rw[e] at hb;exact Af _ hb;rw[e] at hb;unfold frs at hb;rw[Bm,hf] at hb;exact hb
theorem Inv.stkFree(I:Inv X G Z H s):∀b∈frs X.stack,H b=none:=λb hb=>by rcases A8.mp (I.stkSub b hb) with e|hb;rw[e];exact I.free;obtain⟨_,o,q,_⟩:=I.ok.funs.mem hb;exact I.base.free b o q (I.ok.frf b hb) λz=>I.ok.exfs b z hb
theorem Inv.step{g':Array Fd}{t':Nat}{d':HC}{ch:List Addr}(I:Inv X G Z H s)
 (U:∀b∈ch,(b∈X.ex\/X.s₀.heap.objs.size<=b)/\b≠X.env.locals/\(∀x c,X.env.cells.lookup x=some c->c≠b)/\∀p∈X.pn++G,p.1≠b)
 (keep:∀b o,b≠X.env.locals->b∉X.fs->b∉ch->s.heap.get? b=some o->H b=none->h'.get? b=some o)
 (slot:∀b o,b≠X.env.locals->b∈X.fs->b∉ch->s.heap.get? b=some o->H b=none->∃sl,h'.get? b=some { o with slots:=sl }) (free:∀b o,b∉ch->s.heap.get? b=some o->H b=none->H' b=none)
 (there:∀b o,b∉ch->s.heap.get? b=some o->∃o',h'.get? b=some o')
 (tups:∀b xs,H b=some (.tup xs)->H' b=some (.tup xs)) (frzs:∀b o u,H b=some (.frz o u)->H' b=some (.frz o u)) (tbls:∀b ps,H b=some (.tbl ps)->∃more,H' b=some (.tbl (ps++more)))
 (ns:∀m,s.heap.Ns X.env.locals m->h'.Ns X.env.locals m) (hok:HOk X.prog X.w H' h') (hg:Dr g') :
 Inv X G Z H' { s with heap:=h',gens:=g',drawn:=d',toks:=t' }:=by
 have q1:∀b o,X.s₀.heap.get? b=some o->b≠X.env.locals:=λb o e=>A9 (Av (Al e) I.ok.above);have q0:∀b o,X.s₀.heap.get? b=some o->b∉X.ex->b∉ch:=λb o e L hb=>by rcases(U b hb).1 with z|z;exact L z;exact absurd (Av (Al e) z) (AU _)
 have M:∀x c,X.env.cells.lookup x=some c->∀v,s.heap.IsCell c v->h'.IsCell c v:=λx c e v ⟨o,ho,hd⟩=>by have W:c∉ch:=λz=>(U c z).2.2.1 x c e rfl;by_cases hc:c∈X.fs;obtain⟨sl,q⟩:=slot c o (I.cne x c e) hc W ho (I.freeC x c e);exact⟨_,q,hd⟩;exact⟨o,keep c o (I.cne x c e) hc W ho (I.freeC x c e),hd⟩
 refine⟨I.ok,I.os,hg,⟨λb o e n hb L=>?_,λb o e n hb L=>?_,λb o e n L=>?_,λb o e L=>?_,λb xs e=>tups b xs (I.base.tups b xs e),λb o xs e=>frzs b o xs (I.base.frzs b o xs e),λb ps e=>?_⟩,?_,λx c e=>?_,?_,λx c e=>?_,λp hp=>?_,hok,I.len⟩;exact keep b o (q1 b o e) hb (q0 b o e L) (I.base.keep b o e n hb L) (I.base.free b o e n L);obtain⟨sl,e1⟩:=I.base.slot b o e n hb L;obtain⟨q2,e2⟩:=slot b _ (q1 b o e) hb (q0 b o e L) e1 (I.base.free b o e n L);exact⟨q2,e2⟩;obtain⟨o',e1⟩:=I.base.there b o e L;exact free b o' (q0 b o e L) e1 (I.base.free b o e n L);obtain⟨o',e1⟩:=I.base.there b o e L;exact there b o' (q0 b o e L) e1;obtain⟨m1,e1⟩:=I.base.tbls b ps e;obtain⟨m2,e2⟩:=tbls b _ e1;exact⟨m1++m2,by rw[e2,Array.append_assoc]⟩;obtain⟨m,hn,hl⟩:=I.loc;refine⟨m,ns m hn,λi x v e1 e2 e3=>?_⟩;obtain⟨u,r,l⟩:=hl i x v e1 e2 e3;refine⟨u,r,?_⟩;rcases l with l|⟨k,c,e,z⟩
 exact .inl l;exact .inr ⟨k,c,e,M x c e _ z⟩;obtain⟨v,z⟩:=I.cell x c e;exact⟨v,M x c e v z⟩;obtain⟨m,⟨o,_,_,ho,_⟩,_⟩:=I.loc;exact free _ o (λz=>(U _ z).2.1 rfl) ho I.free;obtain⟨v,o,ho,hd⟩:=I.cell x c e;exact free c o (λz=>(U c z).2.2.1 x c e rfl) ho (I.freeC x c e);obtain⟨e,n,ne,nf,d⟩:=I.pin p hp;have W:p.1∉ch:=λz=>(U p.1 z).2.2.2 p hp rfl;exact⟨keep p.1 p.2 ne nf W e n,free p.1 p.2 W e n,ne,nf,d⟩
theorem Inv.un{t':Nat}(I:Inv X G Z H s)(u:Un X.fs [] H H' s.heap h')(hok:HOk X.prog X.w H' h'):Inv X G Z H' { s with heap:=h',toks:=t' }:=by
 obtain⟨m,⟨o,es,ep,U,r⟩,_⟩:=id I.loc;obtain⟨sl,W⟩:=u.any U I.free (by simp);exact I.step (g':=s.gens) (d':=s.drawn) (ch:=[]) (λ_ z=>nomatch z) (λb o _ hb _ e n=>u.keep b o e n hb (by simp)) (λb o _ hb _ e n=>u.slot b o e n hb (by simp)) (λb o _ e n=>u.free b o e n (by simp)) (λb o _ e=>u.there b o e (by simp)) u.tups u.frzs u.tbls (λm' hm=>by
  obtain⟨o',M,L,q,r'⟩:=hm;rw[U] at q;cases q;exact⟨_,M,L,W,r'⟩) hok I.bare
theorem Inv.call{g':Array Fd}{t':Nat}{d':HC}{ch:List Addr}(I:Inv X G Z H s)(u:Un (frs X.stack) ch H H' s.heap h')(hok:HOk X.prog X.w H' h')(hg:Dr g')
 (L:∀b∈ch,(b∈X.ex\/X.s₀.heap.objs.size<=b)/\b≠X.env.locals/\(∀x c,X.env.cells.lookup x=some c->c≠b)/\∀p∈X.pn++G,p.1≠b) :
 Inv X G Z H' { s with heap:=h',gens:=g',drawn:=d',toks:=t' }:=by
 obtain⟨m,⟨o,es,ep,ho,r⟩,_⟩:=id I.loc;obtain⟨sl,hL⟩:=u.any ho I.free λz=>(L _ z).2.1 rfl;exact I.step (ch:=ch) L (λb o hL hb q e n=>u.keep b o e n (λz=>(A8.mp (I.stkSub b z)).elim hL hb) q) (λb o _ _ q e n=>u.any e n q) (λb o q e n=>u.free b o e n q) (λb o q e=>u.there b o e q) u.tups u.frzs u.tbls (λm' hm=>by
  obtain⟨o',W,U,M,r'⟩:=hm;rw[ho] at M;cases M;exact⟨_,W,U,hL,r'⟩) hok hg
theorem Inv.turned{t':Nat}{it:Addr}(I:Inv X G Z H s)(k:∀b o,b≠it->s.heap.get? b=some o->h'.get? b=some o)(hn:H it=none)(U:it≠X.env.locals)
 (h1:it∈X.ex\/X.s₀.heap.objs.size<=it) (h2:∀x c,X.env.cells.lookup x=some c->c≠it) (h3:∀p∈X.pn++G,p.1≠it):Inv X G Z H { s with heap:=h',toks:=t' }:=by
 have M:∀b u,H b=some u->b≠it:=λb u e z=>by rw[z,hn] at e;cases e
 refine I.step (g':=s.gens) (d':=s.drawn) (ch:=[it]) (λb hb=>?_) (λb o _ _ L e _=>k b o (λz=>L (by simp[z])) e) (λb o _ _ L e _=>⟨o.slots,k b o (λz=>L (by simp[z])) e⟩) (λ_ _ _ _ n=>n)
  (λb o L e=>⟨o,k b o (λz=>L (by simp[z])) e⟩) (λ_ _ e=>e) (λ_ _ _ e=>e) (λb ps e=>⟨#[],by rw[e];simp⟩) (λm hm=>?_) (λb u e=>?_) I.bare
 have e:b=it:=by simpa using hb
 subst e;exact⟨h1,U,h2,h3⟩;obtain⟨o,es,W,ho,r⟩:=hm;exact⟨o,es,W,k _ o (Bp U) ho,r⟩;refine(I.hok b u e).stay (λc v L q=>k c v ?_ q) (λ_ q=>q) λ_ _ q=>q;rcases L with z|z;rw[z];exact M b u e;exact M c _ z
theorem Inv.tok(I:Inv X G Z H s)(t:Nat):Inv X G Z H { s with toks:=t }:=I.un (h':=s.heap) (t':=t) Un.refl I.hok
theorem Inv.kept{t':Nat}(I:Inv X G Z H s)(k:∀b u,s.heap.get? b=some u->h'.get? b=some u):Inv X G Z H { s with heap:=h',toks:=t' }:=I.un (Un.kept k) (I.hok.kept k)
theorem Inv.laid{a:Addr}{o:HO}{t':Nat}(I:Inv X G Z H s)(k:∀b u,s.heap.get? b=some u->h'.get? b=some u)(q:s.heap.objs.size<=a)(new:cG X.prog X.w (upd H a o) h' a o) :
 Inv X G Z (upd H a o) { s with heap:=h',toks:=t' }:=I.un (Un.laid k q (I.hok.fresh q)) (I.hok.laid k q new)
theorem Inv.write{x e:Addr}{o:HO}{t':Nat}(I:Inv X G Z H s)(M:Mut (H x))(L:e=x\/H e=some (.own x))(k:∀b u,b≠e->s.heap.get? b=some u->h'.get? b=some u)(q:∃u,h'.get? e=some u)
 (new:cG X.prog X.w (upd H x o) h' x o):Inv X G Z (upd H x o) { s with heap:=h',toks:=t' }:=I.un (Un.write M L k q) (I.hok.write M L k q new)
theorem Inv.pins_of{pins':List (Addr×Obj)}(I:Inv X G Z H s)(h:∀p∈pins',s.heap.get? p.1=some p.2/\H p.1=none/\p.1≠X.env.locals/\p.1∉X.fs/\∀v,p.2.data≠.cell v):Inv X pins' Z H s:=
 ⟨I.ok,I.os,I.bare,I.base,I.loc,I.cell,I.free,I.freeC,λp q=>(Bc.mp q).elim (λz=>I.pin p (AC _ z)) (h p),I.hok,I.len⟩
theorem lI{N:List Str}(L:N.Nodup){i j:Nat}{x:Str}(a:N[i]? = some x)(b:N[j]? = some x):i=j:=by obtain⟨M,q⟩:=Az.mp a;obtain⟨U,I⟩:=Az.mp b;exact(List.getElem_inj L).mp (q.trans I.symm)
theorem nP{M:EC}{A:AY}{E:Value->Ad->Prop}{i:Nat}{x:Str}{v:V}{u:Value}{Q:Unit->Ad->Prop}(I:Inv X G Z H s)(hN:X.N.Nodup)(hi:X.N[i]? = some x)(hx:Loc X.env.scope x)(r:bC v u)
 (h:∀s',Inv X G (Z.set i (some v)) H s'->(∃a,BX a s.heap s'.heap/\(a=X.env.locals\/X.env.cells.lookup x=some a))->Q () s') (hf:X.fn x=true\/X.env.scope.names.lookup x=some .local:=by first|exact .inl rfl|exact .inr rfl|assumption):Ao M A (storeName X.env x u) Q E s:=by
 obtain⟨m,hn,hl⟩:=id I.loc;have q4:(X.env.scope.kind==.class||(X.env.scope.kind==.module&&X.env.locals != X.env.globals))=false:=by rw[I.ok.kind];rfl
 have q5:i<Z.length:=by rw[I.len];exact(Az.mp hi).1
 have cne:=I.cne;have U:∀{a:Addr} {h':Heap},(∃o,s.heap.get? a=some o/\H a=none)->BX a s.heap h'->HOk X.prog X.w H h':=λ{a h'} ha hs b ob e=>by obtain⟨_,_,q0⟩:=ha;refine(I.hok b ob e).stay (λc w' W q=>(hs.2 c ?_).trans q) (λ_ q=>q) λ_ _ q=>q;rintro rfl;rcases W with rfl|W;rw[q0] at e;cases e;rw[q0] at W;cases W
 rcases hx with hk|hk;refine wpAny_storeName_local hk hn (λh' q8 hs=>?_) q4;obtain⟨oL,_,_,q9,_⟩:=id hn;refine h _ ⟨I.ok,I.os,I.bare,⟨λb o e n hb hx=>?_,λb o e n hb hx=>?_,I.base.free,λb o e hx=>?_,I.base.tups,I.base.frzs,I.base.tbls⟩,⟨_,q8,λj y v' L e2 e3=>?_⟩,λy c e=>?_,I.free,I.freeC,λp hp=>?_,U ⟨oL,q9,I.free⟩ hs,by simpa using I.len⟩ ⟨_,hs,.inl rfl⟩;exact(hs.2 b (A9 (Av (Al e) I.ok.above))).trans (I.base.keep b o e n hb hx);obtain⟨sl,L⟩:=I.base.slot b o e n hb hx;exact⟨sl,(hs.2 b (A9 (Av (Al e) I.ok.above))).trans L⟩;obtain⟨o',L⟩:=I.base.there b o e hx;exact⟨o',(hs.2 b (A9 (Av (Al e) I.ok.above))).trans L⟩;by_cases hj:j=i;subst hj;rw[hi] at L;cases L;rw[As q5] at e2;cases e2;exact⟨u,r,.inl ⟨hk,by simp⟩⟩;rw[Ac (Bp hj)] at e2;obtain⟨u',r',q⟩:=hl j y v' L e2 e3;refine⟨u',r',?_⟩;rcases q with⟨k,e⟩|⟨k,c,e,z⟩
 refine .inl ⟨k,?_⟩;have:y≠x:=λe=>hj (lI hN L (e▸hi));simp[this,e];exact .inr ⟨k,c,e,z.sameBut hs (cne y c e)⟩;obtain⟨w',z⟩:=I.cell y c e;exact⟨w',z.sameBut hs (cne y c e)⟩;obtain⟨e,n,ne,nf,d⟩:=I.pin p hp;exact⟨(hs.2 p.1 ne).trans e,n,ne,nf,d⟩;have q1:X.fn x=true:=by rcases hf with z|z;exact z;rw[z] at hk;cases hk
 obtain⟨c,W⟩:=I.ok.has x (.inl hk);obtain⟨w',z⟩:=I.cell x c W;refine wpAny_storeName_cell I.ok.kind hk W z (λh' q2 hs=>?_);obtain⟨oc,q6,q7⟩:=id z;refine h { s with heap:=h' } ⟨I.ok,I.os,I.bare,⟨λb o e n hb hx=>?_,λb o e n hb hx=>?_,I.base.free,λb o e hx=>?_,I.base.tups,I.base.frzs,I.base.tbls⟩,⟨m,hn.sameBut hs (Bp (cne x c W)),λj y v' L e2 e3=>?_⟩,λy c' e=>?_,I.free,I.freeC,λp hp=>?_,U ⟨oc,q6,I.freeC x c W⟩ hs,by simpa using I.len⟩ ⟨c,hs,.inr W⟩;exact(hs.2 b (A9 (Av (Al e) (I.ok.cab x c q1 W)))).trans (I.base.keep b o e n hb hx);obtain⟨sl,L⟩:=I.base.slot b o e n hb hx;exact⟨sl,(hs.2 b (A9 (Av (Al e) (I.ok.cab x c q1 W)))).trans L⟩;obtain⟨o',L⟩:=I.base.there b o e hx;exact⟨o',(hs.2 b (A9 (Av (Al e) (I.ok.cab x c q1 W)))).trans L⟩;by_cases hj:j=i;subst hj;rw[hi] at L;cases L;rw[As q5] at e2;cases e2;exact⟨u,r,.inr ⟨.inl hk,c,W,q2⟩⟩;rw[Ac (Bp hj)] at e2;obtain⟨u',r',q⟩:=hl j y v' L e2 e3;refine⟨u',r',?_⟩;rcases q with q|⟨k,c',e,z'⟩
 exact .inl q;refine .inr ⟨k,c',e,z'.sameBut hs ?_⟩;rintro rfl;exact hj (lI hN L (I.ok.inj _ _ _ e W▸hi));by_cases q3:c'=c;subst q3;exact⟨_,q2⟩;obtain⟨w2,z2⟩:=I.cell y c' e;exact⟨w2,z2.sameBut hs q3⟩;obtain⟨e,n,ne,nf,d⟩:=I.pin p hp;refine⟨(hs.2 p.1 ?_).trans e,n,ne,nf,d⟩;intro q;rw[q,q6] at e;have q':oc=p.2:=Ah e;exact d w' (by rw[<-q'];exact q7)
theorem iF{M:EC}{A:AY}{E:Value->Ad->Prop}{i:Nat}{x:Str}{v:V}{u:Value}{Q:Unit->Ad->Prop}(I:Inv X G Z H s)(U:X.N.Nodup)(hi:X.N[i]? = some x)(W:Loc X.env.scope x)(r:bC v u)
 (h:∀q,Inv X G (Z.set i (some v)) H q->Q () q) (hf:X.fn x=true\/X.env.scope.names.lookup x=some .local:=by first|exact .inl rfl|exact .inr rfl|assumption):Ao M A (storeName X.env x u) Q E s:=
 nP I U hi W r (λq L _=>h q L) hf
theorem Inv.call'{q:Ad}{ch:List Addr}(I:Inv X G Z H s)(U:q.os=s.os)(u:Un (frs X.stack) ch H H' s.heap q.heap)(hok:HOk X.prog X.w H' q.heap)(M:Dr q.gens)
 (L:∀b∈ch,(b∈X.ex\/X.s₀.heap.objs.size<=b)/\b≠X.env.locals/\(∀x c,X.env.cells.lookup x=some c->c≠b)/\∀p∈X.pn++G,p.1≠b):Inv X G Z H' q:=by obtain⟨h',g',d',t',o'⟩:=q;have e:o'=s.os:=U;subst e;exact I.call (g':=g') (t':=t') (d':=d') u hok M L
end
abbrev XK:=Value->Option Addr->Hp->Prop
abbrev St:=List (Option V)
abbrev VK:=V->Hp->Prop
abbrev TE:=St->Hp->VK->Prop
abbrev TT:=St->Hp->(Bool->Hp->Prop)->Prop
abbrev TA:=St->Hp->(List V->Hp->Prop)->Prop
structure Ends where
 nx:St->Hp->Prop
 rt:VK
 bk:St->Hp->Prop:=λ_ _=>False
 ct:St->Hp->Prop:=λ_ _=>False
abbrev TS:=Ends->St->Hp->Prop
noncomputable def EP(X:Cx)(G:List (Addr×Obj))(Z:St)(Q:VK)(u:Value)(s':Ad):Prop:=∃v H',Inv X G Z H' s'/\bC v u/\Q v H'
noncomputable def TP(X:Cx)(G:List (Addr×Obj))(Z:St)(Q:Bool->Hp->Prop)(b:Bool)(s':Ad):Prop:=∃H',Inv X G Z H' s'/\Q b H'
noncomputable def AP(X:Cx)(G:List (Addr×Obj))(Z:St)(Q:List V->Hp->Prop)(us:List Value)(s':Ad):Prop:=∃vs H',Inv X G Z H' s'/\aQ vs us/\Q vs H'
noncomputable def SP(X:Cx)(G:List (Addr×Obj))(D:Ends)(f:Flow)(s':Ad):Prop:=
 match f with
 | .next=>∃Z' H',Inv X G Z' H' s'/\D.nx Z' H'|.brk=>∃Z' H',Inv X G Z' H' s'/\D.bk Z' H'|.cont=>∃Z' H',Inv X G Z' H' s'/\D.ct Z' H'|.ret u=>∃v Z' H',Inv X G Z' H' s'/\bC v u/\D.rt v H'
noncomputable def PE(X:Cx)(e:Ag)(t:TE):Prop:=
 ∀(G:List (Addr×Obj)) (s:Ad) (Z:St) (H:Hp) (Q:VK),Inv X G Z H s->t Z H Q->Ao (Au X.prog X.w) X.A (C4 e X.env) (EP X G Z Q) X.xe s
noncomputable def PT(X:Cx)(e:Ag)(t:TT):Prop:=
 ∀(G:List (Addr×Obj)) (s:Ad) (Z:St) (H:Hp) (Q:Bool->Hp->Prop),Inv X G Z H s->t Z H Q->Ao (Au X.prog X.w) X.A (isTrue e X.env (C4 e X.env)) (TP X G Z Q) X.xe s
noncomputable def PW(X:Cx)(e:Ag)(t:TT):Prop:=
 ∀(whole:Ht Value) (G:List (Addr×Obj)) (s:Ad) (Z:St) (H:Hp) (Q:Bool->Hp->Prop),Inv X G Z H s->t Z H Q->Ao (Au X.prog X.w) X.A (isTrue e X.env whole) (TP X G Z Q) X.xe s
theorem PW.pt{X:Cx}{e:Ag}{t:TT}(h:PW X e t):PT X e t:=h _
noncomputable def PA(X:Cx)(es:List Ag)(t:TA):Prop:=
 ∀(pos:Cf) (G:List (Addr×Obj)) (s:Ad) (Z:St) (H:Hp) (Q:List V->Hp->Prop),Inv X G Z H s->t Z H Q->Ao (Au X.prog X.w) X.A (Fe (CW pos (AI es X.env))) (AP X G Z Q) X.xe s
noncomputable def PS(X:Cx)(st:B5)(t:TS):Prop:=
 ∀(G:List (Addr×Obj)) (s:Ad) (Z:St) (H:Hp) (D:Ends),Inv X G Z H s->t D Z H->Ao (Au X.prog X.w) X.A (exec st X.env) (SP X G D) X.xe s
noncomputable def PSs(X:Cx)(st:List B5)(t:TS):Prop:=
 ∀(G:List (Addr×Obj)) (s:Ad) (Z:St) (H:Hp) (D:Ends),Inv X G Z H s->t D Z H->Ao (Au X.prog X.w) X.A (execs st X.env) (SP X G D) X.xe s
theorem thn{α:Type}{t:Ht α}{Q q:α->Ad->Prop}{M:EC}{A:AY}{E:Value->Ad->Prop}{s:Ad}(h:Ao M A t Q E s)(I:∀a s,Q a s->q a s):Ao M A t q E s:=B6 h I λ_ _ x=>x
section
variable {X:Cx}
noncomputable def aCH(i:Nat):TE:=λZ H Q=>∃v,Z[i]? = some (some v)/\Q v H
noncomputable def tC(v:V):TE:=λ_ H Q=>Q v H
theorem lJ{i:Nat}{x:Str}{W:Cf}(hN:X.N[i]? = some x)(hv:Vis X.env.scope x)(hd:(x==("__debug__" : Str))=false:=by decide)(U:(x==("__classdict__" : Str))=false:=by decide):PE X (.Name x W) (aCH i):=by
 intro G s Z H Q I h;obtain⟨v,e,h⟩:=h;obtain⟨m,hn,hl⟩:=I.loc;obtain⟨u,r,l⟩:=hl i x v hN e hv;have L:EP X G Z Q u s:=⟨v,H,I,r,h⟩
 rcases l with⟨M,hm⟩|⟨M,c,hc,q⟩
 exact FV (wpAny_loadName_local I.ok.kind M hn hm L) hd;rcases M with M|M;exact FV (wpAny_loadName_cell I.ok.kind M hc q L) hd;exact FV (wpAny_loadName_free I.ok.kind M hc q L U) hd
theorem aAs{i j pos}:PE X (.Constant (.int i) j pos) (tC (.int i)):=λ_ _ _ H _ I h=>wpAny_Constant_int ⟨.int i,H,I.tok _,⟨_,rfl⟩,h⟩
theorem aHo{b j pos}:PE X (.Constant (.bool b) j pos) (tC (.bl b)):=λ_ _ _ H _ I h=>Constant_bool ⟨.bl b,H,I,rfl,h⟩
theorem aEU{j pos}:PE X (.Constant .none j pos) (tC .non):=λ_ _ _ H _ I h=>Gu ⟨.non,H,I,rfl,h⟩
theorem aAt{x j pos}:PE X (.Constant (.str x) j pos) (tC (.str x)):=λ_ _ _ H _ I h=>Calls.Constant_str ⟨.str x,H,I.tok _,⟨_,rfl⟩,h⟩
noncomputable def Gl(X:Cx)(x:Str):Prop:=X.env.kindOf x=some .globalImplicit
theorem eR{E:Value->Ad->Prop}{G:List (Addr×Obj)}{s:Ad}{Z:St}{H:Hp}{x:Str}{u:Value}{q:Cf}{Q:Value->Ad->Prop}(I:Inv X G Z H s)(L:Gl X x)(hm:X.mg x=some u)(h:Q u s)
 (hd:(x==("__debug__" : Str))=false:=by decide):Ao (Au X.prog X.w) X.A (C4 (.Name x q) X.env) Q E s:=
 Du I.ok.kind L (Calls.loadGlobal_global (by rw[I.ok.glob];exact I.mod.glob.keeps I.bk) hm h) hd
theorem eS{E:Value->Ad->Prop}{G:List (Addr×Obj)}{s:Ad}{Z:St}{H:Hp}{x:Str}{u:Value}{q:Cf}{Q:Value->Ad->Prop}(I:Inv X G Z H s)(U:Gl X x)(hm:X.mg x=none)(hv:B8 x=some u)(h:Q u s)
 (W:x ≠ "__name__" := by decide) (hd:(x==("__debug__" : Str))=false:=by decide):Ao (Au X.prog X.w) X.A (C4 (.Name x q) X.env) Q E s:=by obtain⟨mb,L,M⟩:=I.mod.blt;exact Du I.ok.kind U (Calls.loadGlobal_builtin (by rw[I.ok.glob];exact I.mod.glob.keeps I.bk) hm (by rw[I.ok.blt];exact L.keeps I.bk) ((M x W).trans hv) h) hd
theorem gH{x:Str}{v:V}{u:Value}{q:Cf}(L:Gl X x)(hm:X.mg x=some u)(r:bC v u)(hd:(x==("__debug__" : Str))=false:=by decide):PE X (.Name x q) (tC v):=
 λ_ _ _ H _ I h=>eR I L hm ⟨v,H,I,r,h⟩ hd
theorem aCI{x:Str}{v:V}{u:Value}{q:Cf}(L:Gl X x)(hm:X.mg x=none)(U:B8 x=some u)(r:bC v u)(M:x ≠ "__name__" := by decide)(hd:(x==("__debug__" : Str))=false:=by decide):PE X (.Name x q) (tC v):=
 λ_ _ _ H _ I h=>eS I L hm U ⟨v,H,I,r,h⟩ M hd
variable {a b:Ag} {ta tb:TE} {pos:Cf}
noncomputable def PC(X:Cx)(op:CmpOp)(a b:Ag)(t:TE):Prop:=
 ∀(G:List (Addr×Obj)) (s:Ad) (Z:St) (H:Hp) (Q:VK),Inv X G Z H s->t Z H Q ->
  Ao (Au X.prog X.w) X.A (C4 a X.env) (λv s₁=>Ao (Au X.prog X.w) X.A (C4 b X.env) (λu s₂=>Ao (Au X.prog X.w) X.A (BV op v u) (EP X G Z Q) X.xe s₂) X.xe s₁) X.xe s
variable {tA tB':TT} {rest:List Ag}
noncomputable def aKh(t u:TT):TT:=λZ H Q=>t Z H λc H1=>if c=true then u Z H1 Q else Q false H1
noncomputable def tOr(t u:TT):TT:=λZ H Q=>t Z H λc H1=>if c=true then Q true H1 else u Z H1 Q
noncomputable def aKi(t:TT):TT:=λZ H Q=>t Z H λc H1=>Q (!c) H1
theorem aCJ(q:PT X a tA):PW X (.BoolOp .And [a] pos) tA:=by
 intro wh G s Z H Q I h;refine isTrue_and (thn (q G s Z H Q I h) λc s1 e=>?_);cases c with
 | true=>exact isTrue_and_nil e|false=>exact e
theorem aEV(q:PT X a tA):PW X (.BoolOp .Or [a] pos) tA:=by
 intro wh G s Z H Q I h;refine isTrue_or (thn (q G s Z H Q I h) λc s1 e=>?_);cases c with
 | false=>exact isTrue_or_nil e|true=>exact e
theorem aEW(M:PT X a tA)(hb:PW X (.BoolOp .And (b::rest) pos) tB'):PW X (.BoolOp .And (a::b::rest) pos) (aKh tA tB'):=by
 intro wh G s Z H Q I h;refine isTrue_and (thn (M G s Z H _ I h) λc s1 ⟨H1,q,L⟩=>?_);cases c with
 | true=>exact hb wh G s1 Z H1 Q q L|false=>exact⟨H1,q,L⟩
theorem aHp(M:PT X a tA)(hb:PW X (.BoolOp .Or (b::rest) pos) tB'):PW X (.BoolOp .Or (a::b::rest) pos) (tOr tA tB'):=by
 intro wh G s Z H Q I h;refine isTrue_or (thn (M G s Z H _ I h) λc s1 ⟨H1,q,L⟩=>?_);cases c with
 | true=>exact⟨H1,q,L⟩|false=>exact hb wh G s1 Z H1 Q q L
theorem aEX(q:PT X a tA):PT X (.UnaryOp .Not a pos) (aKi tA):=by intro G s Z H Q I h;exact isTrue_not (q G s Z H (λc H1=>Q (!c) H1) I h)
noncomputable def aHq(ta tb:TE):TE:=λZ H Q=>ta Z H λx H1=>∃c,x=.bl c/\if c=true then tb Z H1 Q else Q (.bl false) H1
noncomputable def aKj(ta tb:TE):TE:=λZ H Q=>ta Z H λx H1=>∃c,x=.bl c/\if c=true then Q (.bl true) H1 else tb Z H1 Q
theorem aAu{op}{t:TE}(h:PE X a t):PE X (.BoolOp op [a] pos) t:=λG s Z H Q I q=>BoolOp_one (h G s Z H Q I q)
theorem aEY(M:PE X a ta)(hb:PE X (.BoolOp .And (b::rest) pos) tb):PE X (.BoolOp .And (a::b::rest) pos) (aHq ta tb):=by
 intro G s Z H Q I h;refine BoolOp_and (thn (M G s Z H _ I h) λv s1 ⟨x,H1,L,r1,q⟩=>?_);obtain⟨c,rfl,q⟩:=q;cases r1;refine BD ?_;cases c with
 | true=>exact hb G s1 Z H1 Q L q|false=>exact⟨.bl false,H1,L,rfl,q⟩
theorem aHr(M:PE X a ta)(hb:PE X (.BoolOp .Or (b::rest) pos) tb):PE X (.BoolOp .Or (a::b::rest) pos) (aKj ta tb):=by
 intro G s Z H Q I h;refine BoolOp_or (thn (M G s Z H _ I h) λv s1 ⟨x,H1,L,r1,q⟩=>?_);obtain⟨c,rfl,q⟩:=q;cases r1;refine BD ?_;cases c with
 | false=>exact hb G s1 Z H1 Q L q|true=>exact⟨.bl true,H1,L,rfl,q⟩
noncomputable def tIf(t:TT)(ta tb:TE):TE:=λZ H Q=>t Z H λc H1=>if c=true then ta Z H1 Q else tb Z H1 Q
theorem aAv{c:Ag}(U:PT X c tA)(M:PE X a ta)(hb:PE X b tb):PE X (.IfExp c a b pos) (tIf tA ta tb):=by
 intro G s Z H Q I h;refine wpAny_IfExp (thn (U G s Z H _ I h) λd s1 ⟨H1,q,L⟩=>?_);cases d with
 | true=>exact M G s1 Z H1 Q q L|false=>exact hb G s1 Z H1 Q q L
end
noncomputable def SqL(K:Ai)(H:Hp)(a:Addr)(xs:List V):Prop:=
 Rd H a (.lst xs) \/
  ∃(o:Obj) (its:Array Value) (n:Nat),K.lookup a=some o/\o.cls=.type "list" /\ o.dict=none/\o.data=.seq its n/\its.size<=sizeLine/\aQ xs its.toList
noncomputable def SqT(K:Ai)(H:Hp)(a:Addr)(xs:List V):Prop:=
 Rd H a (.tup xs) \/
  ∃(o:Obj) (its:Array Value) (n:Nat),K.lookup a=some o/\o.cls=.type "tuple" /\ o.data=.seq its n/\its.size<=sizeLine/\aQ xs its.toList
noncomputable def aKk:Value->Option V
 | .none=>some .non|.bool b=>some (.bl b)|.int i _=>some (.int i)|.str x _=>some (.str x)|.bytes b _=>some (.byt b)|.float b _=>some (.flt b)|.ref a=>some (.ref a)|.type n=>some (.ty n)|_=>none
theorem bC.abs{x:V}{u:Value}(r:bC x u):aKk u=some x:=by
 cases x with
 | non=>cases r;rfl|bl _=>cases r;rfl|int _=>obtain⟨t,rfl⟩:=r;rfl|str _=>obtain⟨t,rfl⟩:=r;rfl|byt _=>obtain⟨t,rfl⟩:=r;rfl|flt _=>obtain⟨t,rfl⟩:=r;rfl|ref _=>cases r;rfl|ty _=>cases r;rfl
theorem bC.inj{x y:V}{u:Value}(r:bC x u)(q:bC y u):x=y:=Ah (r.abs.symm.trans q.abs)
theorem aQ.inj:∀{xs q:List V} {us:List Value},aQ xs us->aQ q us->xs=q
 | _,_,_,.nil,.nil=>rfl|_,_,_,.cons r t,.cons r' t'=>by rw[r.inj r',aQ.inj t t']
section
variable {X:Cx} {G:List (Addr×Obj)} {Z:St} {H:Hp} {s:Ad} {a:Addr} {xs ys:List V}
theorem SqL.of{K:Ai}(h:H a=some (.lst xs)):SqL K H a xs:=.inl (.inl h)
theorem SqT.of{K:Ai}(h:H a=some (.tup xs)):SqT K H a xs:=.inl (.inl h)
theorem Inv.list(I:Inv X G Z H s)(h:SqL X.K H a xs):∃q:List Value,aQ xs q/\PlainL s.heap a q.toArray/\xs.length<=sizeLine:=by
 rcases h with h|⟨o,q,n,M,L,hd,hs,U,r⟩
 obtain⟨z,q,n,r,e⟩:=h.ok I.hok;exact⟨q,r,⟨_,n,e,rfl,rfl,rfl⟩,z⟩;refine⟨q.toList,r,⟨o,n,I.kIn a o M,L,hd,by simpa using hs⟩,?_⟩;have e:=r.length;simp only[Cg] at e;omega
theorem Inv.tuple(I:Inv X G Z H s)(h:SqT X.K H a xs):∃q:List Value,aQ xs q/\IsTup s.heap a q.toArray/\xs.length<=sizeLine:=by
 rcases h with h|⟨o,q,n,M,L,hs,U,r⟩
 obtain⟨z,q,r,p⟩:=h.ok I.hok;exact⟨q,r,p,z⟩;refine⟨q.toList,r,⟨o,I.kIn a o M,L,n,by simpa using hs⟩,?_⟩;have e:=r.length;simp only[Cg] at e;omega
theorem Inv.list_inj(I:Inv X G Z H s)(h:SqL X.K H a xs)(h':SqL X.K H a ys):xs=ys:=by
 obtain⟨q,r,⟨o,n,e,_,_,d⟩,_⟩:=I.list h;obtain⟨its',M,⟨o',U,L,_,_,d'⟩,_⟩:=I.list h';rw[e] at L;cases L;rw[d] at d';injection d' with d1 _
 have:q=its':=by simpa using congrArg Array.toList d1
 subst this;exact r.inj M
theorem Inv.tuple_inj(I:Inv X G Z H s)(h:SqT X.K H a xs)(h':SqT X.K H a ys):xs=ys:=by
 obtain⟨q,r,⟨o,e,_,n,d⟩,_⟩:=I.tuple h;obtain⟨its',M,⟨o',L,_,U,d'⟩,_⟩:=I.tuple h';rw[e] at L;cases L;rw[d] at d';injection d' with d1 _
 have:q=its':=by simpa using congrArg Array.toList d1
 subst this;exact r.inj M
end
section
variable {X:Cx} {st:B5} {rest:List B5} {t u:TS} {e:Ag} {te:TE} {pos:Cf}
noncomputable def aHs:TS:=λD Z H=>D.nx Z H
noncomputable def aKl(t u:TS):TS:=λD Z H=>t { D with nx:=u D } Z H
theorem aCK:PSs X [] aHs:=λ_ _ Z H _ I h=>CJ ⟨Z,H,I,h⟩
theorem aAw(M:PS X st t)(U:PSs X rest u):PSs X (st::rest) (aKl t u):=by
 intro G s Z H D I h;refine DH (thn (M G s Z H { D with nx:=u D } I h) λf s1 q=>?_);cases f with
 | next=>obtain⟨Z',H',L,q⟩:=q;exact U G s1 Z' H' D L q|ret v=>exact q|brk=>exact q|cont=>exact q
theorem aCL(L:PS X st t):PSs X [st] t:=by
 intro G s Z H D I h;refine DH (thn (L G s Z H D I h) λf s1 q=>?_);cases f with
 | next=>exact CJ q|ret v=>exact q|brk=>exact q|cont=>exact q
theorem Inv.quiet{G:List (Addr×Obj)}{Z:St}{H:Hp}{s:Ad}(I:Inv X G Z H s):Hb X.env=false:=by simp[Hb,I.ok.kind]
noncomputable def aHt(te:TE):TS:=λD Z H=>te Z H λ_ H1=>D.nx Z H1
theorem pG(L:PE X e te)(hs:F3 e none pos.line X.env=pure false:=by rfl):PS X (.Expr e pos) (aHt te):=by intro G s Z H D I h;exact wpAny_Expr_any (thn (L G s Z H _ I h) λv s1 ⟨x,H1,q,r1,M⟩=>⟨Z,H1,q,M⟩) I.quiet hs
noncomputable def aKm(te:TE):TS:=λD Z H=>te Z H D.rt
theorem pH(L:PE X e te):PS X (.Return (some e) pos) (aKm te):=by intro G s Z H D I h;exact wpAny_Return_some (thn (L G s Z H _ I h) λv s1 ⟨x,H1,q,r1,M⟩=>⟨x,Z,H1,q,r1,M⟩)
noncomputable def aKn(c:TT)(t u:TS):TS:=λD Z H=>c Z H λb H1=>if b=true then t D Z H1 else u D Z H1
theorem aDY{c:Ag}{a b:List B5}{M:TT}(W:PT X c M)(U:PSs X a t)(hb:PSs X b u):PS X (.If c a b pos) (aKn M t u):=by
 intro G s Z H D I h;refine wpAny_If (thn (W G s Z H _ I h) λd s1 ⟨H1,q,L⟩=>?_);cases d with
 | true=>exact U G s1 Z H1 D q L|false=>exact hb G s1 Z H1 D q L
end
abbrev TG:=V->St->Hp->(St->Hp->Prop)->Prop
abbrev TGs:=List V->St->Hp->(St->Hp->Prop)->Prop
noncomputable def PG(X:Cx)(target:Ag)(t:TG):Prop:=
 ∀(G:List (Addr×Obj)) (s:Ad) (Z:St) (H:Hp) (v:V) (u:Value) (Q:St->Hp->Prop),Inv X G Z H s->bC v u->t v Z H Q ->
  Ao (Au X.prog X.w) X.A (DQ target X.env u) (λ_ s'=>∃Z' H',Inv X G Z' H' s'/\Q Z' H') X.xe s
noncomputable def PGs(X:Cx)(ts:List Ag)(t:TGs):Prop:=
 ∀(G:List (Addr×Obj)) (s:Ad) (Z:St) (H:Hp) (vs:List V) (us:List Value) (Q:St->Hp->Prop),Inv X G Z H s->aQ vs us->t vs Z H Q ->
  Ao (Au X.prog X.w) X.A (assignInOrder ((Co ts X.env).map (·.2)) us) (λ_ s'=>∃Z' H',Inv X G Z' H' s'/\Q Z' H') X.xe s
abbrev aEZ:=V->V->V->Hp->(Hp->Prop)->Prop
noncomputable def aHu(X:Cx)(t:aEZ):Prop:=
 ∀(G:List (Addr×Obj)) (s:Ad) (Z:St) (H:Hp) (o i v:V) (ov iv u:Value) (Q:Hp->Prop),Inv X G Z H s->bC o ov->bC i iv->bC v u->t o i v H Q ->
  Ao (Au X.prog X.w) X.A (setItem ov iv u) (λ_ s'=>∃H',Inv X G Z H' s'/\Q H') X.xe s
section
variable {X:Cx} {pos:Cf}
noncomputable def nQ(i:Nat):TG:=λv Z H Q=>Q (Z.set i (some v)) H
theorem vX{i:Nat}{x:Str}(L:X.N.Nodup)(hi:X.N[i]? = some x)(M:Loc X.env.scope x)(hf:X.fn x=true\/X.env.scope.names.lookup x=some .local:=by first|exact .inl rfl|exact .inr rfl|assumption):PG X (.Name x pos) (nQ i):=by intro G s Z H v u Q I r h;exact Ff (iF I L hi M r (λU q=>⟨_,H,q,h⟩) hf)
noncomputable def aHv:TGs:=λvs Z H Q=>vs=[]/\Q Z H
noncomputable def aDZ(t:TG)(u:TGs):TGs:=λvs Z H Q=>∃v r,vs=v::r/\t v Z H λZ' H'=>u r Z' H' Q
theorem aCM:PGs X [] aHv:=by intro G s Z H vs us Q I r h;obtain⟨e,h⟩:=h;subst e;cases r;exact assignInOrder_nil ⟨Z,H,I,h⟩
theorem aAx{e:Ag}{es:List Ag}{t:TG}{u:TGs}(M:PG X e t)(U:PGs X es u)
 (hs:(Co (e::es) X.env).map (·.2)=DQ e X.env::(Co es X.env).map (·.2):=by rfl):PGs X (e::es) (aDZ t u):=by
 intro G s Z H vs us Q I r h;obtain⟨v,vr,L,h⟩:=h;subst L;cases r with
 | cons r rr=>rw[hs];refine assignInOrder_cons (thn (M G s Z H _ _ _ I r h) λ_ s1 ⟨Z1,H1,q,W⟩=>?_);exact U G s1 Z1 H1 _ _ Q q rr W
noncomputable def aHw(K:Ai)(n:Nat)(t:TGs):TG:=λv Z H Q=>∃a xs,v=.ref a/\SqT K H a xs/\xs.length=n/\t xs Z H Q
theorem aFa{es:List Ag}{k:Nat}{t:TGs}{n:Nat}(W:X.calm=true)(h:PGs X es t)
 (hn:(Co es X.env).length=n:=by rfl) (q:(Co es X.env).findIdx? (·.1)=none:=by rfl):PG X (.Tuple es k pos) (aHw X.K n t):=by intro G s Z H v u Q I r L;obtain⟨a,xs,U,hq,hl,L⟩:=L;subst U;cases r;obtain⟨q0,rv,ht,hz⟩:=I.tuple hq;refine assign_Tuple_tuple (I.ok.hd W) ht (by simp[hn,<-hl,rv.length]) q λh' hx=>?_;have M:Inv X G Z H { s with heap:=h' }:=I.kept (t':=s.toks) λb o e=>hx b o (A9 (Al e)) e;exact h G _ Z H xs _ Q M (by simpa using rv) L
noncomputable def aKo(to ti:TE)(t:aEZ):TG:=λv Z H Q=>to Z H λo H1=>ti Z H1 λi H2=>t o i v H2 λH3=>Q Z H3
theorem uK{o i:Ag}{U M:TE}{t:aEZ}(ho:PE X o U)(hi:PE X i M)(hs:aHu X t)
 (ha:∀v,DQ (.Subscript o i pos) X.env v=(do
  let q<-Fh [v] (C4 o X.env)
  let L<-Fh [v,q] (C4 i X.env)
  HD pos
  Fh [v,q,L] (setItem q L v)
  release [v,q,L] []):=by intro _;rfl):PG X (.Subscript o i pos) (aKo U M t):=by intro G s Z H v u Q I r h;rw[ha];refine Aa (BN (thn (ho G s Z H _ I h) λq s1 ⟨x,H1,I1,r1,q1⟩=>?_));refine Aa (BN (thn (hi G s1 Z H1 _ I1 q1) λL s2 ⟨y,W,I2,r2,q2⟩=>?_));refine Aa (CH (Aa (BN (thn (hs G s2 Z W x y v q L u _ I2 r1 r2 r q2) λ_ s3 ⟨H3,I3,q3⟩=>?_))));exact wpAny_release ⟨Z,H3,I3,q3⟩
noncomputable def aFb(te:TE)(g:TG):TS:=λD Z H=>te Z H λx H1=>g x Z H1 D.nx
theorem pI{tg e:Ag}{te:TE}{g:TG}(U:PE X e te)(W:PG X tg g)(hs:swapsWithSole [tg] e pos.line X.env=pure false:=by rfl)(hw:swappedStores [tg] e X.env=pure none:=by rfl)
 (M:(Co [tg] X.env).map (·.2)=[DQ tg X.env]:=by rfl):PS X (.Assign [tg] e pos) (aFb te g):=by intro G s Z H D I h;refine wpAny_Assign_stores (thn (U G s Z H _ I h) λv s1 ⟨x,H1,L,r1,q1⟩=>?_) hs hw;rw[M];exact thn (W G s1 Z H1 x v _ L r1 q1) λ_ s2 q=>q
theorem lK{i:Nat}{x:Str}{e:Ag}{te:TE}{q:Cf}(U:X.N.Nodup)(hi:X.N[i]? = some x)(hx:Loc X.env.scope x)(W:PE X e te)(hs:F3 e (some (.Name x q)) pos.line X.env=pure false:=by rfl)(hf:X.fn x=true\/X.env.scope.names.lookup x=some .local:=by first|exact .inl rfl|exact .inr rfl|assumption) :
 PS X (.Assign [.Name x q] e pos) (aFb te (nQ i)):=by intro G s Z H D I h;refine wpAny_Assign_Name (thn (W G s Z H _ I h) λv s1 ⟨y,H1,L,r1,q1⟩=>?_) hs;exact iF L U hi hx r1 (λs2 M=>⟨_,H1,M,q1⟩) hf
end
structure It where
 go:Nat->Hp->Prop
 yld:Nat->Hp->V->Hp->Prop
 stop:Nat->Hp->Prop
noncomputable def iG(X:Cx)(G:List (Addr×Obj))(H:Hp)(b:Addr):Prop:=
 H b=none/\b≠X.env.locals/\b∉X.fs/\(b∈X.ex\/X.s₀.heap.objs.size<=b)/\(∀x c,X.env.cells.lookup x=some c->c≠b)/\∀p∈X.pn++G,p.1≠b
theorem Inv.fpOk{X:Cx}{G:List (Addr×Obj)}{Z:St}{H H':Hp}{s:Ad}{b:Addr}(I:Inv X G Z H s)(hb:s.heap.objs.size<=b)(L:H' b=none):iG X G H' b:=by refine⟨L,B9 (Av I.lt hb),I.nofs hb,.inr (AH I.sz hb),λx c e z=>?_,λp M z=>?_⟩;obtain⟨v,q⟩:=I.cell x c e;exact absurd (Av q.lt (by rw[z];exact hb)) (AU _);exact absurd (Av (Al (I.pin p M).1) (by rw[z];exact hb)) (AU _)
structure uL (P:A5) (w:AM) (K:Ai) (tg:Ag) (J0:It) (fp:List Addr) (it:Addr) (tn:Nat->Heap->Prop):Prop where
 mem:it∈fp
 obj:∀i h,tn i h->∀b∈fp,∃o,h.get? b=some o/\∀v,o.data≠.cell v
 keep:∀i h h',tn i h->(∀b∈fp,∀o,h.get? b=some o->h'.get? b=some o)->tn i h'
 item:∀(X:Cx),X.prog=P->X.w=w->X.K=K->X.calm=true->∀(i:Nat) (G:List (Addr×Obj)) (s:Ad) (Z:St) (H:Hp) (E:Value->Ad->Prop),Inv X G Z H s->(∀b∈fp,iG X G H b)->tn i s.heap->J0.go i H ->
  Ao (Au P w) X.A (F4 (.ref it)) (λr s1=>∃u,r=some u /\
   Ao (Au P w) X.A (Dl tg (.ref it) u) (λ_ s2=>∃x H',Inv X G Z H' s2/\bC x u/\J0.yld i H x H'/\tn (i+1) s2.heap/\∀b∈fp,H' b=none) E s1) E s
 done:∀(X:Cx),X.prog=P->X.w=w->X.K=K->X.calm=true->∀(i:Nat) (G:List (Addr×Obj)) (s:Ad) (Z:St) (H:Hp) (E:Value->Ad->Prop),Inv X G Z H s->(∀b∈fp,iG X G H b)->tn i s.heap->J0.stop i H ->
  Ao (Au P w) X.A (F4 (.ref it)) (λr s1=>r=none/\Inv X G Z H s1) E s
 self:∀(A:AY) (i:Nat) (s:Ad) (Q:Value->Ad->Prop) (E:Value->Ad->Prop),tn i s.heap->Q (.ref it) s->Ao (Au P w) A (GJ (.ref it)) Q E s
abbrev TI:=St->Hp->(It->Hp->Prop)->Prop
noncomputable def PIE(X:Cx)(G:List (Addr×Obj))(Z:St)(tg:Ag)(R:It->Hp->Prop)(itv:Value)(s2:Ad):Prop:=
 ∃(it:Addr) (fp:List Addr) (tn:Nat->Heap->Prop) (J0:It) (H':Hp),itv=.ref it/\Inv X G Z H' s2/\uL X.prog X.w X.K tg J0 fp it tn/\tn 0 s2.heap/\(∀b∈fp,iG X G H' b)/\R J0 H'
noncomputable def PI(X:Cx)(tg iter:Ag)(wi:TI):Prop:=
 ∀(G:List (Addr×Obj)) (s:Ad) (Z:St) (H:Hp) (R:It->Hp->Prop),Inv X G Z H s->wi Z H R ->
  Ao (Au X.prog X.w) X.A (C4 iter X.env) (λv s1=>Ao (Au X.prog X.w) X.A (GJ v) (PIE X G Z tg R) X.xe s1) X.xe s
theorem lL{M:EC}{A:AY}{E:Value->Ad->Prop}{s:Ad}{tg:Ag}{it:Addr}{u:Value}{o:Obj}{n:String}{vs:Array Value}{Q:Unit->Ad->Prop}(U:s.heap.get? it=some o)(I:o.cls=.type n)(hd:o.data=.fields vs)
 (L:["enumerate", "zip", "dict_itemiterator", "dict_reverseitemiterator", "odict_iterator", "itertools.zip_longest", "itertools.pairwise"].contains n=false) (q:Q () s):Ao M A (Dl tg (.ref it) u) Q E s:=by
 unfold Dl;cases tg <;> first
  | exact Ar q
  | (cases u <;> first
   | exact Ar q
   | (refine Aa (wpAny_load U ?_)
      rw[I,hd];show Ao M A (if (["enumerate", "zip", "dict_itemiterator", "dict_reverseitemiterator", "odict_iterator", "itertools.zip_longest", "itertools.pairwise"].contains n&&vs[0]?==some (Ca _))=true then _ else _) Q E s;rw[if_neg (by intro h;rw[L,Eo] at h;cases h)];exact Ar q))
noncomputable def Itl(K:Ai)(a:Addr):It:=
 ⟨λi H=>∃xs x,SqL K H a xs/\xs[i]? = some x,λi H x H'=>H'=H/\∀xs,SqL K H a xs->xs[i]? = some x,λi H=>∃xs,SqL K H a xs/\xs.length<=i⟩
noncomputable def Itt(K:Ai)(a:Addr):It:=
 ⟨λi H=>∃xs x,SqT K H a xs/\xs[i]? = some x,λi H x H'=>H'=H/\∀xs,SqT K H a xs->xs[i]? = some x,λi H=>∃xs,SqT K H a xs/\xs.length<=i⟩
noncomputable def Itr(lo:Int)(n:Nat):It:=⟨λi _=>i<n,λi H x H'=>H'=H/\x=.int (lo+i),λi _=>n<=i⟩
theorem nR{P:A5}{w:AM}{K:Ai}{tg:Ag}(a it:Addr):uL P w K tg (Itl K a) [it] it (λi h=>h.IsListIter it a i) where
 mem:=by simp
 obj:=λi h st b hb=>by
  have e:b=it:=by simpa using hb
  subst e;obtain⟨o,e,c,d⟩:=st;exact⟨o,e,λv z=>by rw[d] at z;cases z⟩
 keep:=λi h h' st k=>st.at λo e=>k it (by simp) o e
 item:=by intro X U hw M hc i G s Z H E I hf st W;subst U hw M;obtain⟨xs,x,L,hx⟩:=W;obtain⟨q0,rv,p,hz⟩:=I.list L;obtain⟨u,hu,ru⟩:=rv.get hx;obtain⟨f0,f1,f2,f3,f4,f5⟩:=hf it (by simp);refine wpAny_pyNext_list_item st p.isList (x:=u) (by simpa using hu) λh' q sb=>?_;have I1:Inv X G Z H { s with heap:=h' }:=I.turned (t':=s.toks) (λb o hb e=>(sb.2 b hb).trans e) f0 f1 f3 f4 f5;obtain⟨o,e,c,d⟩:=id q;exact⟨u,rfl,lL (s:={ s with heap:=h' }) e c d (by decide) ⟨x,H,I1,ru,⟨rfl,λys hy=>by rw[I.list_inj hy L];exact hx⟩,q,λb hb=>(hf b hb).1⟩⟩
 done:=by intro X U hw M hc i G s Z H E I hf st W;subst U hw M;obtain⟨xs,L,hx⟩:=W;obtain⟨q0,rv,p,hz⟩:=I.list L;obtain⟨f0,f1,f2,f3,f4,f5⟩:=hf it (by simp);have hl:=rv.length;exact wpAny_pyNext_list_end (I.ok.hd hc) st p.isList (by simp;omega) λh' eb=>⟨rfl,I.turned (t':=s.toks) (λb o hb e=>eb b o hb e) f0 f1 f3 f4 f5⟩
 self:=λ_ _ _ _ _ st h=>wpAny_pyIter_listiter st h
theorem uM{P:A5}{w:AM}{K:Ai}{tg:Ag}(a it:Addr):uL P w K tg (Itt K a) [it] it (λi h=>h.IsTupleIter it a i) where
 mem:=by simp
 obj:=λi h st b hb=>by
  have e:b=it:=by simpa using hb
  subst e;obtain⟨o,e,c,d⟩:=st;exact⟨o,e,λv z=>by rw[d] at z;cases z⟩
 keep:=λi h h' st k=>st.at λo e=>k it (by simp) o e
 item:=by intro X W hw U hc i G s Z H E I hf st hg;subst W hw U;obtain⟨xs,x,M,hx⟩:=hg;obtain⟨q,rv,p,hz⟩:=I.tuple M;obtain⟨u,hu,ru⟩:=rv.get hx;obtain⟨f0,f1,f2,f3,f4,f5⟩:=hf it (by simp);refine wpAny_pyNext_tuple_item st (show s.heap.IsTuple a q.toArray from p) (x:=u) (by simpa using hu) λh' L sb=>?_;have I1:Inv X G Z H { s with heap:=h' }:=I.turned (t':=s.toks) (λb o hb e=>(sb.2 b hb).trans e) f0 f1 f3 f4 f5;obtain⟨o,e,c,d⟩:=id L;exact⟨u,rfl,lL (s:={ s with heap:=h' }) e c d (by decide) ⟨x,H,I1,ru,⟨rfl,λys hy=>by rw[I.tuple_inj hy M];exact hx⟩,L,λb hb=>(hf b hb).1⟩⟩
 done:=by intro X W hw U hc i G s Z H E I hf st hg;subst W hw U;obtain⟨xs,M,hx⟩:=hg;obtain⟨q,rv,p,hz⟩:=I.tuple M;obtain⟨f0,f1,f2,f3,f4,f5⟩:=hf it (by simp);have hl:=rv.length;exact wpAny_pyNext_tuple_end (I.ok.hd hc) st (show s.heap.IsTuple a q.toArray from p) (by simp;omega) λh' eb=>⟨rfl,I.turned (t':=s.toks) (λb o hb e=>eb b o hb e) f0 f1 f3 f4 f5⟩
 self:=λ_ _ _ _ _ st h=>wpAny_pyIter_tupleiter st h
theorem uN{P:A5}{w:AM}{K:Ai}{tg:Ag}(it:Addr)(lo:Int)(n:Nat):uL P w K tg (Itr lo n) [it] it (λi h=>Hd h it (lo+(i:Nat)*1) ((n:Int)-(i:Nat)) 1) where
 mem:=by simp
 obj:=λi h st b hb=>by
  have e:b=it:=by simpa using hb
  subst e;exact⟨_,st,λv z=>by
   have z':He _=F5 v:=z;cases z'⟩
 keep:=λi h h' st k=>k it (by simp) _ st
 item:=by intro X M hw L U i G s Z H E I hf st hg;subst M hw L;obtain⟨f0,f1,f2,f3,f4,f5⟩:=hf it (by simp);have W:=Walks.range (prog:=X.prog) (w:=X.w) (I.ok.hd U) it lo 1 n;refine W.item i s _ _ hg st λv h' tk hv q kk=>?_;obtain⟨t,rfl⟩:=hv;have I1:Inv X G Z H { s with heap:=h',toks:=tk }:=I.turned (λb o hb e=>kk b o (by simpa using hb) e) f0 f1 f3 f4 f5;refine⟨_,rfl,lL (s:={ s with heap:=h',toks:=tk }) (n:= "range_iterator") q rfl rfl (by decide) ⟨.int (lo+i),H,I1,⟨t,?_⟩,⟨rfl,rfl⟩,q,λb hb=>(hf b hb).1⟩⟩;rw[Int.mul_one]
 done:=by intro X M hw L U i G s Z H E I hf st hg;subst M hw L;obtain⟨f0,f1,f2,f3,f4,f5⟩:=hf it (by simp);exact wpAny_pyNext_range_end (I.ok.hd U) st (by have:n<=i:=hg;omega) λh' eb=>⟨rfl,I.turned (t':=s.toks) (λb o hb e=>eb b o hb e) f0 f1 f3 f4 f5⟩
 self:=λ_ _ _ _ _ st h=>wpAny_pyIter_rangeiter st h
section
variable {X:Cx} {tg:Ag}
noncomputable def aHx(K:Ai)(tl:TE):TI:=λZ H R=>tl Z H λx H1=>∃a,x=.ref a/\(∃xs,SqL K H1 a xs)/\R (Itl K a) H1
theorem aCN{l:Ag}{tl:TE}(M:PE X l tl):PI X tg l (aHx X.K tl):=by
 intro G s Z H R I h;refine thn (M G s Z H _ I h) λv s1 ⟨x,H1,L,r1,q1⟩=>?_;obtain⟨a,e,⟨xs,U⟩,q⟩:=q1;subst e;cases r1;obtain⟨W,rv,p,hz⟩:=L.list U;refine D6 p.isList ?_;refine⟨s1.heap.objs.size,[s1.heap.objs.size],_,_,H1,rfl,L.kept (t':=s1.toks) λb o e=>Ab _ e,nR a _,⟨_,A0 _ rfl,rfl,rfl⟩,λb hb=>?_,q⟩;have e:b=s1.heap.objs.size:=by simpa using hb
 subst e;exact L.fpOk (An _) (L.hok.fresh (An _))
theorem rO{G:List (Addr×Obj)}{Z:St}{H:Hp}{s:Ad}{R:It->Hp->Prop}{E:Value->Ad->Prop}{lo hi:Int}{t u v:HS}{tk:Nat}(I:Inv X G Z H s)(W:-(2 ^ 62)<=lo)(h2:lo<2 ^ 62)(h3:-(2 ^ 62)<=hi)(h4:hi<2 ^ 62)
 (q:R (Itr lo (hi-lo).toNat) H):Ao (Au X.prog X.w) X.A (GJ (.ref s.heap.objs.size)) (PIE X G Z tg R) E { s with heap:=s.heap.push { cls:=.type "range",data:=.fields #[.int lo t,.int hi u,.int 1 v] },toks:=tk }:=by
 refine wpAny_pyIter_range (IsRange.new ..) (small_one W h2 h3 h4) ?_;have L:Inv X G Z H { s with heap:=s.heap.push { cls:=.type "range",data:=.fields #[.int lo t,.int hi u,.int 1 v] },toks:=tk }:=I.kept λb o e=>Ab _ e;refine⟨(s.heap.push { cls:=.type "range",data:=.fields #[.int lo t,.int hi u,.int 1 v] }).objs.size,[(s.heap.push { cls:=.type "range",data:=.fields #[.int lo t,.int hi u,.int 1 v] }).objs.size],_,_,H,rfl,
  L.kept (t':=tk) λb o e=>Ab _ e,uN _ lo (hi-lo).toNat,?_,λb hb=>?_,q⟩
 have M:lo+((0:Nat):Int)*1=lo:=by simp
 have U:(((hi-lo).toNat:Nat):Int)-((0:Nat):Int)=GB lo hi 1:=by rw[rangeSize_one];split <;> omega
 show Hd _ _ (lo+((0:Nat):Int)*1) ((((hi-lo).toNat:Nat):Int)-((0:Nat):Int)) 1;rw[M,U];exact A0 _ rfl;have e:b=(s.heap.push { cls:=.type "range",data:=.fields #[.int lo t,.int hi u,.int 1 v] }).objs.size:=by simpa using hb
 subst e;exact L.fpOk (An _) (L.hok.fresh (An _))
noncomputable def aHy(ta:TA):TI:=λZ H R=>ta Z H λvs H1=>∃j:Int,vs=[.int j]/\-(2 ^ 62)<=j/\j<2 ^ 62/\R (Itr 0 j.toNat) H1
noncomputable def aHz(ta:TA):TI:=λZ H R=>ta Z H λvs H1=>∃i j:Int,vs=[.int i,.int j]/\(-(2 ^ 62)<=i/\i<2 ^ 62/\-(2 ^ 62)<=j/\j<2 ^ 62)/\R (Itr i (j-i).toNat) H1
theorem jA{a:Ag}{U:TA}{p L:Cf}(hg:Gl X "range")(hm:X.mg "range" = none)(ha:PA X [a] U)(hs:AI [a] X.env=[(false,C4 a X.env)]:=by rfl):PI X tg (.Call (.Name "range" p) [a] [] L) (aHy U):=by
 intro G s Z H R I h;refine Call_ (eS I hg hm boot_range (BK (thn (ha L G s Z H _ I h) λus s1 ⟨vs,H1,W,r1,M⟩=>?_) hs rfl));obtain⟨j,e,M,q2,q⟩:=M;subst e;cases r1 with
 | cons r rr=>cases rr;obtain⟨t,rfl⟩:=r;exact call_range_1 (rO W (by omega) (by omega) M q2 (by simpa using q))
theorem zE{a b:Ag}{W:TA}{p M:Cf}(hg:Gl X "range")(hm:X.mg "range" = none)(ha:PA X [a,b] W)(hs:AI [a,b] X.env=[(false,C4 a X.env),(false,C4 b X.env)]:=by rfl)(L:AI [b] X.env=[(false,C4 b X.env)]:=by rfl) :
 PI X tg (.Call (.Name "range" p) [a,b] [] M) (aHz W):=by
 intro G s Z H R I h;refine Call_ (eS I hg hm boot_range (BK (thn (ha M G s Z H _ I h) λus s1 ⟨vs,H1,I1,r1,U⟩=>?_) (by rw[hs,L]) (by rw[L];rfl)));obtain⟨i,j,e,⟨U,q2,q3,q4⟩,q⟩:=U;subst e;cases r1 with
 | cons r rr=>
  cases rr with
  | cons r' rr=>cases rr;obtain⟨t,rfl⟩:=r;obtain⟨t',rfl⟩:=r';exact call_range_2 (rO I1 U q2 q3 q4 q)
noncomputable def aKp(wi:TI)(g:TG)(tb:TS):TS:=λD Z H=>wi Z H λJ0 H1=>∃W:Nat->Nat->St->Hp->Prop,(∃m,W 0 m Z H1)/\∀i m Z H,W i m Z H ->
 (J0.stop i H/\D.nx Z H)\/(J0.go i H/\∃N:St->Hp->Prop,(∀Z' H',N Z' H'->∃m',m'<m/\W (i+1) m' Z' H')/\∀x H',J0.yld i H x H'->g x Z H' λZ2 H2=>tb { D with nx:=N,ct:=N,bk:=D.nx } Z2 H2)
noncomputable def jB(fp:List Addr)(h:Heap):List (Addr×Obj):=fp.filterMap λb=>(h.get? b).map λo=>(b,o)
theorem dR{fp:List Addr}{h:Heap}{b:Addr}{o:Obj}(hb:b∈fp)(e:h.get? b=some o):(b,o)∈jB fp h:=Cp.mpr ⟨b,hb,by rw[e];rfl⟩
theorem zF{fp:List Addr}{h:Heap}{p:Addr×Obj}(L:p∈jB fp h):p.1∈fp/\h.get? p.1=some p.2:=by
 obtain⟨b,hb,e⟩:=Cp.mp L;cases q:h.get? b with
 | none=>rw[q] at e;cases e|some o=>rw[q] at e;have I:(b,o)=p:=Ah e;subst I;exact⟨hb,q⟩
theorem Inv.pinned{G:List (Addr×Obj)}{Z:St}{H:Hp}{s:Ad}{fp:List Addr}(I:Inv X G Z H s)(hf:∀b∈fp,iG X G H b)(L:∀b∈fp,∃o,s.heap.get? b=some o/\∀v,o.data≠.cell v):Inv X (G++jB fp s.heap) Z H s:=
 I.pins_of λp M=>(Bc.mp M).elim (λz=>I.pin p (Aq _ z)) λz=>by obtain⟨hb,e⟩:=zF z;obtain⟨f0,f1,f2,_⟩:=hf p.1 hb;obtain⟨o,q,d⟩:=L p.1 hb;rw[e] at q;cases q;exact⟨e,f0,f1,f2,d⟩
theorem Inv.unpinned{G pl:List (Addr×Obj)}{Z:St}{H:Hp}{s:Ad}(I:Inv X (G++pl) Z H s):Inv X G Z H s:=I.pins_of λp q=>I.pin p (Aq _ (AC _ q))
theorem uO{q0:Ag}{body:List B5}{wi:TI}{g:TG}{tb:TS}{w4:Cf}(hp:BE (Au X.prog X.w) X.A X.env X.xe)(hc:X.calm=true)(hi:PI X tg q0 wi)(hg:PG X tg g)(hb:PSs X body tb)
 (hs:∀x,Bx q0 X.env x=pure x:=by intro _;rfl):PS X (.For tg q0 body [] w4) (aKp wi g tb):=by
 intro G s Z H D I h;refine wpAny_For (thn (hi G s Z H _ I h) λv s1 h1=>thn h1 λw6 s2 h2=>?_) hs;obtain⟨it,fp,tn,J0,H2,e,I2,T,w5,f2,W,⟨m0,w0⟩,q5⟩:=h2;subst e;have q1:∀{H':Hp},(∀b∈fp,H' b=none)->∀b∈fp,iG X G H' b:=λhn b hb=>⟨hn b hb,(f2 b hb).2⟩
 refine codeAny_forLoop_any (λn s'=>∃i Z' H',Inv X G Z' H' s'/\tn i s'.heap/\(∀b∈fp,H' b=none)/\W i n Z' H') ?_ m0 ⟨0,Z,H2,I2,w5,λb hb=>(f2 b hb).1,w0⟩;rintro n s3 ⟨i,Z3,H3,I3,q4,q3,w3⟩;rcases q5 i n Z3 H3 w3 with⟨stop,qn⟩|⟨go,N,hN,step⟩
 refine CK hp (thn (T.done X rfl rfl rfl hc i G s3 Z3 H3 X.xe I3 (q1 q3) q4 stop) λr s4 ⟨hr,I4⟩=>?_);subst hr;exact CJ ⟨Z3,H3,I4,qn⟩;refine CK hp (thn (T.item X rfl rfl rfl hc i G s3 Z3 H3 X.xe I3 (q1 q3) q4 go) λr s4 ⟨u,hr,h4⟩=>?_);subst hr;refine CK hp (thn h4 λ_ s5 ⟨x,H5,I5,r5,y5,q2,q9⟩=>?_);have q8:=I5.pinned (q1 q9) (T.obj _ _ q2);refine CK hp (thn (hg _ s5 Z3 H5 x u _ q8 r5 (step x H5 y5)) λ_ s6 ⟨Z6,H6,I6,q6⟩=>?_);refine CK hp (thn (hb _ s6 Z6 H6 _ I6 q6) λf s7 q7=>?_);have U:∀{M:St} {q:Hp},Inv X (G++jB fp s5.heap) M q s7->N M q->∃m,m<n/\∃i Z' H',Inv X G Z' H' s7/\tn i s7.heap/\(∀b∈fp,H' b=none)/\W i m Z' H':=λ{M q} L n7=>by obtain⟨m',hm,w7⟩:=hN M q n7;refine⟨m',hm,i+1,M,q,L.unpinned,T.keep _ _ _ q2 λb hb o e=>(L.pin (b,o) (Aq _ (Aq _ (dR hb e)))).1,λb hb=>?_,w7⟩;obtain⟨o,e,d⟩:=T.obj _ _ q2 b hb;exact(L.pin (b,o) (Aq _ (Aq _ (dR hb e)))).2.1
 cases f with
 | next=>obtain⟨M,q,L,n7⟩:=q7;exact U L n7|cont=>obtain⟨M,q,L,n7⟩:=q7;exact U L n7|brk=>obtain⟨M,q,L,q7⟩:=q7;exact⟨M,q,L.unpinned,q7⟩|ret v=>obtain⟨x7,M,q,L,r7,q7⟩:=q7;exact⟨x7,M,q,L.unpinned,r7,q7⟩
end
abbrev R2:=V->V->Hp->VK->Prop
noncomputable def OpR(X:Cx)(f:Value->Value->Ht Value)(r:R2):Prop:=
 ∀(G:List (Addr×Obj)) (s:Ad) (Z:St) (H:Hp) (x y:V) (v u:Value) (Q:VK),Inv X G Z H s->bC x v->bC y u->r x y H Q ->
  Ao (Au X.prog X.w) X.A (f v u) (EP X G Z Q) X.xe s
noncomputable def UnR(X:Cx)(f:Value->Ht Value)(r:V->Hp->VK->Prop):Prop:=
 ∀(G:List (Addr×Obj)) (s:Ad) (Z:St) (H:Hp) (x:V) (v:Value) (Q:VK),Inv X G Z H s->bC x v->r x H Q ->
  Ao (Au X.prog X.w) X.A (f v) (EP X G Z Q) X.xe s
noncomputable def eJ(X:Cx)(f:Value)(r:List V->Hp->VK->Prop):Prop:=
 ∀(G:List (Addr×Obj)) (s:Ad) (Z:St) (H:Hp) (xs:List V) (us:List Value) (Q:VK),Inv X G Z H s->aQ xs us->r xs H Q ->
  Ao (Au X.prog X.w) X.A (call f us) (EP X G Z Q) X.xe s
noncomputable def aKq(X:Cx)(r:V->Hp->(Bool->Hp->Prop)->Prop):Prop:=
 ∀(G:List (Addr×Obj)) (s:Ad) (Z:St) (H:Hp) (x:V) (v:Value) (Q:Bool->Hp->Prop),Inv X G Z H s->bC x v->r x H Q ->
  Ao (Au X.prog X.w) X.A (truthy v) (TP X G Z Q) X.xe s
noncomputable def tOp(r:R2)(ta tb:TE):TE:=λZ H Q=>ta Z H λx H1=>tb Z H1 λy H2=>r x y H2 Q
noncomputable def tUn(r:V->Hp->VK->Prop)(ta:TE):TE:=λZ H Q=>ta Z H λx H1=>r x H1 Q
noncomputable def rI(C:Int->Int->Prop)(g:Int->Int->V):R2:=λx y H Q=>∃i j,x=.int i/\y=.int j/\C i j/\Q (g i j) H
noncomputable def rI0(g:Int->Int->V):R2:=λx y H Q=>∃i j,x=.int i/\y=.int j/\Q (g i j) H
noncomputable def rU(g:Int->V):V->Hp->VK->Prop:=λx H Q=>∃i,x=.int i/\Q (g i) H
section
variable {X:Cx} {a b c:Ag} {ta tb tc:TE} {pos:Cf}
theorem aHA(ha:PE X a ta)(hb:PE X b tb){G:List (Addr×Obj)}{s:Ad}{Z:St}{H:Hp}{R:V->V->Hp->Prop}(I:Inv X G Z H s)
 (h:ta Z H λx H1=>tb Z H1 λy q=>R x y q) {Q:Value->Ad->Prop} {f:Value->Value->Ht Value}
 (hf:∀v u s2 x y q,Inv X G Z q s2->bC x v->bC y u->R x y q->Ao (Au X.prog X.w) X.A (f v u) Q X.xe s2) :
 Ao (Au X.prog X.w) X.A (C4 a X.env) (λv L=>Ao (Au X.prog X.w) X.A (C4 b X.env) (λu M=>Ao (Au X.prog X.w) X.A (f v u) Q X.xe M) X.xe L) X.xe s:=by refine thn (ha G s Z H _ I h) λv s1 ⟨x,H1,U,r1,q1⟩=>?_;refine thn (hb G s1 Z H1 _ U q1) λu s2 ⟨y,q,W,r2,q2⟩=>?_;exact hf v u s2 x y q W r1 r2 q2
theorem aHB{op:UnaryOp}{r:V->Hp->VK->Prop}(M:UnR X (unaryOp op) r)(L:PE X a ta):PE X (.UnaryOp op a pos) (tUn r ta):=by intro G s Z H Q I h;exact UnaryOp_ (thn (L G s Z H _ I h) λv s1 ⟨x,H1,q,r1,U⟩=>M G s1 Z H1 x v Q q r1 U)
theorem opI{f:Value->Value->Ht Value}{C:Int->Int->Prop}{g:Int->Int->Int}
 (L:∀(i j:Int) (t u:HS) (s:Ad) (Q:Value->Ad->Prop) (E:Value->Ad->Prop),C i j->Q (.int (g i j) s.toks) { s with toks:=s.toks+1 }->Ao (Au X.prog X.w) X.A (f (.int i t) (.int j u)) Q E s) :
 OpR X f (rI C λi j=>.int (g i j)):=by intro G s Z H x y v u Q I U W h;obtain⟨i,j,rfl,rfl,M,q⟩:=h;obtain⟨t,rfl⟩:=U;obtain⟨t',rfl⟩:=W;exact L i j t t' s _ _ M ⟨.int (g i j),H,I.tok _,⟨_,rfl⟩,q⟩
theorem aHC{f:Value->Value->Ht Value}{g:Int->Int->Int}
 (L:∀(i j:Int) (t u:HS) (s:Ad) (Q:Value->Ad->Prop) (E:Value->Ad->Prop),Q (.int (g i j) s.toks) { s with toks:=s.toks+1 }->Ao (Au X.prog X.w) X.A (f (.int i t) (.int j u)) Q E s) :
 OpR X f (rI0 λi j=>.int (g i j)):=by intro G s Z H x y v u Q I M U h;obtain⟨i,j,rfl,rfl,q⟩:=h;obtain⟨t,rfl⟩:=M;obtain⟨t',rfl⟩:=U;exact L i j t t' s _ _ ⟨.int (g i j),H,I.tok _,⟨_,rfl⟩,q⟩
theorem aFc{f:Value->Value->Ht Value}{g:Int->Int->Bool}
 (L:∀(i j:Int) (t u:HS) (s:Ad) (Q:Value->Ad->Prop) (E:Value->Ad->Prop),Q (.bool (g i j)) s->Ao (Au X.prog X.w) X.A (f (.int i t) (.int j u)) Q E s) :
 OpR X f (rI0 λi j=>.bl (g i j)):=by intro G s Z H x y v u Q I M U h;obtain⟨i,j,rfl,rfl,q⟩:=h;obtain⟨t,rfl⟩:=M;obtain⟨t',rfl⟩:=U;exact L i j t t' s _ _ ⟨.bl (g i j),H,I,rfl,q⟩
noncomputable def aKr(i j:Int):Prop:=0<j/\j<1073741824
noncomputable def aFd(i j:Int):Prop:=(-(2 ^ 64)<i/\i<2 ^ 64)\/(-(2 ^ 64)<j/\j<2 ^ 64)
theorem aFd.ok{i j:Int}(h:aFd i j):IntMulOk i j:=by
 rcases h with⟨q,I⟩|⟨q,I⟩
 exact .of_left (Gv q I);exact .of_right (Gv q I)
theorem aFe:OpR X (Cu .Add) (rI0 λi j=>.int (i+j)):=aHC λ_ _ _ _ _ _ _ q=>add_int q
theorem aFf:OpR X (Cu .Sub) (rI0 λi j=>.int (i-j)):=aHC λ_ _ _ _ _ _ _ q=>sub_int q
theorem aFg:OpR X (Cu .Mult) (rI aFd λi j=>.int (i*j)):=opI λ_ _ _ _ _ _ _ I q=>mul_int q I.ok
theorem aCO:OpR X (Cu .FloorDiv) (rI aKr λi j=>.int (i / j)):=opI λi j _ _ _ _ _ I q=>by have L:(0:Int)<j:=I.1;have M:j<1073741824:=I.2;exact floordiv_int (by omega) (by rw[Int.fdiv_eq_ediv_of_nonneg i (by omega)];exact q) (.inl (PyProof.noPylong_small (by omega)))
theorem aFh:OpR X (Cu .Mod) (rI (λ_ j=>0<j) λi j=>.int (i % j)):=opI λi j _ _ _ _ _ I q=>by have L:(0:Int)<j:=I;exact mod_int' (by omega) (by rw[Int.fmod_eq_emod_of_nonneg i (by omega)];exact q)
theorem unI{f:Value->Ht Value}{g:Int->Int}
 (L:∀(i:Int) (t:HS) (s:Ad) (Q:Value->Ad->Prop) (E:Value->Ad->Prop),Q (.int (g i) s.toks) { s with toks:=s.toks+1 }->Ao (Au X.prog X.w) X.A (f (.int i t)) Q E s) :
 UnR X f (rU λi=>.int (g i)):=by intro G s Z H x v Q I M h;obtain⟨i,rfl,q⟩:=h;obtain⟨t,rfl⟩:=M;exact L i t s _ _ ⟨.int (g i),H,I.tok _,⟨_,rfl⟩,q⟩
theorem aFi:UnR X (unaryOp .USub) (rU λi=>.int (-i)):=unI λ_ _ _ _ _ q=>neg_int q
theorem aFj{G:List (Addr×Obj)}{Z:St}{H:Hp}{s:Ad}{Q:VK}{k L:Bool}(I:Inv X G Z H s)(q:Q (.bl k) H)(e:k=L):EP X G Z Q (.bool L) s:=by subst e;exact⟨.bl k,H,I,rfl,q⟩
theorem aHD:OpR X (BV .Lt) (rI0 λi j=>.bl (decide (i<j))):=aFc λ_ _ _ _ _ _ _ q=>lt_int q
theorem aHE:OpR X (BV .LtE) (rI0 λi j=>.bl (decide (i<=j))):=aFc λ_ _ _ _ _ _ _ q=>le_int q
theorem aHF:OpR X (BV .Gt) (rI0 λi j=>.bl (decide (j<i))):=aFc λ_ _ _ _ _ _ _ q=>gt_int q
theorem aFk:OpR X (BV .Is) (λx y H Q=>y=.non/\Q (.bl (decide (x=.non))) H):=by
 intro G s Z H x y v u Q I L M h;obtain⟨rfl,q⟩:=h;cases M;refine is_none_gen (aFj I q ?_);cases x <;> first
  | (cases L;rfl)
  | (obtain⟨t,rfl⟩:=L;rfl)
theorem vY{op:CmpOp}{r:R2}(W:OpR X (BV op) r)(U:PE X a ta)(hb:PE X b tb)(hm:ED op b=false):PE X (.Compare a [op] [b] pos) (tOp r ta tb):=by intro G s Z H Q I h;exact wpAny_Compare1 (aHA U hb I h λv u s2 x y L M rx ry q=>W G s2 Z L x y v u Q M rx ry q) hm
noncomputable def aEa(t:TE):TT:=λZ H Q=>t Z H λx H'=>∃k,x=.bl k/\Q k H'
theorem vZ{op:CmpOp}{r:R2}(ho:OpR X (BV op) r)(ha:PE X a ta)(hb:PE X b tb)(hm:ED op b=false):PT X (.Compare a [op] [b] pos) (aEa (tOp r ta tb)):=by
 intro G s Z H Q I h;refine wpAny_isTrue_Compare1 (thn (ha G s Z H _ I h) λv s1 ⟨x,H1,M,r1,q1⟩=>thn (hb G s1 Z H1 _ M q1) λu s2 ⟨y,q,U,r2,q2⟩=>
  thn (ho G s2 Z q x y v u _ U r1 r2 q2) λc s3 ⟨z,L,W,r3,k,e,q3⟩=>?_) hm
 subst e;cases r3;exact BD ⟨L,W,q3⟩
noncomputable def aAy(r r':R2)(ta tb tc:TE):TE:=λZ H Q=>ta Z H λx H1=>tb Z H1 λy H2=>r x y H2 λz H3=>∃k,z=.bl k /\
 (if k=true then tc Z H3 λw' H4=>r' y w' H4 Q else Q (.bl false) H3)
theorem aAz{op q:CmpOp}{r r':R2}(ho:OpR X (BV op) r)(L:OpR X (BV q) r')(ha:PE X a ta)(hb:PE X b tb)(hc:PE X c tc)
 (hm:GC [op,q] [b,c]=false:=by with_unfolding_all rfl):PE X (.Compare a [op,q] [b,c] pos) (aAy r r' ta tb tc):=by
 intro G s Z H Q I h;refine Compare_chain (thn (ha G s Z H _ I h) λv s1 ⟨x,H1,I1,r1,q1⟩=>chain_link (thn (hb G s1 Z H1 _ I1 q1) λu s2 ⟨y,H2,I2,r2,q2⟩=>
  thn (ho G s2 Z H2 x y v u _ I2 r1 r2 q2) λd s3 ⟨z,M,U,r3,k,e,W⟩=>?_)) hm
 subst e;cases r3;refine BD ?_;cases k with
 | false=>exact ite_ff ⟨.bl false,M,U,rfl,W⟩|true=>exact ite_tt (chain_last (thn (hc G s3 Z M _ U W) λw' s4 ⟨z',H4,I4,r4,q4⟩=>L G s4 Z H4 y z' u w' Q I4 r2 r4 q4))
theorem aAA{op q:CmpOp}{r r':R2}(ho:OpR X (BV op) r)(L:OpR X (BV q) r')(ha:PE X a ta)(hb:PE X b tb)(hc:PE X c tc)
 (hm:GC [op,q] [b,c]=false:=by with_unfolding_all rfl):PT X (.Compare a [op,q] [b,c] pos) (aEa (aAy r r' ta tb tc)):=by
 intro G s Z H Q I h;refine isTrue_chain (thn (ha G s Z H _ I h) λv s1 ⟨x,H1,I1,r1,q1⟩=>test_link (thn (hb G s1 Z H1 _ I1 q1) λu s2 ⟨y,H2,I2,r2,q2⟩=>
  thn (ho G s2 Z H2 x y v u _ I2 r1 r2 q2) λd s3 ⟨z,M,U,r3,k,e,W⟩=>?_)) hm
 subst e;cases r3;refine BD ?_;cases k with
 | false=>obtain⟨k',e',q'⟩:=W;cases e';exact ite_ff ⟨M,U,q'⟩|true=>refine ite_tt (test_last (thn (hc G s3 Z M _ U W) λw' s4 ⟨z',H4,I4,r4,q4⟩=>thn (L G s4 Z H4 y z' u w' _ I4 r2 r4 q4) λd' s5 ⟨z2,H5,I5,r5,k2,e2,q5⟩=>?_));subst e2;cases r5;exact BD ⟨H5,I5,q5⟩
noncomputable def aCP(K:Ai)(x:V)(H:Hp)(k:Bool):Prop:=
 match x with
 | .non=>k=false|.bl b=>k=b|.int i=>k=(i != 0)
 | .str y=>y.length<=sizeLine/\k=((y.length:Int) != 0)
 | .byt y=>y.size<=sizeLine/\k=((y.size:Int) != 0)
 | .ref p=>(∃xs,SqL K H p xs/\k=!xs.isEmpty)\/(∃xs,SqT K H p xs/\k=!xs.isEmpty)\/∃kvs,H p=some (.dK kvs)/\k=!kvs.isEmpty|_=>False
theorem uP{q:Type}{kvs:List (q×V)}{vs:List (q×Value)}(r:KV kvs vs):(!vs.isEmpty)=!kvs.isEmpty:=by cases r <;> rfl
theorem lO{xs:List V}{q:List Value}(r:aQ xs q):(!q.toArray.isEmpty)=!xs.isEmpty:=by cases r <;> simp
theorem hU:(sizeLine:Nat)<2 ^ 63:=by rw[AW];decide
theorem aAB:aKq X (λx H Q=>∃k,aCP X.K x H k/\Q k H):=by
 intro G s Z H x v Q I U h;obtain⟨k,e,q⟩:=h;have hl:=hU;have hs:sizeLine=16777216:=AW;cases x with
 | non=>cases U;have L:k=false:=e;subst L;exact truthy_none ⟨H,I,q⟩|bl b=>cases U;have L:k=b:=e;subst L;exact BD ⟨H,I,q⟩|int i=>obtain⟨t,rfl⟩:=U;have L:k=(i != 0):=e;subst L;exact PySem.P.truthy_int ⟨H,I,q⟩|str y=>obtain⟨t,rfl⟩:=U;obtain⟨hy,L⟩:y.length<=sizeLine/\k=((y.length:Int) != 0):=e;subst L;exact PySem.P.truthy_str (by omega) ⟨H,I.tok _,q⟩|byt y=>obtain⟨t,rfl⟩:=U;obtain⟨hy,L⟩:y.size<=sizeLine/\k=((y.size:Int) != 0):=e;subst L;exact PySem.W.truthy_bytes (by omega) ⟨H,I.tok _,q⟩|ref p=>
  cases U;have L:(∃xs,SqL X.K H p xs/\k=!xs.isEmpty)\/(∃xs,SqT X.K H p xs/\k=!xs.isEmpty)\/∃kvs,H p=some (.dK kvs)/\k=!kvs.isEmpty:=e;rcases L with⟨xs,W,L⟩|⟨xs,W,L⟩|⟨kvs,W,L⟩
  subst L;obtain⟨q0,r,pl,hz⟩:=I.list W;have M:=r.length;exact wpAny_truthy_list pl.isList (by simp only[Ak];omega) ⟨H,I.tok _,by rw[lO r];exact q⟩;subst L;obtain⟨q0,r,pl,hz⟩:=I.tuple W;have M:=r.length;exact truthy_tuple pl (by simp only[Ak];omega) ⟨H,I.tok _,by rw[lO r];exact q⟩;subst L;obtain⟨hz,hS,vs,r,m⟩:kvs.length<=sizeLine/\(p==Dd)=false/\∃vs,KV kvs vs/\s.heap.DictOf (dN X.prog X.w) p vs:=I.hok p _ W;have M:kvs.length=vs.length:=Gs r;exact wpAny_truthy_dict hS m (by omega) ⟨H,I.tok _,by rw[uP r];exact q⟩
 | _=>exact(show False from e).elim
theorem aAC(M:PE X a ta)(U:∀q,isTrue a X.env q=(do let v<-q;HD a.pos;Fh [v] (truthy v))) :
 PT X a (λZ H Q=>ta Z H λx H'=>∃k,aCP X.K x H' k/\Q k H'):=by intro G s Z H Q I h;exact isTrue_plain (thn (M G s Z H _ I h) λv s1 ⟨x,H1,L,r1,W⟩=>aAB G s1 Z H1 x v Q L r1 W) (U _)
theorem uQ:OpR X (Cu .Add) (λx y H Q=>∃i j,x=.str i/\y=.str j/\i.length+j.length<=sizeLine/\Q (.str (i++j)) H):=by intro G s Z H x y v u Q I M U h;obtain⟨i,j,rfl,rfl,L,q⟩:=h;obtain⟨t,rfl⟩:=M;obtain⟨t',rfl⟩:=U;exact add_str (λt' tk=>⟨.str (i++j),H,I.tok _,⟨_,rfl⟩,q⟩) L
theorem nS{x:V}{us:List Value}(r:aQ [x] us):∃u,us=[u]/\bC x u:=by
 cases r with
 | cons r1 q=>cases q;exact⟨_,rfl,r1⟩
theorem aHG{x y:V}{us:List Value}(r:aQ [x,y] us):∃u q,us=[u,q]/\bC x u/\bC y q:=by
 cases r with
 | cons r1 I=>
  cases I with
  | cons L M=>cases M;exact⟨_,_,rfl,r1,L⟩
theorem zG(M:X.calm=true):eJ X (.builtin "min") (λxs H Q=>∃i j,xs=[.int i,.int j]/\Q (.int (if j<i then j else i)) H):=by
 intro G s Z H xs us Q I r h;obtain⟨i,j,rfl,q⟩:=h;obtain⟨u,U,rfl,⟨t,rfl⟩,⟨t',rfl⟩⟩:=aHG r;refine min_two_ints (I.ok.hd M) λh' tk k=>⟨_,H,I.kept k,?_,q⟩
 by_cases L:j<i;rw[if_pos L,if_pos L];exact⟨_,rfl⟩;rw[if_neg L,if_neg L];exact⟨_,rfl⟩
theorem zH:eJ X (.type "int") (λxs H Q=>(∃i,xs=[.int i]/\Q (.int i) H)\/∃k,xs=[.bl k]/\Q (.int (if k then 1 else 0)) H):=by
 intro G s Z H xs us Q I r h;rcases h with⟨i,rfl,q⟩|⟨k,rfl,q⟩
 obtain⟨u,rfl,t,rfl⟩:=nS r;exact call_int_int ⟨.int i,H,I,⟨_,rfl⟩,q⟩;obtain⟨u,rfl,r1⟩:=nS r;cases r1;exact call_int_bool ⟨.int (if k then 1 else 0),H,I.tok _,⟨_,rfl⟩,q⟩
end
structure jC (k:Nat) (A:AY):Prop where
 hd:A.handled=none
 gd:A.guards=some []
 dp:A.depth+3*k+5<FW
 un:A.units+16*k+200<GD
theorem jC.deeper{k:Nat}{A:AY}(r:jC (k+1) A)(env:En):jC k (A.deeper env):=
 ⟨r.hd,r.gd,by have:=r.dp;show A.depth+1+3*k+5<_;omega,by have:=r.un;show A.units+3+16*k+200<_;omega⟩
theorem jC.depth{k:Nat}{A:AY}(r:jC k A):A.depth<FW:=by have:=r.dp;omega
noncomputable def aFl:TA:=λ_ H Q=>Q [] H
noncomputable def wB(ta:TE)(tr:TA):TA:=λZ H Q=>ta Z H λx H1=>tr Z H1 λxs H2=>Q (x::xs) H2
section
variable {X:Cx} {e:Ag} {es:List Ag} {te:TE} {t:TA} {pos:Cf}
theorem dG:PA X [] aFl:=λ_ _ _ _ H Q I h=>D7 ⟨[],H,I,.nil,h⟩
theorem cD(U:PE X e te)(W:PA X es t)(hs:AI (e::es) X.env=(false,C4 e X.env)::AI es X.env:=by rfl):PA X (e::es) (wB te t):=by intro pos G s Z H Q I h;rw[hs];show Ao _ _ (Fe ((false,C4 e X.env)::CW pos (AI es X.env))) _ _ s;refine Cq (thn (U G s Z H _ I h) λu s1 ⟨x,H1,L,r1,q1⟩=>?_);exact thn (W pos G s1 Z H1 _ L q1) λus s2 ⟨xs,q,M,r2,q2⟩=>⟨x::xs,q,M,.cons r1 r2,q2⟩
noncomputable def aHH(t:TA):TE:=λZ H Q=>t Z H λxs H1=>xs.length<=sizeLine/\∀p,H1 p=none->Q (.ref p) (upd H1 p (.tup xs))
noncomputable def aKs(t:TA):TE:=λZ H Q=>t Z H λxs H1=>xs.length<=sizeLine/\∀p,H1 p=none->Q (.ref p) (upd H1 p (.lst xs))
theorem pJ{x1}(h:PA X es t):PE X (.Tuple es x1 pos) (aHH t):=by intro G s Z H Q I M;refine wpAny_Tuple_spliced (thn (h pos G s Z H _ I M) λus s1 ⟨xs,H1,L,r,z,q⟩=>⟨by rw[<-r.length];exact z,?_⟩);have hf:H1 s1.heap.objs.size=none:=L.hok.fresh (An _);refine⟨.ref s1.heap.objs.size,upd H1 s1.heap.objs.size (.tup xs),L.laid (t':=s1.toks) (λb u e=>Ab _ e) (An _) ?_,rfl,q _ hf⟩;exact⟨z,us,r,⟨_,A0 _ rfl,rfl,_,rfl⟩⟩
theorem aAD(h:PA X es t):PE X (.List es pos) (aKs t):=by intro G s Z H Q I M;refine wpAny_List_spliced (thn (h pos G s Z H _ I M) λus s1 ⟨xs,H1,L,r,z,q⟩=>⟨by rw[<-r.length];exact z,?_⟩);have hf:H1 s1.heap.objs.size=none:=L.hok.fresh (An _);refine⟨.ref s1.heap.objs.size,upd H1 s1.heap.objs.size (.lst xs),L.laid (t':=s1.toks) (λb u e=>Ab _ e) (An _) ?_,rfl,q _ hf⟩;exact⟨z,us,0,r,A0 _ rfl⟩
end
abbrev Sp:=List V->Hp->VK->XK->Prop
abbrev CXT:=List En->Hp->Ad->XK->Value->Ad->Prop
structure aCQ (P:A5) (w:AM) (K:Ai) (mg:Str->Option Value) (base:Heap) (A:AY) (outer:List En) (s:Ad) (H:Hp):Prop where
 frames:A.frames=some outer
 mod:Mod K mg base
 bs:∀b o,base.get? b=some o->s.heap.get? b=some o/\H b=none
 bsz:base.objs.size<=s.heap.objs.size
 funs:s.heap.FunFrames base outer
 frf:∀b∈frs outer,H b=none
 hok:HOk P w H s.heap
 bare:Dr s.gens
noncomputable def CE(outer:List En)(P:A5)(w:AM)(H:Hp)(s:Ad)(Q:VK)(u:Value)(s':Ad):Prop:=
 ∃v H',s'.os=s.os/\Dr s'.gens/\Un (frs outer) [] H H' s.heap s'.heap/\HOk P w H' s'.heap/\bC v u/\Q v H'
noncomputable def CR(CX:CXT)(outer:List En)(P:A5)(w:AM)(H:Hp)(s:Ad)(Q:VK)(E:XK)(r:Hy)(s':Ad):Prop:=
 match r with
 | .ok (.ret u)=>CE outer P w H s Q u s'|.ok _=>False|.error e=>CX outer H s E e s'
structure nJ (P:A5) (w:AM) (K:Ai) (mg:Str->Option Value) (base:Heap) (CX:CXT) (k:Nat) (f:Addr) (fd:Cv) (ps:List Str) (sp:Sp):Prop where
 len:∀vs H Q E,sp vs H Q E->vs.length=ps.length
 run:∀(A:AY) (outer:List En) (s:Ad) (H:Hp) (args:Args) (us:List Value) (vs:List V) (Q:VK) (E:XK),jC k A->aCQ P w K mg base A outer s H->GK s fd args (ps.zip us)->aQ vs us->sp vs H Q E ->
  D8 (Au P w) A (.call (.ref f) args) (CR CX outer P w H s Q E) s
section
variable {X:Cx} {G:List (Addr×Obj)} {Z:St} {H:Hp} {s s':Ad}
theorem Inv.env0(I:Inv X G Z H s):aCQ X.prog X.w X.K X.mg X.base X.A X.stack s H:=
 ⟨I.ok.frames,I.ok.mod,I.bs,AH I.ok.bsz I.sz,I.stack,I.stkFree,I.hok,I.bare⟩
theorem Inv.after{Q:VK}{u:Value}(I:Inv X G Z H s)(h:CE X.stack X.prog X.w H s Q u s'):EP X G Z Q u s':=by obtain⟨v,H',os,bare,un,hok,r,q⟩:=h;obtain⟨M,g,d,t,L⟩:=s';obtain rfl:L=s.os:=os;exact⟨v,H',I.call (h':=M) (g':=g) (d':=d) (t':=t) (ch:=[]) un hok bare (λb z=>absurd z (by simp)),r,q⟩
end
noncomputable def iH(K:Ai)(fd:Cv)(ps:List Str)(ds:List Value):Prop:=
 ∀(s:Ad) (us:List Value),K.In s.heap->(us++ds).length=ps.length->GK s fd ⟨us,[]⟩ (ps.zip (us++ds))
theorem iH.all{K:Ai}{fd:Cv}{ps:List Str}(h:∀us:List Value,us.length=ps.length->FX fd ⟨us,[]⟩=pure (ps.zip us)):iH K fd ps []:=λs us _ q=>by rw[BH] at q ⊢;exact .of_eq (h us q)
structure pK (N P:List Str) (sc:Ck):Prop where
 kind:sc.kind=.function
 co:sc.isCoroutine=false
 gen:sc.isGenerator=false
 nd:N.Nodup
 pre:N.take P.length=P
 par:∀x∈P,sc.names.lookup x=some .local\/sc.names.lookup x=some .cell
 nofree:∀y∈sc.names,y.2≠.free
theorem nT{kindOf:Str->Option BA}{x:Str}:∀{binds:List (Str×Value)} {m:Str->Option Value},(∀v,(x,v)∉binds)->FY kindOf binds m x=m x
 | [],_,_=>rfl|(n,v)::r,m,h=>by
  unfold FY;rw[nT λw q=>h w (Af _ q)];split;have:x≠n:=by rintro rfl;exact h v Aj
  simp[this];rfl
theorem nU{kindOf:Str->Option BA}{x:Str}:∀{binds:List (Str×Value)} {m:Str->Option Value},(∀v,(x,v)∉binds)->FZ kindOf binds m x=m x
 | [],_,_=>rfl|(n,v)::r,m,h=>by
  unfold FZ;rw[nU λw q=>h w (Af _ q)];split;rfl;have:x≠n:=by rintro rfl;exact h v Aj
  simp[this]
theorem nV{kindOf:Str->Option BA}{x:Str}{v:Value}:∀{P:List Str} {vs:List Value} {i:Nat} {m:Str->Option Value},P.Nodup->P[i]? = some x->vs[i]? = some v->kindOf x=some .local ->
 FY kindOf (P.zip vs) m x=some v
 | [],_,_,_,_,h,_,_=>by simp at h|_::_,[],_,_,_,_,h,_=>by simp at h|p::P,w::vs,0,m,nd,h1,h2,hk=>by simp at h1 h2;subst h1;subst h2;show FY kindOf ((p,w)::P.zip vs) m p=_;unfold FY;rw[nT λv q=>(Bd.mp nd).1 (Dm q).1,if_pos hk];simp|p::P,w::vs,i+1,m,nd,h1,h2,hk=>by show FY kindOf ((p,w)::P.zip vs) m x=_;unfold FY;exact nV (i:=i) (Bd.mp nd).2 (by simpa using h1) (by simpa using h2) hk
theorem nW{kindOf:Str->Option BA}{x:Str}{v:Value}:∀{P:List Str} {vs:List Value} {i:Nat} {m:Str->Option Value},P.Nodup->P[i]? = some x->vs[i]? = some v->kindOf x≠some .local ->
 FZ kindOf (P.zip vs) m x=some v
 | [],_,_,_,_,h,_,_=>by simp at h|_::_,[],_,_,_,_,h,_=>by simp at h|p::P,w::vs,0,m,nd,h1,h2,hk=>by simp at h1 h2;subst h1;subst h2;show FZ kindOf ((p,w)::P.zip vs) m p=_;unfold FZ;rw[nU λv q=>(Bd.mp nd).1 (Dm q).1,if_neg hk];simp|p::P,w::vs,i+1,m,nd,h1,h2,hk=>by show FZ kindOf ((p,w)::P.zip vs) m x=_;unfold FZ;exact nW (i:=i) (Bd.mp nd).2 (by simpa using h1) (by simpa using h2) hk
noncomputable def start(N:List Str)(vs:List V):St:=vs.map some++Ae (N.length-vs.length) none
noncomputable def pL(CX:CXT)(P:A5)(w:AM)(K:Ai)(mg:Str->Option Value)(base:Heap)(N:List Str)(qual:Str)(scope:Ck)(f:Addr)(cd:Value)(A:AY)(outer:List En)(s:Ad)(H:Hp)(E:XK):Cx where
 prog:=P
 w:=w
 K:=K
 mg:=mg
 base:=base
 A:=A.deeper (envOfC qual scope s.heap.objs.size f cd)
 N:=N
 s₀:=s
 H₀:=H
 env:=envOfC qual scope s.heap.objs.size f cd
 outer:=outer
 stack:=envOfC qual scope s.heap.objs.size f cd::outer
 ex:=[]
 calm:=true
 fn:=λ_=>true
 pn:=[]
 xe:=λe s'=>Ao (Au P w) (A.deeper (envOfC qual scope s.heap.objs.size f cd)) (GL (envOfC qual scope s.heap.objs.size f cd) e) (λ_ s''=>CX outer H s E e s'') (λe' s''=>CX outer H s E e' s'') s'
theorem rP{sc:Ck}{n:Nat}{x:Str}(h:sc.names.lookup x=some .cell):∃c,(GF n sc.names []).lookup x=some c:=by have q:=DS sc.names n [] (.inl h);exact Br.mp q
theorem zI{CX:CXT}{P:A5}{w:AM}{K:Ai}{mg:Str->Option Value}{base:Heap}{N ps:List Str}{qual:Str}{scope:Ck}{f:Addr}{cd:Value}{A:AY}{outer:List En}{s s1:Ad}{H:Hp}{E:XK}{us:List Value}{vs:List V}
 (S:pK N ps scope) (hd:A.handled=none) (L:aCQ P w K mg base A outer s H) (hl:vs.length=ps.length) (r:aQ vs us)
 (x:InCallC s s.heap.objs.size (FY (envOfC qual scope s.heap.objs.size f cd).kindOf (ps.zip us) λ_=>none) (GF (s.heap.objs.size+1) scope.names []) (FZ (envOfC qual scope s.heap.objs.size f cd).kindOf (ps.zip us) λ_=>none) s1) :
 Inv (pL CX P w K mg base N qual scope f cd A outer s H E) [] (start N vs) H s1:=by
 have q1:ps.length<=N.length:=by have:=congrArg CQ S.pre;rw[Bv] at this;omega
 obtain⟨h1,tk,rfl,hk⟩:=x.done;have U:∀b:Addr,b∉(pL CX P w K mg base N qual scope f cd A outer s H E).ex:=λb z=>absurd (show b∈([]:List Addr) from z) (by simp);refine⟨⟨L.mod,S.kind,rfl,rfl,An _,λy z c h1 I=>?_,λy M=>?_,λy c _ h=>?_,λ_=>hd,Around.frames_deeper L.frames,.inr ⟨rfl,rfl⟩,λb z=>absurd z (U b),L.bs,L.bsz,λb _ _=>U b,λb z=>absurd z (U b),L.funs,L.frf⟩,
  rfl,L.bare,Un.kept hk,⟨_,x.toInCall.ns,λi y v h1 I h3=>?_⟩,λy c h=>⟨_,x.cell y c h⟩,L.hok.fresh (An _),λy c h=>?_,λp W=>absurd (show p∈([]:List (Addr×Obj)) from W) (by simp),L.hok.kept hk,?_⟩
 exact name_of_addr x.apart (Bf h1) (Bf I);have M:scope.names.lookup y=some .cell\/scope.names.lookup y=some .free:=M;rcases M with M|M;exact rP M;exact absurd rfl (S.nofree _ (Bf M));exact DP (x.above y c (Bf h));have hi:i<vs.length:=by unfold start at I;by_cases hi:i<vs.length;exact hi;rw[AN (by simpa using hi)] at I;rw[BF] at I;split at I <;> cases I
 have ha:vs[i]? = some v:=by
  unfold start at I;rw[Ba (by simpa using hi),A6] at I;cases e:vs[i]? with
  | none=>rw[e] at I;cases I|some a=>rw[e] at I;cases I;rfl
 obtain⟨u,hu,rv⟩:=r.get ha;have W:ps[i]? = some y:=by rw[<-S.pre,List.getElem?_take_of_lt (by omega)];exact h1
 have q0:ps.Nodup:=by rw[<-S.pre];exact S.nd.sublist (List.take_sublist _ _)
 refine⟨u,rv,?_⟩;rcases S.par y (List.mem_of_getElem? W) with k|k;exact .inl ⟨k,nV q0 W hu k⟩;obtain⟨c,e⟩:=rP (n:=s.heap.objs.size+1) k;refine .inr ⟨.inl k,c,e,?_⟩;have q:=x.cell y c e;rw[nW q0 W hu (by show scope.names.lookup y≠_;rw[k];decide)] at q;exact q;exact L.hok.fresh (DP (x.above y c (Bf h)));unfold start;show _=N.length;rw[CM,Ef,AO];omega
theorem aHI{CX:CXT}{P:A5}{w:AM}{K:Ai}{mg:Str->Option Value}{base:Heap}{k:Nat}{f:Addr}{name qual:Str}{L:E3}{body:List B5}{scope:Ck}{dV kV doc pm cdv ct oc:Value}{an od:Option Addr}
 {osl:Array (Option Value)} {N ps:List Str} {sp:Sp} (lk:K.lookup f=some ⟨oc,od,.func (DT name qual L body scope dV kV doc pm an cdv ct),osl⟩) (q2:Ga K cdv qual=true) (S:pK N ps scope)
 (len:∀vs H Q E,sp vs H Q E->vs.length=ps.length)
 (M:∀(A:AY) (outer:List En) (s:Ad) (H:Hp) (vs:List V) (Q:VK) (E:XK),jC k (A.deeper (envOfC qual scope s.heap.objs.size f cdv))->sp vs H Q E ->
  ∃t,PSs (pL CX P w K mg base N qual scope f cdv A outer s H E) body t/\t { nx:=λ_ H'=>Q .non H',rt:=Q } (start N vs) H) :
 nJ P w K mg base CX (k+1) f (DT name qual L body scope dV kV doc pm an cdv ct) ps sp:=by
 refine⟨len,λA outer s H args us vs Q E hr W hb r q1=>?_⟩;have hl:=len _ _ _ _ q1;have KX:K.In s.heap:=W.mod.kin.keeps λb o e=>(W.bs b o e).1;have lim:s.heap.NoLimit:=W.mod.nolimit.keeps λb o e=>(W.bs b o e).1;have U:∀y∈ps.zip us,scope.names.lookup y.1=some .local\/(scope.names.lookup y.1=some .cell/\((GF (s.heap.objs.size+1) scope.names []).lookup y.1).isSome=true):=λ⟨n,v⟩ hy=>by rcases S.par n (Dm hy).1 with q|q;exact .inl q;exact .inr ⟨q,DS _ _ _ (.inl q)⟩
 refine codeAny_call_function hr.depth (KX _ _ lk) rfl S.co S.gen rfl (PySem.W.codeRec_of KX q2) (hb _ _ _ _ ?_);refine wpAny_newFunctionEnv_cells S.kind U λenv he s1 x=>?_;subst he;refine⟨lim.keeps x.toInCall.keep,codeAny_func ?_⟩;obtain⟨t,ht,hq⟩:=M A outer s H vs Q E (hr.deeper _) q1;have I:Inv (pL CX P w K mg base N qual scope f cdv A outer s H E) [] (start N vs) H s1:=zI S hr.hd W hl r x;refine B6 (ht [] s1 (start N vs) H _ I hq) (λfl s' hs=>?_) λe s' hs=>hs;have q0:∀{Z':St} {H':Hp} {v:V} {u:Value},Inv (pL CX P w K mg base N qual scope f cdv A outer s H E) [] Z' H' s'->bC v u->Q v H'->CE outer P w H s Q u s':=
  λ{Z' H' v u} J0 rv q=>⟨v,H',J0.os,J0.bare,J0.base,J0.hok,rv,q⟩
 cases fl with
 | ret u=>obtain⟨v,Z',H',J0,rv,q⟩:=hs;exact q0 J0 rv q|next=>obtain⟨Z',H',J0,q⟩:=hs;exact q0 (v:=V.non) (u:=AG) J0 rfl q|brk=>obtain⟨_,_,_,q⟩:=hs;exact Cr q|cont=>obtain⟨_,_,_,q⟩:=hs;exact Cr q
section
variable {X:Cx} {x:Str} {p pos:Cf} {e:Ag} {es:List Ag} {t:TA} {id T:String} {r:List V->Hp->VK->Prop}
noncomputable def tCB(r:List V->Hp->VK->Prop)(t:TA):TE:=λZ H Q=>t Z H λvs H1=>r vs H1 Q
theorem rQ(W:eJ X (.builtin id) r)(hg:Gl X x)(hm:X.mg x=none)(hv:B8 x=some (.builtin id))(U:PA X (e::es) t)(hn:x ≠ "__name__" := by decide)(q:(x==("__debug__" : Str))=false:=by decide)
 (he:AI (e::es) X.env=(false,C4 e X.env)::AI es X.env:=by rfl) (L:(CW pos (AI es X.env)).any (·.1)=false:=by rfl):PE X (.Call (.Name x p) (e::es) [] pos) (tCB r t):=by intro G s Z H Q I h;refine Bu (eS I hg hm hv ?_ hn q);exact Ch (thn (U pos G s Z H _ I h) λus s1 ⟨vs,H1,M,r1,q1⟩=>W G s1 Z H1 vs us Q M r1 q1) he L
theorem gI(W:eJ X (.type T) r)(hg:Gl X x)(hm:X.mg x=none)(hv:B8 x=some (.type T))(U:PA X (e::es) t)(hn:x ≠ "__name__" := by decide)(q:(x==("__debug__" : Str))=false:=by decide)
 (he:AI (e::es) X.env=(false,C4 e X.env)::AI es X.env:=by rfl) (L:(CW pos (AI es X.env)).any (·.1)=false:=by rfl):PE X (.Call (.Name x p) (e::es) [] pos) (tCB r t):=by intro G s Z H Q I h;refine Bu (eS I hg hm hv ?_ hn q);exact BK (thn (U pos G s Z H _ I h) λus s1 ⟨vs,H1,M,r1,q1⟩=>W G s1 Z H1 vs us Q M r1 q1) he L
end
end L2
namespace HT
open PySem PyProof.Rows
section
variable {prog:A5} {w:AM} {A:AY} {E:Value->Ad->Prop} {s:Ad}
theorem cat_tup{t b:Addr}{vs ws:List Value}{Q:Value->Ad->Prop}(ht:IsTup s.heap t vs.toArray)(hb:IsTup s.heap b ws.toArray)(hv:vs≠[])
 (h1:ws=[]->Q (.ref t) s) (h2:ws≠[]->Q (.ref s.heap.objs.size) { s with heap:=s.heap.push { cls:=.type "tuple",data:=.seq (vs++ws).toArray } })
 (q1:vs.length+ws.length<=sizeLine):Ao (Au prog w) A (Cu .Add (.ref t) (.ref b)) Q E s:=by
 obtain⟨⟨cls,dd,data,sl⟩,W,hc,n,hd⟩:=id ht;obtain⟨⟨q2,I,q0,U⟩,q,L,n2,M⟩:=id hb;simp only at hc hd L M;subst hc hd L M;have e:vs.toArray++ws.toArray=(vs++ws).toArray:=by simp
 by_cases hw:ws=[]
 exact DU ⟨_,W,rfl⟩ ⟨_,q,rfl⟩ DI EE CY CT (CI _ _)
  (tuple_addW1 t b vs.toArray ws.toArray n n2 dd I sl U (by simpa using hv) (by simp[hw])) ⟨W,q,h1 hw⟩
 refine DU ⟨_,W,rfl⟩ ⟨_,q,rfl⟩ DI EE CY CT (CI _ _)
  (tuple_addW2 t b vs.toArray ws.toArray n n2 dd I sl U (by simpa using hv) (by simpa using hw) (by rw[Ak,Ak];exact q1)) ⟨W,q,?_⟩
 rw[e];exact h2 hw
noncomputable def sIx(n d:Nat):Option Int->Nat
 | none=>d|some v=>if v<0 then (v+(n:Int)).toNat else min v.toNat n
theorem aFm(n d:Nat)(hd:d<=n)(o:Option Int):sIx n d o<=n:=by
 cases o with
 | none=>exact hd|some v=>show(if v<0 then (v+(n:Int)).toNat else min v.toNat n)<=n;by_cases q:v<0;rw[if_pos q];omega;rw[if_neg q];exact Nat.min_le_right _ _
theorem wC(v:Int)(n d:Nat):(if v<0 then max (v+(n:Int)) 0 else min v (n:Int))=((sIx n d (some v):Nat):Int):=by
 show(if v<0 then max (v+(n:Int)) 0 else min v (n:Int))=(((if v<0 then (v+(n:Int)).toNat else min v.toNat n):Nat):Int)
 by_cases q:v<0;simp only[if_pos q];omega;simp only[if_neg q];omega
theorem uR(lo hi:Option Int)(n:Nat):C9 lo hi 1 (n:Int)=(((sIx n 0 lo:Nat):Int),((sIx n n hi:Nat):Int)):=by
 have q:¬ ((1:Int)<0):=by omega
 unfold C9;simp only[q,if_false];refine HV ?_ ?_;cases lo with
 | none=>rfl|some v=>exact wC v n 0
 cases hi with
 | none=>rfl|some v=>exact wC v n n
theorem uS(i j:Nat):BU (i:Int) (j:Int) 1=j-i:=by
 unfold BU;have q:(1:Int)>0:=by omega
 simp only[q,if_true,Int.ediv_one];split <;> omega
theorem lP{v:Value}{o:Option Int}{Q:Option Int->Ad->Prop}(p:DV v o)(h:Q o s):Ao (Au prog w) A (FN v) Q E s:=by
 cases p with
 | none=>exact Gb h|int i t=>exact slicePart_int h
theorem sliceApplied_gen{sl:Addr}{L M:Value}{lo hi:Option Int}{n:Nat}{Q:Int×Int×Nat->Ad->Prop}(hs:s.heap.IsSliceOf sl L M .none)(pl:DV L lo)(W:DV M hi)
 (h:Q (((sIx n 0 lo:Nat):Int),1,sIx n n hi-sIx n 0 lo) s):Ao (Au prog w) A (Dv (.ref sl) (pure (n:Int))) Q E s:=by obtain⟨os,I,U,q⟩:=id hs;unfold Dv Gp;refine Aa (Aa (AD I q (x:=L) rfl (Aa (AD I q (x:=M) rfl (Aa (AD I q (x:=.none) rfl (Ar ?_)))))));refine Aa (Gb ?_);show Ao _ _ (if ((1:Int)==0)=true then _ else _) _ _ s;rw[if_neg (by decide)];refine Aa (lP pl (Aa (lP W (Aa (Ar ?_)))));show Ao _ _ (match C9 lo hi 1 (n:Int) with|(lo,hi)=>pure (lo,(1:Int),BU lo hi 1)) _ _ s;rw[uR lo hi n];show Ao _ _ (pure (((sIx n 0 lo:Nat):Int),(1:Int),BU ((sIx n 0 lo:Nat):Int) ((sIx n n hi:Nat):Int) 1)) _ _ s;rw[uS];exact Ar h
theorem aAE(xs:Array Value)(i k:Nat):((Bt k).filterMap λ(m:Nat)=>xs[((i:Int)+(m:Int)*1).toNat]?).toArray=((xs.toList.drop i).take k).toArray:=by
 have e:(λ(m:Nat)=>xs[((i:Int)+(m:Int)*1).toNat]?)=λm=>xs[i+m]? := by
  funext m
  have:((i:Int)+(m:Int)*1).toNat=i+m:=by omega
  rw[this]
 rw[e];have:=pick_run xs i k;rw[List.filterMap_map] at this;have q:((λx=>xs[x]?)∘λx=>i+x)=λm=>xs[i+m]? := rfl;rw[q] at this;rw[this]
theorem getItem_tuple_cut{t sl:Addr}{items:Array Value}{vl vu:Value}{lo hi:Option Int}{Q:Value->Ad->Prop}(L:IsTup s.heap t items)(hs:s.heap.IsSliceOf sl vl vu .none)(pl:DV vl lo)(pu:DV vu hi)
 (hw:¬ (sIx items.size 0 lo=0/\sIx items.size items.size hi=items.size))
 (h:Q (.ref s.heap.objs.size) { s with heap:=s.heap.push { cls:=.type "tuple",data:=.seq ((items.toList.drop (sIx items.size 0 lo)).take (sIx items.size items.size hi-sIx items.size 0 lo)).toArray } })
 (q4:items.size<=sizeLine):Ao (Au prog w) A (E4 (.ref t) (.ref sl)) Q E s:=by
 have I:sizeOk (.seq ((items.toList.drop (sIx items.size 0 lo)).take (sIx items.size items.size hi-sIx items.size 0 lo)).toArray):=by show((items.toList.drop (sIx items.size 0 lo)).take (sIx items.size items.size hi-sIx items.size 0 lo)).toArray.size<=sizeLine;rw[Ak,Bv,C8,Cg];omega
 have hj:sIx items.size items.size hi<=items.size:=aFm _ _ (An _) hi;obtain⟨os,q0,U,q3⟩:=id hs;have M:s.TypeIs (.ref sl) "slice" := ⟨os,q0,U⟩
 unfold E4
 try with_reducible refine BN ?_
 first|refine Aa (Ar ?_)|skip
 refine Aa (Fi L.typeIs (by decide) ?_);refine Aa (Bw (name:=CZ "__getitem__") L.typeIs AV
  (Ci AV L.typeIs E6 ?_ (EN _ _)))
 show Ao _ _ (Dw (.ref t) >>= _) _ _ s;refine Aa (Gx L ?_);refine Aa (Fj M ?_);rw[if_pos (by decide)];refine Aa (sliceApplied_gen hs pl pu ?_);have W:¬ ((((sIx items.size 0 lo:Nat):Int)==0&&(1:Int)==1&&(sIx items.size items.size hi-sIx items.size 0 lo)==items.size)=true):=by intro q;rw[F6,F6] at q;have q1:((sIx items.size 0 lo:Nat):Int)=0:=eq_of_beq q.1.1;have q2:sIx items.size items.size hi-sIx items.size 0 lo=items.size:=eq_of_beq q.2;exact hw ⟨by omega,by omega⟩
 show Ao _ _ (if (((sIx items.size 0 lo:Nat):Int)==0&&(1:Int)==1&&(sIx items.size items.size hi-sIx items.size 0 lo)==items.size)=true then _ else _) _ _ s;rw[if_neg W,aAE]
 first
  | exact Aa (m:=Cb _) (Bq (Ar ⟨_,rfl,Ar h⟩) I)
  | exact Aa (m:=Cb _) (Bq (Aa (Ar (Ar ⟨_,rfl,Ar h⟩))) I)
  | exact Aa (Aa (m:=Cb _) (Bq (Ar (Ar ⟨_,rfl,Ar h⟩)) I))
  | exact Aa (Aa (m:=Cb _) (Bq (Ar ⟨_,rfl,Ar h⟩) I))
end
end HT
namespace L2
open PySem PySem.Spec PyProof.Rows
abbrev TO:=St->Hp->(Option Int->Hp->Prop)->Prop
noncomputable def PO(X:Cx)(e:Option Ag)(t:TO):Prop:=
 ∀(G:List (Addr×Obj)) (s:Ad) (Z:St) (H:Hp) (Q:Option Int->Hp->Prop),Inv X G Z H s->t Z H Q ->
  Ao (Au X.prog X.w) X.A (evalPart e X.env) (λu s'=>∃o H',Inv X G Z H' s'/\DV u o/\Q o H') X.xe s
noncomputable def aCR:TO:=λ_ H Q=>Q none H
noncomputable def aHJ(t:TE):TO:=λZ H Q=>t Z H λx H1=>∃i,x=.int i/\Q (some i) H1
section
variable {X:Cx} {e:Ag} {te:TE} {lo hi:Option Ag} {tl th:TO} {pos p2:Cf}
theorem wD:PO X none aCR:=by intro G s Z H Q I h;rw[Gy];exact Ar ⟨none,H,I,.none,h⟩
theorem aCS(h:PE X e te):PO X (some e) (aHJ te):=by intro G s Z H Q I M;rw[evalPart_some];refine thn (h G s Z H _ I M) λu s1 ⟨x,H1,L,r1,U⟩=>?_;obtain⟨i,rfl,q⟩:=U;obtain⟨t,rfl⟩:=r1;exact⟨some i,H1,L,.int i t,q⟩
noncomputable def SlR(X:Cx)(r:V->Option Int->Option Int->Hp->VK->Prop):Prop:=
 ∀(G:List (Addr×Obj)) (s:Ad) (Z:St) (H:Hp) (x:V) (v vl vu:Value) (lo hi:Option Int) (sl:Addr) (Q:VK),Inv X G Z H s->bC x v->s.heap.IsSliceOf sl vl vu .none->DV vl lo->DV vu hi->r x lo hi H Q ->
  ∃T id,typeLookup (.type T) "__getitem__" = pure (some (.builtin id))/\s.TypeIs v T/\Ao (Au X.prog X.w) X.A (E4 v (.ref sl)) (EP X G Z Q) X.xe s
theorem SlR.or{r M:V->Option Int->Option Int->Hp->VK->Prop}(h:SlR X r)(h':SlR X M):SlR X (λx lo hi H Q=>r x lo hi H Q\/M x lo hi H Q):=by intro G s Z H x v W vu lo hi sl Q I U hs pl L q;rcases q with q|q;exact h G s Z H x v W vu lo hi sl Q I U hs pl L q;exact h' G s Z H x v W vu lo hi sl Q I U hs pl L q
noncomputable def tSl(r:V->Option Int->Option Int->Hp->VK->Prop)(te:TE)(tl th:TO):TE:=λZ H Q=>te Z H λx H1=>tl Z H1 λl H2=>th Z H2 λu H3=>r x l u H3 Q
theorem aAF{r:V->Option Int->Option Int->Hp->VK->Prop}(hr:SlR X r)(he:PE X e te)(hl:PO X lo tl)(hu:PO X hi th):PE X (.Subscript e (.Slice lo hi none p2) pos) (tSl r te tl th):=by intro G s Z H Q I h;refine Subscript_ (thn (he G s Z H _ I h) λv s1 ⟨x,H1,I1,r1,q1⟩=>?_);refine wpAny_Slice (thn (hl G s1 Z H1 _ I1 q1) λL s2 ⟨l,W,I2,pl,q2⟩=>thn (hu G s2 Z W _ I2 q2) λM s3 ⟨u,U,I3,pu,q3⟩=>?_);rw[Gy];refine Ar ?_;have I4:Inv X G Z U { s3 with heap:=s3.heap.push { cls:=.type "slice",data:=.fields #[L,M,.none] } }:=I3.kept (t':=s3.toks) λb ob q=>Ab _ q;obtain⟨T,id,hT,ht,hg⟩:=hr G { s3 with heap:=s3.heap.push { cls:=.type "slice",data:=.fields #[L,M,.none] } } Z U x v L M l u s3.heap.objs.size Q I4 r1 (Hz ..) pl pu q3;show Ao (Au X.prog X.w) X.A (Gz e (.Slice lo hi none p2) v (.ref s3.heap.objs.size)) (EP X G Z Q) X.xe { s3 with heap:=s3.heap.push { cls:=.type "slice",data:=.fields #[L,M,.none] } };exact tail_any (ops:=[.ref s3.heap.objs.size,v]) ht hT hg (by with_unfolding_all rfl)
noncomputable def rR(xs:List V)(lo hi:Option Int):List V:=(xs.drop (HT.sIx xs.length 0 lo)).take (HT.sIx xs.length xs.length hi-HT.sIx xs.length 0 lo)
theorem jW(xs:List V)(lo hi:Option Int):(rR xs lo hi).length<=xs.length:=by unfold rR;rw[Bv,C8];omega
noncomputable def aFn(K:Ai):V->Option Int->Option Int->Hp->VK->Prop:=λx lo hi H Q=>∃a xs,x=.ref a/\SqT K H a xs /\
 ¬ (HT.sIx xs.length 0 lo=0/\HT.sIx xs.length xs.length hi=xs.length)/\∀p,H p=none->Q (.ref p) (upd H p (.tup (rR xs lo hi)))
theorem aFo:SlR X (aFn X.K):=by
 intro G s Z H x v vl vu lo hi sl Q I rx hs pl pu h;obtain⟨a,xs,rfl,hx,hw,q⟩:=h;cases rx;obtain⟨M,r,U,W⟩:=I.tuple hx;have L:M.toArray.size=xs.length:=by rw[Ak];exact r.length.symm
 refine⟨"tuple",_,AV.lookup,U.typeIs,?_⟩;refine HT.getItem_tuple_cut U hs pl pu (by rw[L];exact hw) ?_ (by rw[L];exact W);rw[L];refine⟨.ref s.heap.objs.size,_,I.laid (t':=s.toks) (o:=.tup (rR xs lo hi)) (λb ob q=>Ab _ q) (An _) ?_,rfl,q _ (I.hok.fresh (An _))⟩;exact⟨AH (jW xs lo hi) W,_,(r.drop (HT.sIx xs.length 0 lo)).take (HT.sIx xs.length xs.length hi-HT.sIx xs.length 0 lo),GG _ _⟩
noncomputable def aHK(K:Ai):R2:=λx y H Q=>∃a b xs ys,x=.ref a/\y=.ref b/\SqT K H a xs/\SqT K H b ys/\xs≠[]/\xs.length+ys.length<=sizeLine /\
 (ys=[]->Q (.ref a) H)/\(ys≠[]->∀p,H p=none->Q (.ref p) (upd H p (.tup (xs++ys))))
theorem aQ.nil_iff{xs:List V}{us:List Value}(r:aQ xs us):us=[]↔xs=[]:=by
 cases r with
 | nil=>simp|cons _ _=>simp
theorem aCT:OpR X (Cu .Add) (aHK X.K):=by intro G s Z H x y v u Q I rx ry h;obtain⟨a,b,xs,ys,rfl,rfl,W,hb,hx,M,q1,q2⟩:=h;cases rx;cases ry;obtain⟨q0,r1,p1,_⟩:=I.tuple W;obtain⟨U,L,p2,_⟩:=I.tuple hb;refine HT.cat_tup p1 p2 (λz=>hx (r1.nil_iff.mp z)) (λz=>⟨.ref a,H,I,rfl,q1 (L.nil_iff.mp z)⟩) (λz=>?_) (by rw[<-r1.length,<-L.length];exact M);refine⟨.ref s.heap.objs.size,_,I.laid (t':=s.toks) (o:=.tup (xs++ys)) (λb ob q=>Ab _ q) (An _) ?_,rfl,q2 (λw=>z (L.nil_iff.mpr w)) _ (I.hok.fresh (An _))⟩;exact⟨by rw[CM];exact M,_,r1.append L,GG _ _⟩
end
noncomputable def ixN(n:Nat)(i:Int):Option Nat:=if 0<=i then (if i<n then some i.toNat else none) else if -(n:Int)<=i then some (i+n).toNat else none
noncomputable def atI{α:Type}(xs:List α)(i:Int):Option α:=(ixN xs.length i).bind λj=>xs[j]?
theorem wF{n:Nat}{i:Int}{j:Nat}(h:ixN n i=some j):seqIndex? i n=some j/\j<n/\-(n:Int)<=i/\i<n:=by unfold ixN at h;by_cases I:0<=i;rw[if_pos I] at h;by_cases q:i<n;rw[if_pos q] at h;have e:i.toNat=j:=Ah h;exact⟨by rw[FI I q,e],by omega,by omega,q⟩;rw[if_neg q] at h;cases h;rw[if_neg I] at h;by_cases q:-(n:Int)<=i;rw[if_pos q] at h;have e:(i+n).toNat=j:=Ah h;exact⟨by rw[Fk (by omega) q,e],by omega,q,by omega⟩;rw[if_neg q] at h;cases h
theorem pM{α:Type}{xs:List α}{i:Int}{v:α}(h:atI xs i=some v):∃j,seqIndex? i xs.length=some j/\xs[j]? = some v/\j<xs.length/\-(xs.length:Int)<=i/\i<xs.length:=by
 unfold atI at h;cases e:ixN xs.length i with
 | none=>rw[e] at h;cases h|some j=>rw[e] at h;obtain⟨q,I,L,M⟩:=wF e;exact⟨j,q,h,I,L,M⟩
noncomputable def wG(b:Ag):Prop:=∀o i,Hf b false o i=operate [o,i] (E4 o i)
noncomputable def IxR(X:Cx)(r:R2):Prop:=
 ∀(value slice:Ag) (G:List (Addr×Obj)) (s:Ad) (Z:St) (H:Hp) (x y:V) (v u:Value) (Q:VK),Inv X G Z H s->bC x v->bC y u->r x y H Q ->
  Hf slice false v u=operate [v,u] (E4 v u)->Ao (Au X.prog X.w) X.A (Gz value slice v u) (EP X G Z Q) X.xe s
noncomputable def MtR(X:Cx)(id:String)(r:V->List V->Hp->VK->Prop):Prop:=
 ∀(G:List (Addr×Obj)) (s:Ad) (Z:St) (H:Hp) (x:V) (xs:List V) (v:Value) (us:List Value) (Q:VK),Inv X G Z H s->bC x v->aQ xs us->r x xs H Q ->
  Ao (Au X.prog X.w) X.A (call (.builtin id) (v::us)) (EP X G Z Q) X.xe s
section
variable {X:Cx} {a b:Ag} {ta tb:TE} {pos:Cf}
theorem IxR.or{r U:R2}(h:IxR X r)(h':IxR X U):IxR X (λx y H Q=>r x y H Q\/U x y H Q):=by intro M L G s Z H x y v u Q I W ry q hs;rcases q with q|q;exact h M L G s Z H x y v u Q I W ry q hs;exact h' M L G s Z H x y v u Q I W ry q hs
theorem rT{r:R2}(W:IxR X r)(U:PE X a ta)(hb:PE X b tb)(hs:wG b):PE X (.Subscript a b pos) (tOp r ta tb):=by intro G s Z H Q I h;exact Subscript_ (aHA U hb I h λv u s2 x y L M rx ry q=>W a b G s2 Z L x y v u Q M rx ry q (hs _ _))
noncomputable def aHL(K:Ai):R2:=λx y H Q=>∃p xs i v,x=.ref p/\y=.int i/\SqL K H p xs/\atI xs i=some v/\Q v H
noncomputable def aHM(K:Ai):R2:=λx y H Q=>∃p xs i v,x=.ref p/\y=.int i/\SqT K H p xs/\atI xs i=some v/\Q v H
noncomputable def aHN:R2:=λx y H Q=>∃z i c,x=.str z/\y=.int i/\z.length<=sizeLine/\atI z.cps.toList i=some c/\Q (.str ⟨#[c]⟩) H
theorem aCU:IxR X (aHL X.K):=by
 intro q2 q1 G s Z H x y v u Q I rx ry h hs;obtain⟨p,xs,i,z,rfl,rfl,hq,he,q⟩:=h;cases rx;obtain⟨t,rfl⟩:=ry;obtain⟨W,r,pl,hz⟩:=I.list hq;obtain⟨j,M,h2,h3,h4,h5⟩:=pM he;obtain⟨w,ew,q0⟩:=r.get h2;have hl:=r.length;have hn:=hU;have L:EP X G Z Q w s:=⟨z,H,I,q0,q⟩
 by_cases h0:0<=i;have U:i.toNat=j:=by rw[FI h0 h5] at M;exact Ah M
 exact item_listR pl.isList h0 (by omega) (by rw[U];simpa using ew) L hs;have U:(i+(W.toArray.size:Int)).toNat=j:=by rw[Fk (by omega) h4] at M;rw[Ak,<-hl];exact Ah M
 exact DW (x:=w) pl.isList.typeIs Fl.lookup
  (wpAny_getItem_list_neg (Q:=λr s'=>r=w/\EP X G Z Q r s') pl.isList (by omega) (by rw[Ak] <;> omega) (by omega) (by rw[U];simpa using ew) ⟨rfl,L⟩) hs
theorem aFp:IxR X (aHM X.K):=by
 intro W U G s Z H x y v u Q I rx ry h hs;obtain⟨p,xs,i,z,rfl,rfl,hq,he,q⟩:=h;cases rx;obtain⟨t,rfl⟩:=ry;obtain⟨q0,r,pl,hz⟩:=I.tuple hq;obtain⟨j,h1,h2,h3,h4,h5⟩:=pM he;obtain⟨w,ew,M⟩:=r.get h2;have hl:=r.length;have hn:=hU;have L:EP X G Z Q w s:=⟨z,H,I,M,q⟩
 exact DW (x:=w) pl.typeIs slot_tuple_getitem.lookup
  (getItem_tuple (j:=j) (Q:=λr s'=>r=w/\EP X G Z Q r s') pl (by omega) (by omega) (by rw[Ak,<-hl];exact h1) (by simpa using ew) ⟨rfl,L⟩) hs
theorem aFq:IxR X aHN:=by
 intro M L G s Z H x y v u Q I rx ry h hs;obtain⟨z,i,c,rfl,rfl,hz,he,q⟩:=h;obtain⟨t,rfl⟩:=rx;obtain⟨t',rfl⟩:=ry;obtain⟨j,U,h2,h3,h4,h5⟩:=pM he;have hl:z.cps.toList.length=z.length:=by simp[Gc]
 rw[hl] at U h4 h5;have hn:=hU;exact tail_any (typeIs_str s z t) slot_str_getitem.lookup (getItem_str (c:=c) (by
  have W:decide (i < -(2 ^ 63:Int))=false:=A4 (by omega);have e2:decide (i ≥ 2 ^ 63)=false:=A4 (by omega);rw[W,e2,Bool.or_false]) (by rw[U];simpa using h2) ⟨.str ⟨#[c]⟩,H,I.tok _,⟨_,rfl⟩,q⟩) hs
noncomputable def rIx(K:Ai):R2:=λx y H Q=>aHL K x y H Q\/aHM K x y H Q\/aHN x y H Q
theorem lQ:IxR X (rIx X.K):=aCU.or (aFp.or aFq)
theorem uT(q:List Value)(n j:Nat)(u:Value):Dx (·.setIfInBounds j u) { cls:=.type "list",data:=.seq q.toArray n }={ cls:=.type "list",data:=.seq (q.set j u).toArray n }:=by simp[Dx]
theorem Inv.lst{G:List (Addr×Obj)}{Z:St}{H:Hp}{s:Ad}{p:Addr}{xs:List V}(I:Inv X G Z H s)(h:H p=some (.lst xs)) :
 ∃(q:List Value) (n:Nat),aQ xs q/\s.heap.get? p=some { cls:=.type "list",data:=.seq q.toArray n }/\xs.length<=sizeLine:=by obtain⟨z,q,n,r,e⟩:=I.hok p _ h;exact⟨q,n,r,e,z⟩
theorem Inv.lstUpd{G:List (Addr×Obj)}{Z:St}{H:Hp}{s:Ad}{p:Addr}{xs U:List V}{L its':List Value}{n M:Nat}{f:Obj->Obj}(I:Inv X G Z H s)(h:H p=some (.lst xs))
 (W:s.heap.get? p=some { cls:=.type "list",data:=.seq L.toArray n }) (hf:f { cls:=.type "list",data:=.seq L.toArray n }={ cls:=.type "list",data:=.seq its'.toArray M }) (r:aQ U its') (hz:U.length<=sizeLine) (t:Nat) :
 Inv X G Z (upd H p (.lst U)) { s with heap:=s.heap.update p f,toks:=t }:=by
 have e:(s.heap.update p f).get? p=some { cls:=.type "list",data:=.seq its'.toArray M }:=by rw[AK f W (by rw[hf] <;> rfl),hf]
 refine I.write (x:=p) (e:=p) (by rw[h];trivial) (.inl rfl) (λb u hb q=>(Am _ _ (Bp hb)).trans q) ⟨_,e⟩ ?_;exact⟨hz,its',M,r,e⟩
noncomputable def aHO:V->V->V->Hp->(Hp->Prop)->Prop:=λo i v H Q=>∃p xs k j,o=.ref p/\i=.int k/\H p=some (.lst xs)/\ixN xs.length k=some j/\Q (upd H p (.lst (xs.set j v)))
theorem lR:aHu X aHO:=by
 intro G s Z H o i v ov iv u Q I ro ri rv h;obtain⟨p,xs,k,j,rfl,rfl,hp,hj,q⟩:=h;cases ro;obtain⟨t,rfl⟩:=ri;obtain⟨L,n,r,ho,hz⟩:=I.lst hp;obtain⟨M,h2,h3,h4⟩:=wF hj;have W:=r.length;have hn:=hU;have I':Inv X G Z (upd H p (.lst (xs.set j v))) { s with heap:=s.heap.update p (Dx (·.setIfInBounds j u)) }:=
  I.lstUpd hp ho (uT L n j u) (r.set rv j) (by rw[Ax];exact hz) s.toks
 by_cases h0:0<=k;have U:k.toNat=j:=by rw[FI h0 h4] at M;exact Ah M
 exact PySem.W.ki_setAt ho h0 (by omega) (by rw[Ak,<-W];exact h4) (by rw[U];exact⟨_,I',q⟩);have U:(k+(L.toArray.size:Int)).toNat=j:=by rw[Fk (by omega) h3] at M;rw[Ak,<-W];exact Ah M
 exact PySem.W.ki_setBack ho (by omega) (by rw[Ak,<-W];exact h3) (by omega) (by rw[U];exact⟨_,I',q⟩)
theorem pN(lo hi:Option Int)(n:Nat):(CU lo hi none n).1=((HT.sIx n 0 lo:Nat):Int)/\(CU lo hi none n).2.1=((HT.sIx n n hi:Nat):Int)/\(CU lo hi none n).2.2=1:=by
 refine⟨?_,?_,rfl⟩;cases lo with
 | none=>simp[CU,HT.sIx]|some i=>simp only[CU,HT.sIx,DJ,show(1:Int)>0 by decide,if_true];by_cases h:i<0;simp only[h,if_true] <;> omega;simp only[h,if_false] <;> omega
 cases hi with
 | none=>simp[CU,HT.sIx]|some i=>simp only[CU,HT.sIx,DJ,show(1:Int)>0 by decide,if_true];by_cases h:i<0;simp only[h,if_true] <;> omega;simp only[h,if_false] <;> omega
theorem nK(q:List Value)(lo hi:Option Int):slicePick q.toArray lo hi none=((q.drop (HT.sIx q.length 0 lo)).take (HT.sIx q.length q.length hi-HT.sIx q.length 0 lo)).toArray:=by obtain⟨I,L,M⟩:=pN lo hi q.toArray.size;unfold slicePick;rw[I,L,M];simp only[sliceRange_one,pick_run,Ak] <;> rfl
noncomputable def aFr(K:Ai):V->Option Int->Option Int->Hp->VK->Prop:=λx lo hi H Q=>∃a xs,x=.ref a/\SqL K H a xs/\∀p,H p=none->Q (.ref p) (upd H p (.lst (rR xs lo hi)))
theorem aCV:SlR X (aFr X.K):=by intro G s Z H x v vl vu lo hi sl Q I rx hs pl pu h;obtain⟨a,xs,rfl,U,q⟩:=h;cases rx;obtain⟨q0,r,M,W⟩:=I.list U;have L:=r.length;refine⟨"list",_,Fl.lookup,M.isList.typeIs,?_⟩;refine wpAny_getItem_list_slice M.isList hs pl pu .none (by simp) ?_ (by rw[Ak] <;> omega);rw[nK,<-L];refine⟨.ref s.heap.objs.size,_,I.laid (t':=s.toks) (o:=.lst (rR xs lo hi)) (λb ob q=>Ab _ q) (An _) ?_,rfl,q _ (I.hok.fresh (An _))⟩;exact⟨AH (jW xs lo hi) W,_,0,(r.drop (HT.sIx xs.length 0 lo)).take (HT.sIx xs.length xs.length hi-HT.sIx xs.length 0 lo),A0 _ rfl⟩
theorem pO:eJ X (.builtin "len") (λxs H Q=>∃p M,xs=[.ref p]/\(SqL X.K H p M\/SqT X.K H p M)/\Q (.int M.length) H):=by intro G s Z H xs us Q I r h;obtain⟨p,M,rfl,U,q⟩:=h;obtain⟨u,rfl,rx⟩:=nS r;cases rx;have hn:=hU;rcases U with U|U;obtain⟨W,r',pl,hz⟩:=I.list U;have L:=r'.length;exact Calls.call_len_list pl.isList (by simp only[Ak] <;> omega) ⟨.int M.length,H,I.tok _,⟨s.toks+1,by rw[Ak,L]⟩,q⟩;obtain⟨W,r',pl,hz⟩:=I.tuple U;have L:=r'.length;exact len_tuple pl (by simp only[Ak] <;> omega) ⟨.int M.length,H,I.tok _,⟨s.toks+1,by rw[Ak,L]⟩,q⟩
theorem pP:eJ X (.builtin "len") (λxs H Q=>∃z,xs=[.str z]/\z.length<=sizeLine/\Q (.int z.length) H):=by intro G s Z H xs us Q I r h;obtain⟨z,rfl,M,q⟩:=h;obtain⟨u,rfl,t,rfl⟩:=nS r;have L:=hU;exact len_str (by omega) ⟨.int z.length,H,I.tok _,⟨_,rfl⟩,q⟩
theorem eJ.or{f:Value}{r L:List V->Hp->VK->Prop}(h:eJ X f r)(h':eJ X f L):eJ X f (λxs H Q=>r xs H Q\/L xs H Q):=by intro G s Z H xs us Q I M q;rcases q with q|q;exact h G s Z H xs us Q I M q;exact h' G s Z H xs us Q I M q
theorem pQ:eJ X (.type "list") (λxs H Q=>∃p W,xs=[.ref p]/\(SqL X.K H p W\/SqT X.K H p W)/\∀l,H l=none->Q (.ref l) (upd H l (.lst W))):=by
 intro G s Z H xs us Q I r h;obtain⟨p,W,rfl,hq,q⟩:=h;obtain⟨u,rfl,rx⟩:=nS r;cases rx;have q0:∀(L:List Value),aQ W L->W.length<=sizeLine->∀(h':Heap) (M:Nat),(∀b o',s.heap.get? b=some o'->h'.get? b=some o') ->
  h'.get? s.heap.objs.size=some { cls:=.type "list",dict:=none,data:=.seq L.toArray M,slots:=#[] }->EP X G Z Q (.ref s.heap.objs.size) { s with heap:=h' }:=λL U hz h' M kp e=>
  ⟨.ref s.heap.objs.size,_,I.laid (t':=s.toks) kp (An _) (show cG X.prog X.w _ h' _ (.lst W) from⟨hz,L,M,U,e⟩),rfl,q _ (I.hok.fresh (An _))⟩
 rcases hq with hq|hq;obtain⟨L,U,pl,hz⟩:=I.list hq;have q1:=U.length;obtain⟨o,ho,hc,n,hd⟩:=pl.isList;exact G0 p (.inl rfl) ho hc hd (λh' M kp e=>q0 L U hz h' M kp e) (by simp only[Ak] <;> omega);obtain⟨L,U,pl,hz⟩:=I.tuple hq;have q1:=U.length;obtain⟨o,ho,hc,n,hd⟩:=pl;exact G0 p (.inr rfl) ho hc hd (λh' M kp e=>q0 L U hz h' M kp e) (by simp only[Ak] <;> omega)
theorem nL:eJ X (.type "tuple") (λxs H Q=>∃p M,xs=[.ref p]/\((SqL X.K H p M/\∀l,H l=none->Q (.ref l) (upd H l (.tup M)))\/(SqT X.K H p M/\Q (.ref p) H))):=by
 intro G s Z H xs us Q I r h;obtain⟨p,M,rfl,h⟩:=h;obtain⟨u,rfl,rx⟩:=nS r;cases rx;rcases h with⟨U,q⟩|⟨U,q⟩
 obtain⟨L,W,pl,hz⟩:=I.list U;have q0:=W.length;refine call_tuple_list pl.isList (λh' kp=>?_) (by simp only[Ak] <;> omega);have I1:Inv X G Z H { s with heap:=h' }:=I.kept (t':=s.toks) kp;have I2:Inv X G Z (upd H h'.objs.size (.tup M)) { s with heap:=h'.push { cls:=.type "tuple",data:=.seq L.toArray } }:=
  I1.laid (t':=s.toks) (λb o e=>Ab _ e) (An _) (show cG X.prog X.w _ _ _ (.tup M) from⟨hz,L,W,GG _ _⟩)
 exact⟨.ref h'.objs.size,_,I2,rfl,q _ (I1.hok.fresh (An _))⟩;obtain⟨L,W,pl,hz⟩:=I.tuple U;exact call_tuple_same pl ⟨.ref p,H,I,rfl,q⟩
noncomputable def tyV(K:Ai)(T:String)(x:V)(H:Hp):Prop:=match x with
 | .str _=>T = "str"|.int _=>T = "int"|.ref p=>(T = "list" /\ ∃xs,SqL K H p xs)\/(T = "tuple" /\ ∃o,K.lookup p=some o/\o.cls=.type "tuple" /\ o.dict=none) \/
  (T = "dict" /\ ((∃kvs,H p=some (.dK kvs))\/∃kvs,H p=some (.dT kvs)))\/(T = "set" /\ ∃S n,H p=some (.set S n))
 | _=>False
theorem aFs{G:List (Addr×Obj)}{Z:St}{H:Hp}{s:Ad}{T:String}{x:V}{v:Value}(I:Inv X G Z H s)(r:bC x v)(ty:tyV X.K T x H) :
 s.TypeIs v T/\∀a,v=.ref a->∃M,s.heap.get? a=some M/\M.dict=none:=by
 cases x with
 | str z=>obtain⟨t,rfl⟩:=r;cases(show T = "str" from ty);exact⟨typeIs_str s z t,λ_ e=>nomatch e⟩|int i=>obtain⟨t,rfl⟩:=r;cases(show T = "int" from ty);exact⟨Gd s i t,λ_ e=>nomatch e⟩|ref p=>
  cases r;rcases ty with⟨rfl,xs,W⟩|⟨rfl,o,q,U,hd⟩|⟨rfl,q⟩|⟨rfl,S,n,q⟩
  obtain⟨q0,_,pl,_⟩:=I.list W;refine⟨pl.isList.typeIs,λa e=>?_⟩;cases e;obtain⟨o,n,e,c,hd,_⟩:=pl;exact⟨o,e,hd⟩;refine⟨⟨o,I.kIn p o q,U⟩,λa e=>?_⟩;cases e;exact⟨o,I.kIn _ o q,hd⟩;have z:∃o,s.heap.get? p=some o/\o.ExactDict:=by
   rcases q with⟨kvs,q⟩|⟨kvs,q⟩
   obtain⟨_,_,_,_,o,_,_,e,ex,_⟩:=I.hok p _ q;exact⟨o,e,ex⟩;obtain⟨_,_,_,_,o,_,_,e,ex,_⟩:=I.hok p _ q;exact⟨o,e,ex⟩
  obtain⟨o,e,ex⟩:=z;refine⟨⟨o,e,ex.1⟩,λa L=>?_⟩;cases L;exact⟨o,e,ex.2.1⟩;obtain⟨o,_,_,_,e,ex,_⟩:=I.hok p _ q;refine⟨⟨o,e,ex.1⟩,λa L=>?_⟩;cases L;exact⟨o,e,ex.2.1⟩
 | _=>exact Cr ty
noncomputable def tBM(K:Ai)(T:String)(r:V->List V->Hp->VK->Prop)(to:TE)(t:TA):TE:=λZ H Q=>to Z H λx H1=>tyV K T x H1/\t Z H1 λxs H2=>r x xs H2 Q
variable {o e:Ag} {es:List Ag} {to:TE} {t:TA} {name:Str} {apos cpos:Cf} {T id:String} {r:V->List V->Hp->VK->Prop}
theorem aEb(pa:PlainAttrs T)(slot:Slot T name id)(W:typeOf (.builtin id)=pure (.type "method_descriptor"))(hm:MtR X id r)(ho:PE X o to)(ha:PA X (e::es) t)
 (L:attributeBase o name X.env (C4 o X.env)=C4 o X.env:=by rfl)
 (U:((CW cpos (AI (e::es) X.env)).all (λx=>!x.1)&&(backToKw cpos (keywordEach [] X.env)).all (λx=>x.1.isSome)
  && decide ((e::es).length+([]:List HE).length+(if ([]:List HE).isEmpty then 0 else 1)<30))=true:=by rfl)
 (M:(apos.endLine==cpos.line)=true:=by rfl) (hs:AI (e::es) X.env=(false,C4 e X.env)::AI es X.env:=by rfl) (q:(CW cpos (AI es X.env)).any (·.1)=false:=by rfl) :
 PE X (.Call (.Attribute o name apos) (e::es) [] cpos) (tBM X.K T r to t):=by intro G s Z H Q I h;refine DX L U M rfl (thn (ho G s Z H _ I h) λv s1 ⟨x,H1,I1,r1,ty,q1⟩=>?_);obtain⟨h1,h2⟩:=aFs I1 r1 ty;refine⟨T,id,pa,slot,W,h1,h2,?_⟩;have hA:=ha cpos G s1 Z H1 _ I1 q1;rw[hs] at hA ⊢;refine DY (by show(false||(CW cpos (AI es X.env)).any (·.1))=false;rw[q] <;> rfl) (C5 ?_);exact thn hA λus s2 ⟨vs,H2,I2,r2,q2⟩=>hm G s2 Z H2 x vs v us Q I2 r1 r2 q2
end
noncomputable def MtM(X:Cx)(id:String)(r:V->List V->Hp->VK->Prop):Prop:=
 ∀(G:List (Addr×Obj)) (s:Ad) (Z:St) (H:Hp) (x:V) (xs:List V) (v:Value) (us:List Value) (Q:VK),Inv X G Z H s->bC x v->aQ xs us->r x xs H Q ->
  Ao (Au X.prog X.w) X.A (call (.builtin id) (v::us)) (EP X G Z Q) X.xe s
theorem aQ.one:∀{x:V} {us:List Value},aQ [x] us->∃u,us=[u]/\bC x u:=by intro x us h;cases h with|cons r t=>cases t;exact⟨_,rfl,r⟩
theorem aQ.zero:∀{us:List Value},aQ [] us->us=[]
 | _,.nil=>rfl
theorem aQ.rep{xs:List V}{us:List Value}(h:aQ xs us):∀k:Nat,aQ (Ae k xs).flatten (Ae k us).flatten
 | 0=>.nil|k+1=>by rw[Bg,Bg,BY,BY];exact aQ.append h (aQ.rep h k)
theorem nX(q:List Value):∀(k:Nat) (acc:List Value),
 EO (λL M=>L++M) acc.toArray (Ae k q.toArray)=(acc++(Ae k q).flatten).toArray
 | 0,acc=>by simp|k+1,acc=>by
  have e:acc.toArray++q.toArray=(acc++q).toArray:=by simp
  have I:(acc++q)++(Ae k q).flatten=acc++(Ae (k+1) q).flatten:=by rw[Bg,BY,Fm]
  rw[<-I,<-nX q k (acc++q),<-e,Bg,BW]
section
variable {X:Cx} {G:List (Addr×Obj)} {Z:St} {H:Hp} {s:Ad} {l b:Addr} {xs ys zs:List V}
theorem Inv.lset{L its':List Value}{n:Nat}{f:Array Value->Array Value}{t':Nat}(I:Inv X G Z H s)(M:H l=some (.lst xs))
 (e:s.heap.get? l=some { cls:=.type "list",data:=.seq L.toArray n }) (hf:f L.toArray=its'.toArray) (W:aQ ys its') (hz:ys.length<=sizeLine) :
 Inv X G Z (upd H l (.lst ys)) { s with heap:=s.heap.update l (Dx f),toks:=t' }:=by have q:=F7 e f;rw[hf] at q;refine I.write (x:=l) (e:=l) (by rw[M];exact trivial) (.inl rfl) (λb' u hb U=>(Am s.heap (Dx f) (Bp hb)).trans U) ⟨_,q⟩ ?_;exact⟨hz,its',_,W,q⟩
theorem Inv.lnew{L:List Value}{t':Nat}(I:Inv X G Z H s)(M:aQ ys L)(U:ys.length<=sizeLine) :
 Inv X G Z (upd H s.heap.objs.size (.lst ys)) { s with heap:=s.heap.push { cls:=.type "list",data:=.seq L.toArray },toks:=t' }:=
 I.laid (λ_ _ q=>Ab _ q) (An _) ⟨U,L,0,M,A0 _ rfl⟩
theorem Inv.fresh(I:Inv X G Z H s):H s.heap.objs.size=none:=I.hok.fresh (An _)
theorem Inv.lstM(I:Inv X G Z H s)(L:H l=some (.lst xs)):xs.length<=sizeLine/\∃(q:List Value) (n:Nat),aQ xs q/\xs.length=q.length/\s.heap.get? l=some { cls:=.type "list",data:=.seq q.toArray n }:=by obtain⟨z,q,n,r,e⟩:=I.hok l _ L;exact⟨z,q,n,r,r.length,e⟩
theorem aAG{n:Nat}(h:n<=sizeLine):Cc n=false:=by unfold Cc;exact A4 (by omega)
end
section
variable {X:Cx}
noncomputable def aCW:V->List V->Hp->VK->Prop:=λx vs H Q=>∃l xs y,x=.ref l/\vs=[y]/\H l=some (.lst xs)/\xs.length<sizeLine/\Q .non (upd H l (.lst (xs++[y])))
theorem nY:MtM X "list.append" aCW:=by intro G s Z H x vs v us Q I W rv h;obtain⟨l,xs,y,rfl,rfl,M,hz,q⟩:=h;cases W;obtain⟨u,rfl,U⟩:=rv.one;obtain⟨z,L,n,r,hl,e⟩:=I.lstM M;refine EQ ES ⟨_,e,rfl⟩ E7 (Ep _ _) (Fo l L.toArray n u (by rw[Ak];omega)) ⟨e,?_⟩;refine⟨.non,_,I.lset (its':=L++[u]) M e (by simp) (r.append (.cons U .nil)) ?_,rfl,q⟩;rw[CM,AX];omega
theorem aCX{α:Type}(xs:List α)(k:Nat):(Ae k xs).flatten.length=k*xs.length:=by
 induction k with
 | zero=>simp|succ k q=>rw[Bg,BY,CM,q,Nat.succ_mul,Nat.add_comm]
end
end L2
namespace Att
open PySem PySem.W PySem.Calls PyProof.Rows
theorem kN{P:Ge}{h:Heap}:∀(ns:List Int) (vs:List Value),WellAll P h vs (ns.map HQ)->FT vs ns:=by
 intro ns
 induction ns with
 | nil=>intro vs w;rw[List.map_nil] at w;cases w;exact .nil|cons n ns q=>
  intro vs w;rw[List.map_cons] at w;cases w with
  | cons a b=>cases a;exact .cons _ _ (q _ b)
theorem zJ{l:HF}{n:Nat}(hn:l.most=some n){P:Ge}{h:Heap}{args:List WData}{L:List Value}
 (I:l.row.toRowW.claim.pre args=true) (q1:WellAll P h L args) :
 ∃a vs ns,L=[AA a]/\args=[WData.list (ns.map HQ)]/\h.get? a=some { cls:=.type "list",data:=.seq vs.toArray }/\FT vs ns/\ns.length<=n:=by
 have q0:WShape.hasAll [] args [.list .int]=true:=(pre_splitW I).1;have hc:l.pre.holds [] { args:=args }=true:=(pre_splitW I).2;obtain⟨d,r,rfl,h1,h2⟩:=hasAllW_cons q0;obtain rfl:=hasAllW_nil h2;obtain⟨xs,rfl,h3⟩:=hasW_list h1;obtain⟨ns,rfl⟩:=items_int h3;have U:ns.length<=n:=by
  unfold OpenLaw.pre at hc;have W:(WTm.not (.lt (.lit (.int (n:Int))) (.len (.arg 0)))).holds [] { args:=[.list (ns.map .int)] }=true:=by have W:=(holds_andW hc).1;rw[hn] at W;exact W
  have h5:=condW_of W (w_not (w_lt w_lit (w_len_list (w_arg rfl))));rw[Ef] at h5;refine F8 λq=>?_;have q':(n:Int)<((ns.length:Nat):Int):=by omega
  first
   | (rw[Ay q'] at h5;exact absurd h5 (by decide))
   | (simp at h5;omega)
 cases q1 with
 | cons w1 w2=>
  cases w2;cases w1 with
  | list ho M=>exact⟨_,_,ns,rfl,rfl,ho,kN ns _ M,U⟩
theorem zK(l:HF)(args:List WData):l.row.toRowW.claim.post args (.bool true) args=true:=
 postW_of (r:=l.row.toRowW) (X:=(true==true))
  (show H0 [] (.bool true) .bool=true by first|rfl|decide|simp[H0,WShape.arms,WShape.armsAll])
  (show(WTm.eq .res (.lit (.bool true))).value [] { args:=args,res:=some (.bool true),after:=args }=some (.bool (true==true)) from w_eq_bool (w_res rfl) w_lit) rfl
theorem attach_call{l:HF}{n:Nat}{q:A5}{L:List Str}{XP:(Str->Option Value)->Heap->Prop}{YP:AM->Heap->Prop}{d:DefRec}
 (hn:l.most=some n) (q2:d.params.defaults=[])
 (call:∀(w:AM) (s₀ I:Ad) (mg mb:Str->Option Value) (fa:Addr) (o:Obj) (pm cd doc:Value) (a:Addr) (vs:List Value) (ns:List Int),
  Ground q L [] XP w s₀ mg mb I.heap->YP w I.heap ->
  I.heap.get? fa=some o->o.data=.func (docDef d.name d.params d.body d.scope pm cd doc)->I.heap.CodeRec cd d.name->mg d.name=some (.ref fa) ->
  I.heap.get? a=some { cls:=.type "list",data:=.seq vs.toArray }->FT vs ns->ns.length<=n->I.gens=#[] ->
  D8 (Au l.prog w) DZ (.call (.ref fa) ⟨[.ref a],[]⟩) (λr s'=>r=.ok (.ret (.bool true))/\OldK I.heap s'.heap/\s'.os=I.os/\Dr s'.gens) I) :
 WalkO q L XP YP l.row.toRowW d [] (λf vs=>Gf f vs):=by intro w s₀ I mg mb G' Y fa o pm cd doc dV kV ho hd q1 hD q3 hg args q6 as q0 q5 q8 q4 q7;obtain rfl:dV=.none:=Dflts.none hD q2;obtain rfl:kV=.none:=Dflts.noKw hD;obtain⟨a,vs,ns,rfl,rfl,W,M,U⟩:=zJ hn q0 q4;refine enter_call (Fp (call w s₀ I mg mb fa o pm cd doc a vs ns G' Y ho (fd_plain hd) q1 q3 W M U hg) λr s' hq=>?_);obtain⟨rfl,h2,h3,h4⟩:=hq;exact⟨.inl ⟨.bool true,.bool true,[],rfl,λ_=>rfl,.bool true,zK l _,λ_=>⟨Fq,λ_ hm=>(nomatch hm)⟩⟩,h2,h3,h4⟩
end Att
namespace L2
open PySem PySem.Spec PyProof.Rows
theorem nZ:∀{vs:List Value} {ns:List Int},FT vs ns->aQ (ns.map V.int) vs
 | _,_,.nil=>.nil|_,_,.cons n t h=>.cons ⟨t,rfl⟩ (nZ h)
noncomputable def aCY(H:Hp):Prop:=∀b,H b=none\/∃o xs,H b=some (.frz o (.lst xs))
theorem aAH{P:A5}{w:AM}{K:Ai}{mg mb:Str->Option Value}{CX:CXT}{k:Nat}{fa a:Addr}{fd:Cv}{x:Str}{sp:Sp}{I:Ad}{vs:List Value}{ns:List Int}
 (KX:K.In I.heap) (q3:I.heap.Ns AF mg) (hb:I.heap.Ns EM mb) (q7:∀x:Str,x ≠ "__name__" -> mb x=B8 x) (q2:I.heap.NoLimit) (hg:I.gens=#[])
 (ha:I.heap.get? a=some { cls:=.type "list",data:=.seq vs.toArray }) (hi:FT vs ns) (hl:ns.length<=sizeLine) (hr:jC k DZ)
 (F:∀base:Heap,K.In base->base.Ns AF mg->nJ P w K mg base CX k fa fd [x] sp) (q0:∀(s:Ad) (u:Value),GK s fd ⟨[u],[]⟩ [(x,u)])
 (q8:∀H:Hp,aCY H->SqL K H a (ns.map V.int)->sp [.ref a] H (λv _=>v=.bl true) λ_ _ _=>False)
 (q6:∀H e M,CX [] H I (λ_ _ _=>False) e M->False) :
 D8 (Au P w) DZ (.call (.ref fa) ⟨[.ref a],[]⟩) (λr M=>r=.ok (.ret (.bool true))/\OldK I.heap M.heap/\M.os=I.os/\Dr M.gens) I:=by
 have rv:=nZ hi;have q5:=hi.length;have W:∀H:Hp,aCY H->SqL K H a (ns.map V.int)->HOk P w H I.heap->(∀b,H b≠none->b=a)->(H a≠none->K.lookup a=none) ->
  D8 (Au P w) DZ (.call (.ref fa) ⟨[.ref a],[]⟩) (λr M=>r=.ok (.ret (.bool true))/\OldK I.heap M.heap/\M.os=I.os/\Dr M.gens) I:=by
  intro H hO hS hok hA hK;have L:∀{b:Addr} {o:Obj},I.heap.get? b=some o->H b=none->(pF I.heap H).get? b=some o:=λe n=>aAr e n;have q9:∀{b:Addr} {o:Obj} {es:Array Dt} {ep:Nat},I.heap.get? b=some o->o.data=.dict es ep->H b=none:=λ{b o es ep} e d=>by
   cases q:H b with
   | none=>rfl|some u=>have e':b=a:=hA b (by rw[q];simp);subst e';rw[ha] at e;cases e;have d':Gg vs.toArray _=Data.dict es ep:=d;cases d'
  have U:∀{b:Addr} {m:Str->Option Value},I.heap.Ns b m->(pF I.heap H).Ns b m:=λ{b m} ⟨o,es,ep,e,d,r⟩=>⟨o,es,ep,L e (q9 e d),d,r⟩
  have q1:K.In (pF I.heap H):=λb o e=>L (KX b o e) (by
   cases q:H b with
   | none=>rfl|some u=>
    have e':b=a:=hA b (by rw[q];simp);subst e';rw[hK (by rw[q];simp)] at e;cases e)
  have hM:Mod K mg (pF I.heap H):=⟨q1,U q3,⟨mb,U hb,q7⟩,let ⟨mc,h1,h2⟩:=q2;⟨mc,U h1,h2⟩⟩
  have e0:aCQ P w K mg (pF I.heap H) DZ [] I H:=⟨rfl,hM,λb o e=>aCF e,GM (zD _ _),trivial,λb hb=>absurd (show b∈([]:List Addr) from hb) (by simp),hok,.of_eq hg⟩
  refine Fp ((F _ q1 (U q3)).run DZ [] I H ⟨[.ref a],[]⟩ [.ref a] [.ref a] _ _ hr e0 (q0 I (.ref a)) (.cons rfl .nil) (q8 H hO hS)) λr M h=>?_;cases r with
  | error e=>exact(q6 H e M h).elim|ok fl=>
   cases fl with
   | next=>exact Cr h|brk=>exact Cr h|cont=>exact Cr h|ret u=>
    obtain⟨v,H',os,bare,un,q4,r',q⟩:=h;have q':v=.bl true:=q;subst q';obtain rfl:u=EJ true:=r';refine⟨rfl,OldK.of_keep λb o e=>?_,os,bare⟩;cases q:H b with
    | none=>exact un.keep b o e q (by intro z;exact absurd (show b∈([]:List Addr) from z) (by simp)) (by simp)|some u=>
     rcases hO b with z|⟨ob,xs,z⟩
     rw[q] at z;cases z;have z2:=un.frzs b ob _ z;obtain⟨e1,_⟩:=hok b _ z;obtain⟨e2,_⟩:=q4 b _ z2;rw[e] at e1;cases e1;exact e2
 cases hk:K.lookup a with
 | some o=>have e:=KX a o hk;rw[ha] at e;cases e;refine W (λ_=>none) (λ_=>.inl rfl) (.inr ⟨_,vs.toArray,_,hk,rfl,rfl,rfl,by rw[Ak,q5];exact hl,by simpa using rv⟩) (λb u z=>by have z':(none:Option HO)=some u:=z;cases z') (λb z=>absurd rfl z) λz=>absurd rfl z|none=>refine W (λb=>if b=a then some (.frz { cls:=.type "list",data:=.seq vs.toArray } (.lst (ns.map V.int))) else none) (λb=>?_) (.inl (.inr ⟨{ cls:=.type "list",data:=.seq vs.toArray },if_pos rfl⟩)) (λb u z=>?_) (λb z=>?_) λ_=>hk;by_cases hb:b=a;exact .inr ⟨_,_,if_pos hb⟩;exact .inl (if_neg hb);by_cases hb:b=a;have z':=(if_pos hb).symm.trans z;cases z';subst hb;exact⟨ha,by rw[Ef];exact hl,vs,_,rv,ha⟩;have z':=(if_neg hb).symm.trans z;cases z';by_cases hb:b=a;exact hb;exact absurd (if_neg hb) z
noncomputable def gJ(s:B5):E3:=match s with|.FunctionDef _ a _ _ _ _ _ _ _ _=>a|_=>{ posonlyargs:=[],args:=[],vararg:=none,kwonlyargs:=[],kw_defaults:=[],kwarg:=none,defaults:=[] }
noncomputable def iI(s:B5):List B5:=match s with|.FunctionDef _ _ b _ _ _ _ _ _ _=>b|_=>[]
noncomputable def bO(s:B5):Ck:=match s with|.FunctionDef _ _ _ _ _ _ sc _ _ _=>sc|_=>{ kind:=.function,names:=[],isGenerator:=false,isCoroutine:=false }
abbrev E0:XK:=λ_ _ _=>False
structure Fun (K:Ai) (x qual:Str) (st:B5) (f:Addr) (fd:Cv):Prop where
 ex:∃(oc:Value) (od:Option Addr) (kV doc pm:Value) (an:Option Addr) (cdv ct:Value) (osl:Array (Option Value)),
  fd=DT x qual (gJ st) (iI st) (bO st) .none kV doc pm an cdv ct/\K.lookup f=some ⟨oc,od,.func fd,osl⟩/\Ga K cdv qual=true
 kp:Da K (.ref f)=true
section
variable {P:A5} {w:AM} {K:Ai} {mg:Str->Option Value} {base:Heap}
theorem Fun.binds{x qual:Str}{st:B5}{f:Addr}{fd:Cv}{ps:List Str}(F:Fun K x qual st f fd)
 (h:∀(kV doc pm:Value) (an:Option Addr) (cdv ct:Value) (us:List Value),us.length=ps.length->FX (DT x qual (gJ st) (iI st) (bO st) .none kV doc pm an cdv ct) ⟨us,[]⟩=pure (ps.zip us)):iH K fd ps []:=by obtain⟨oc,od,kV,doc,pm,an,cdv,ct,osl,rfl,I,q⟩:=F.ex;exact .all (h kV doc pm an cdv ct)
end
theorem aHP{A B:Prop}(h:B):if false=true then A else B:=by rw[if_neg EI];exact h
theorem aKt{A B:Prop}(h:A):if true=true then A else B:=by rw[if_pos rfl];exact h
noncomputable def aG(H H':Hp):Prop:=∀b o,H b=some o->H' b=some o
theorem aG.refl(H:Hp):aG H H:=λ_ _ h=>h
theorem aG.trans{H H1 q:Hp}(a:aG H H1)(b:aG H1 q):aG H q:=λc o h=>b c o (a c o h)
theorem aG.free{H H':Hp}(e:aG H H'){l:Addr}(h:H' l=Hi):H l=Hi:=by
 cases q:H l with
 | none=>rfl|some o=>rw[e l o q] at h;cases h
theorem aG.seq{K:Ai}{H H':Hp}{a:Addr}{xs:List V}(e:aG H H')(h:SqL K H a xs):SqL K H' a xs:=by rcases h with(h|⟨o,h⟩)|h;exact .inl (.inl (e _ _ h));exact .inl (.inr ⟨o,e _ _ h⟩);exact .inr h
end L2
end
namespace Hp
open PySem (Str Operator CmpOp)
inductive D where
 | non|bl (b:Bool)|int (i:Int)|str (x:Str)
 | tup (ds:List D)|lst (ds:List D)
 | dic (kvs:List (D×D))
 | err (c:Str) (fs:List D)
 deriving Inhabited
mutual
noncomputable def noL:D->Bool
 | .tup ds=>noLs ds|.lst _=>false|.dic _=>false|.err _ _=>false|_=>true
noncomputable def noLs:List D->Bool
 | []=>true|d::ds=>noL d&&noLs ds
end
mutual
noncomputable def wH:D->Bool
 | .tup ds=>noDics ds|.lst ds=>noDics ds|.dic _=>false|.err _ _=>false|_=>true
noncomputable def noDics:List D->Bool
 | []=>true|d::ds=>wH d&&noDics ds
end
noncomputable def lim:Nat:=1000000
noncomputable def b2i(b:Bool):Int:=if b then 1 else 0
noncomputable def eqL(f:D->D->Option Bool):List D->List D->Option Bool
 | [],[]=>some true|a::as,b::bs=>match f a b,eqL f as bs with|some x,some y=>some (x&&y)|_,_=>none
 | _,_=>some false
noncomputable def eqF:Nat->D->D->Option Bool
 | 0,_,_=>none|n+1,a,b=>match a,b with|.non,.non=>some true|.bl a,.bl b=>some (a==b)|.int a,.int b=>some (a==b)|.str a,.str b=>some (a==b)|.bl a,.int b=>some (b2i a==b)|.int a,.bl b=>some (a==b2i b)|.tup as,.tup bs=>eqL (eqF n) as bs|.lst as,.lst bs=>if as.length=bs.length then eqL (eqF n) as bs else some false|.dic _,_=>none|_,.dic _=>none|.err _ _,_=>none|_,.err _ _=>none|_,_=>some false
noncomputable def eF(n:Nat):List D->List D->Option Bool
 | [],[]=>some true|a::as,b::bs=>match eqF n a b,eF n as bs with|some x,some y=>some (x&&y)|_,_=>none
 | _,_=>some false
@[simp] theorem uU (n:Nat):∀as bs:List D,eqL (eqF n) as bs=eF n as bs
 | [],[]=>rfl|[],_::_=>rfl|_::_,[]=>rfl|a::as,b::bs=>by rw[eqL,eF,uU n as bs]
noncomputable def pR:Nat:=120
noncomputable def eqD(a b:D):Option Bool:=eqF pR a b
inductive R (α:Type) where
 | ok (a:α)|exc (x:D)|bad
 deriving Inhabited
noncomputable def R.bind{α β:Type}(x:R α)(f:α->R β):R β:=match x with|.ok a=>f a|.exc e=>.exc e|.bad=>.bad
instance:Monad R where
 pure:=.ok
 bind:=.bind
noncomputable def R.of{α:Type}:Option α->R α
 | some a=>.ok a|none=>.bad
noncomputable def R.calm{α:Type}:R α->R α
 | .exc _=>.bad|x=>x
noncomputable def R.iff{α:Type}(c:Bool)(x:R α):R α:=if c then x else .bad
structure Vl where
 d:D
 fr:Bool:=false
 pa:Bool:=false
 al:List Nat:=[]
 deriving Inhabited
noncomputable def Vl.cl(d:D):Vl:=⟨d,false,false,[]⟩
noncomputable def Vl.sub(v:Vl)(d:D):Vl:=if noL d then .cl d else ⟨d,false,v.pa,v.al⟩
set_option genInjectivity true in
inductive Sl where
 | dead|sh (pa:Bool) (d:D)|own (pa:Bool) (ds:List D)|lent (ds:List D)|own2 (dss:List (List D))
 deriving Inhabited
abbrev Sg:=List Sl
noncomputable def Sl.val(i:Nat):Sl->R Vl
 | .dead=>.bad|.sh pa d=>.ok ⟨d,false,pa&&!noL d,[]⟩|.own pa ds=>.ok ⟨.lst ds,false,pa,[i]⟩|.lent _=>.bad|.own2 _=>.bad
noncomputable def bJ(Z:Sg)(i:Nat):R Vl:=match Z[i]? with|some s=>s.val i|none=>.bad
noncomputable def Sl.freeze:Sl->Sl
 | .own pa ds=>.sh pa (.lst ds)|s=>s
noncomputable def freeze(Z:Sg):List Nat->Sg
 | []=>Z|i::is=>freeze (match Z[i]? with|some s=>Z.set i s.freeze|none=>Z) is
noncomputable def Vl.slot(v:Vl):Sl:=match v.fr,v.d with|true,.lst ds=>.own v.pa ds|_,d=>.sh v.pa d
inductive Bi where
 | len|list|tuple|min|int
 deriving DecidableEq,Inhabited
inductive Cl where
 | tInt|tBool|tStr|tList|tTuple|own (c:Str)|tValueError
 deriving DecidableEq,Inhabited
inductive T where
 | n (i:Nat)
 | t (ts:List Nat)
 deriving Inhabited
mutual
inductive E where
 | c (d:D)
 | v (i:Nat)
 | op (o:Operator) (a b:E)
 | neg (a:E)
 | nt (a:E)
 | an (a b:E)
 | orr (a b:E)
 | ife (t a b:E)
 | cmp (o:CmpOp) (a b:E)
 | cmp2 (o o':CmpOp) (a b c:E)
 | idx (a b:E)
 | sli (a:E) (up:Bool) (k:Nat)   -- a[:k],a[k:]
 | tup (es:Es)
 | lst (es:Es)
 | dic (ks vs:Es)
 | call (f:Nat) (es:Es)
 | bi (b:Bi) (es:Es)
 | isi (a:E) (cs:List Cl)
 | isx (a:E) (cs:List Cl)
 | comp (k:Nat) (caps:List Nat) (t:T) (it:It) (cond:Es) (elt:E)
 | tget (i:Nat) (a:E)   -- a dict of the module,.get(a)
 | row (i:Nat) (a:E)   -- x[a],x an own list
 | hid (i:Nat) (a:E)   -- a,read while the slot's rows stay;what is told holds none of them
 | lix (i:Nat) (k:E)   -- x[k],x lent
inductive Es where
 | nil|cons (e:E) (es:Es)
inductive It where
 | seq (e:E)|rng (a b:E)|zip (a b:E)
end
instance:Inhabited E:=⟨.c .non⟩
mutual
inductive EL where
 | e (a:E)
 | op (o:Operator) (a b:EL)
 | idx (a b:EL)
 | tup (es:ELs)
 | call (f:Nat) (es:ELs)   -- f(x,..),x lent
 | lst (es:ELs)
 | cmp (o:CmpOp) (a b:EL)
 | int (a:EL)   -- int(a)
 | comp (k:Nat) (caps:List Nat) (t:T) (n:EL) (l':Nat) (elt:EL)   -- [elt for t in range(n)]
inductive ELs where
 | nil|cons (e:EL) (es:ELs)
end
mutual
inductive S where
 | set (t:T) (e:E)
 | mov (i j:Nat)
 | setIx (i:Nat) (k e:E)
 | app (i:Nat) (e:E)
 | ret (e:E)
 | retv (i:Nat)
 | iff (c:E) (a b:Ss)
 | for (t:T) (it:It) (b:Ss)
 | ex (e:E)
 | rse (c:Str) (keep:Bool) (es:Es)
 | tryAs (b:Ss) (c:Str) (i j:Nat)   -- try: b except c as j: i=j
 | ixF (i:Nat) (k j e:E)   -- i[k][j]=e,behind which i is a plain list of one's own
 | thaw (i:Nat)   -- no text: from here on a list of lists is a plain list of one's own
 | tryR (b:Ss) (cs:List Str) (c:Str) (e:E)   -- try: b except cs: raise c(e) from None
 | set2 (i y:Nat)   -- i=[list(r) for r in y]
 | lend   -- slot 0 is lent (no text)
 | lset (i:Nat) (k e:E)
 | setL (i l:Nat) (fz:List Nat) (e:EL)
 | appL (i l:Nat) (e:EL)
 | retL (e:EL)
 | retvL (i:Nat)
 | iffL (o:CmpOp) (a:EL) (b:E) (x y:Ss)
 | forL (t:T) (e:EL) (b:Ss)
 | forC (t:T) (l:Nat) (fz:List Nat) (e:EL) (b:Ss)   -- for t in [.. lent calls ..]: plain things
inductive Ss where
 | nil|cons (s:S) (ss:Ss)
end
structure Fn where
 np:Nat
 ns:Nat
 body:Ss
structure Pg where
 fns:List Fn
 above:List (Str×List Cl)
 tabs:List (List (Str×D)):=[]
abbrev Rt:=D×Bool×Bool
abbrev Caller:=Nat->List D->R Rt
noncomputable def oA(i j:Int):Bool:=(decide (-(2 ^ 64)<i)&&decide (i<2 ^ 64))||(decide (-(2 ^ 64)<j)&&decide (j<2 ^ 64))
noncomputable def rV(j:Int):Bool:=decide (0<j)&&decide (j<1073741824)
noncomputable def aR(k:Int):Bool:=decide (-(2 ^ 62)<=k)&&decide (k<2 ^ 62)
noncomputable def Str.rep(x:Str)(k:Nat):Str:=⟨(Ae k x.cps).foldl (·++·) #[]⟩
@[simp] noncomputable def aFt (x y:Vl):R Vl:=match x.d,y.d with|.int i,.int j=>.ok (.cl (.int (i+j)))|.str a,.str b=>.iff (decide (a.length+b.length<=lim)) (.ok (.cl (.str (a++b))))|.tup a,.tup b=>.iff (decide (a.length+b.length<=lim)) (.ok ⟨.tup (a++b),false,x.pa||y.pa,x.al++y.al⟩)|.lst a,.lst b=>.iff (decide (a.length+b.length<=lim)) (.ok ⟨.lst (a++b),true,(x.pa&&!noLs a)||(y.pa&&!noLs b),(if noLs a then [] else x.al)++(if noLs b then [] else y.al)⟩)|_,_=>.bad
@[simp] noncomputable def aFu (x y:Vl):R Vl:=match x.d,y.d with|.int i,.int j=>.iff (oA i j) (.ok (.cl (.int (i*j))))|.str a,.int k=>.iff (aR k&&decide (a.length*k.toNat<=lim)) (.ok (.cl (.str (Str.rep a k.toNat))))|.lst a,.int k=>.iff (aR k&&decide (a.length*k.toNat<=lim)) (.ok ⟨.lst (Ae k.toNat a).flatten,true,x.pa&&!noLs a,if noLs a then [] else x.al⟩)|_,_=>.bad
@[simp] noncomputable def zL (f:Int->Int->R Vl) (x y:Vl):R Vl:=match x.d,y.d with|.int i,.int j=>f i j|_,_=>.bad
noncomputable def opD(o:Operator)(x y:Vl):R Vl:=match o with|.Add=>aFt x y|.Mult=>aFu x y|.Sub=>zL (λi j=>.ok (.cl (.int (i-j)))) x y|.FloorDiv=>zL (λi j=>.iff (rV j) (.ok (.cl (.int (i / j))))) x y|.Mod=>zL (λi j=>.iff (decide (0<j)) (.ok (.cl (.int (i % j))))) x y|_=>.bad
noncomputable def aAI:D->Option Bool
 | .non=>some false|.bl b=>some b|.int i=>some (i != 0)|.str x=>if x.length<=lim then some (x.length != 0) else none|.tup ds=>some (!ds.isEmpty)|.lst ds=>some (!ds.isEmpty)|_=>none
noncomputable def eK(x:Vl):R Bool:=.of (aAI x.d)
noncomputable def ltD:D->D->Option Bool
 | .int a,.int b=>some (decide (a<b))|_,_=>none
noncomputable def leD:D->D->Option Bool
 | .int a,.int b=>some (decide (a<=b))|_,_=>none
noncomputable def isNone:D->Bool
 | .non=>true|_=>false
noncomputable def bT(o:CmpOp)(x y:D):Option Bool:=match o with
 | .Eq=>eqD x y|.NotEq=>(eqD x y).map (!·)|.Lt=>ltD x y|.Gt=>match x,y with|.int a,.int b=>some (decide (b<a))|_,_=>none
 | .LtE=>leD x y|.Is=>match y with|.non=>some (isNone x)|_=>none
 | _=>none
noncomputable def ixN(n:Nat)(k:Int):Option Nat:=
 if 0<=k then (if k<n then some k.toNat else none) else (if -(n:Int)<=k then some (k+n).toNat else none)
noncomputable def bW(x y:Vl):R Vl:=match x.d,y.d with
 | .lst ds,.int k=>match ixN ds.length k with
  | some j=>match ds[j]? with|some d=>.ok (x.sub d)|none=>.bad
  | none=>.bad
 | .tup ds,.int k=>match ixN ds.length k with
  | some j=>match ds[j]? with|some d=>.ok (x.sub d)|none=>.bad
  | none=>.bad
 | .str a,.int k=>.iff (decide (a.length<=lim)) (match ixN a.length k with
  | some j=>match a.cps.toList[j]? with|some c=>.ok (.cl (.str ⟨#[c]⟩))|none=>.bad
  | none=>.bad)
 | _,_=>.bad
noncomputable def sIx(n d:Nat):Option Int->Nat
 | none=>d|some v=>if v<0 then (v+(n:Int)).toNat else min v.toNat n
noncomputable def cut{α:Type}(xs:List α)(lo hi:Option Int):List α:=(xs.drop (sIx xs.length 0 lo)).take (sIx xs.length xs.length hi-sIx xs.length 0 lo)
noncomputable def rW(x:Vl)(lo hi:Option Int):R Vl:=match x.d with|.lst ds=>.ok ⟨.lst (cut ds lo hi),true,x.pa&&!noLs ds,if noLs ds then [] else x.al⟩|.tup ds=>.ok ⟨.tup (cut ds lo hi),false,x.pa&&!noLs ds,if noLs ds then [] else x.al⟩|_=>.bad
noncomputable def isI(cs:List Cl)(P:Pg):D->Option Bool
 | .non=>some false|.bl _=>some (cs.contains .tBool||cs.contains .tInt)|.int _=>some (cs.contains .tInt)|.str _=>some (cs.contains .tStr)|.tup _=>some (cs.contains .tTuple)|.lst _=>some (cs.contains .tList)|.dic _=>some false|.err _ _=>none
noncomputable def nM:D->Bool
 | .err c _=>decide (c=⟨#[]⟩)|_=>false
noncomputable def isX(cs:List Cl)(P:Pg):D->Option Bool
 | .err c _=>match P.above.lookup c with|some ab=>some (cs.any λa=>ab.contains a)|none=>none
 | _=>none
@[simp] noncomputable def aAJ (b:Bi) (x:Vl):R Vl:=match b with
 | .len=>match x.d with|.lst ds=>.ok (.cl (.int ds.length))|.tup ds=>.ok (.cl (.int ds.length))|.str a=>.iff (decide (a.length<=lim)) (.ok (.cl (.int a.length)))|_=>.bad
 | .list=>match x.d with|.lst ds=>.ok ⟨.lst ds,true,x.pa&&!noLs ds,if noLs ds then [] else x.al⟩|.tup ds=>.ok ⟨.lst ds,true,x.pa&&!noLs ds,if noLs ds then [] else x.al⟩|_=>.bad
 | .tuple=>match x.d with|.lst ds=>.ok ⟨.tup ds,false,x.pa&&!noLs ds,if noLs ds then [] else x.al⟩|.tup ds=>.ok ⟨.tup ds,false,x.pa,x.al⟩|_=>.bad
 | .int=>match x.d with|.int i=>.ok (.cl (.int i))|.bl b=>.ok (.cl (.int (b2i b)))|_=>.bad
 | _=>.bad
@[simp] noncomputable def aHQ (b:Bi) (x y:Vl):R Vl:=match b with
 | .min=>match x.d,y.d with|.int i,.int j=>.ok (.cl (.int (if j<i then j else i)))|_,_=>.bad
 | _=>.bad
noncomputable def biD(b:Bi)(xs:List Vl):R Vl:=match xs with|[x]=>aAJ b x|[x,y]=>aHQ b x y|_=>.bad
noncomputable def unionAl(vs:List Vl):List Nat:=vs.flatMap (·.al)
noncomputable def anyPa(vs:List Vl):Bool:=vs.any (·.pa)
noncomputable def wJ(vs:List Vl):Vl:=⟨.tup (vs.map (·.d)),false,anyPa vs,unionAl vs⟩
noncomputable def rX(vs:List Vl):Vl:=⟨.lst (vs.map (·.d)),true,anyPa vs,unionAl vs⟩
noncomputable def eT(args:List Vl)(r:Rt):Vl:=if r.2.2 then ⟨r.1,r.2.1,anyPa args,unionAl args⟩ else ⟨r.1,r.2.1,false,[]⟩
noncomputable def bQ(a b:Int):List D:=(Bt (b-a).toNat).map λ(k:Nat)=>.int (a+(k:Int))
noncomputable def jD:List D->List D->List D
 | a::as,b::bs=>.tup [a,b]::jD as bs|_,_=>[]
noncomputable def aY(Z:Sg)(v:Vl):T->R Sg
 | .n i=>.ok (Z.set i v.slot)|.t is=>match v.d with|.tup ds=>if ds.length=is.length then .ok ((is.zip ds).foldl (λZ p=>Z.set p.1 (v.sub p.2).slot) Z) else .bad|_=>.bad
noncomputable def cR(f:Vl->R (Option Vl)):List Vl->R (List Vl)
 | []=>.ok []|x::xs=>do
  let y<-f x
  let ys<-cR f xs
  match y with
  | some y=>.ok (y::ys)|none=>.ok ys
noncomputable def rY:D->Option (List D)
 | .lst ds=>some ds|.tup ds=>some ds|_=>none
noncomputable def items(x:Vl)(ds:List D):List Vl:=ds.map x.sub
noncomputable def dJ(k:Nat)(caps al:List Nat)(vs:List Vl):Vl:=
 if noLs (vs.map (·.d)) then ⟨.lst (vs.map (·.d)),true,false,[]⟩
 else ⟨.lst (vs.map (·.d)),true,anyPa vs,al++(unionAl vs).filterMap λj=>caps[j-k]?⟩
noncomputable def o2D(dss:List (List D)):D:=.lst (dss.map .lst)
noncomputable def aCZ(Z:Sg):Bool:=Z.all λs=>match s with|.own2 _=>false|_=>true
noncomputable def fM(x:Vl):Bool:=match x.d with|.lst ds=>x.fr&&noLs ds|d=>noL d
noncomputable def fN:List D->Option (List (List D))
 | []=>some []|.lst ds::r=>if noLs ds then (fN r).map (ds::·) else none|_=>none
section
variable (P:Pg) (cl:Caller)
mutual
noncomputable def ev(Z:Sg):E->R Vl
 | .c d=>.ok (.cl d)|.v i=>bJ Z i|.op o a b=>do let x<-ev Z a;let y<-ev Z b;opD o x y
 | .neg a=>do
  let x<-ev Z a
  match x.d with
  | .int i=>.ok (.cl (.int (-i)))|_=>.bad
 | .nt a=>do let x<-ev Z a;let k<-eK x;.ok (.cl (.bl (!k)))
 | .an a b=>do
  let x<-ev Z a
  match x.d with
  | .bl true=>ev Z b|.bl false=>.ok (.cl (.bl false))|_=>.bad
 | .orr a b=>do
  let x<-ev Z a
  match x.d with
  | .bl true=>.ok (.cl (.bl true))|.bl false=>ev Z b|_=>.bad
 | .ife t a b=>do
  let x<-tst Z t
  if x then ev Z a else ev Z b
 | .cmp o a b=>do
  let x<-ev Z a
  let y<-ev Z b
  match bT o x.d y.d with
  | some k=>.ok (.cl (.bl k))|none=>.bad
 | .cmp2 o o' a b c=>do
  let x<-ev Z a
  let y<-ev Z b
  match bT o x.d y.d with
  | some true=>do
   let z<-ev Z c
   match bT o' y.d z.d with
   | some k=>.ok (.cl (.bl k))|none=>.bad
  | some false=>.ok (.cl (.bl false))|none=>.bad
 | .idx a b=>do let x<-ev Z a;let y<-ev Z b;bW x y
 | .sli a up k=>do let x<-ev Z a;rW x (if up then none else some k) (if up then some k else none)
 | .tup es=>do let vs<-evs Z es;.ok (wJ vs)
 | .lst es=>do let vs<-evs Z es;.ok (rX vs)
 | .dic ks vs=>do
  let ks<-evs Z ks
  let vs<-evs Z vs
  match (ks.map (λ(v:Vl)=>v.d):List D),(vs.map (λ(v:Vl)=>v.d):List D) with
  | [.int k],[d]=>.iff (noL d) (.ok (.cl (.dic [(.int k,d)])))|[],[]=>.ok (.cl (.dic []))|_,_=>.bad
 | .call f es=>do
  let vs<-evs Z es
  let r<-cl f (vs.map (·.d))
  .ok (eT vs r)
 | .bi b es=>do let vs<-evs Z es;biD b vs
 | .isi a cs=>do
  let x<-ev Z a
  match isI cs P x.d with
  | some k=>.ok (.cl (.bl k))|none=>.bad
 | .isx a cs=>do
  let x<-ev Z a
  match isX cs P x.d with
  | some k=>.ok (.cl (.bl k))|none=>.bad
 | .comp k caps t it cond elt=>do
  let xs<-walk Z it
  .iff (decide (xs.1.length<=lim)) (do
   let vs<-cR (λx=>do
    let Z1<-aY (Ae k .dead++caps.map λi=>((freeze Z xs.2)[i]?).getD .dead) x t
    let k<-(tsts Z1 cond).calm
    if k then do let y<-ev Z1 elt;.ok (some y) else .ok none) xs.1
   .ok (dJ k caps xs.2 vs))
 | .tget i a=>do
  let x<-ev Z a
  match x.d,P.tabs[i]? with
  | .str k,some t=>.ok (.cl ((t.lookup k).getD .non))|_,_=>.bad
 | .lix i k=>do
  let y<-(ev Z k).calm
  match Z[i]? with
  | some (.lent ds)=>bW ⟨.lst ds,false,true,[]⟩ y|_=>.bad
 | .row i a=>match Z[i]? with
  | some (.own pa ds)=>do
   let y<-ev Z a
   match y.d with
   | .int k=>(match ixN ds.length k with
    | some j=>(match ds[j]? with
     | some d=>.ok ⟨d,false,pa&&!noL d,[]⟩|none=>.bad)
    | none=>.bad)
   | _=>.bad
  | _=>.bad
 | .hid i a=>match Z[i]? with
  | some (.own2 dss)=>do
   let x<-ev (Z.set i (.sh false (o2D dss))) a
   .iff (fM x) (.ok ⟨x.d,x.fr,false,[]⟩)
  | _=>.bad
noncomputable def tst(Z:Sg):E->R Bool
 | .nt a=>do let x<-tst Z a;.ok (!x)
 | .an a b=>do
  let x<-tst Z a
  if x then tst Z b else .ok false
 | .orr a b=>do
  let x<-tst Z a
  if x then .ok true else tst Z b
 | .c d=>eK (.cl d)|.v i=>do let x<-bJ Z i;eK x
 | .cmp o a b=>do
  let x<-ev Z a
  let y<-ev Z b
  match bT o x.d y.d with
  | some k=>.ok k|none=>.bad
 | .cmp2 o o' a b c=>do
  let x<-ev Z a
  let y<-ev Z b
  match bT o x.d y.d with
  | some true=>do
   let z<-ev Z c
   match bT o' y.d z.d with
   | some k=>.ok k|none=>.bad
  | some false=>.ok false|none=>.bad
 | .call f es=>do
  let vs<-evs Z es
  let r<-cl f (vs.map (·.d))
  eK (eT vs r)
 | .bi b es=>do let vs<-evs Z es;let x<-biD b vs;eK x
 | .idx a b=>do let x<-ev Z a;let y<-ev Z b;let z<-bW x y;eK z
 | .isi a cs=>do
  let x<-ev Z a
  match isI cs P x.d with
  | some k=>.ok k|none=>.bad
 | .isx a cs=>do
  let x<-ev Z a
  match isX cs P x.d with
  | some k=>.ok k|none=>.bad
 | _=>.bad
noncomputable def evs(Z:Sg):Es->R (List Vl)
 | .nil=>.ok []|.cons e es=>do let x<-ev Z e;let xs<-evs Z es;.ok (x::xs)
noncomputable def walk(Z:Sg):It->R (List Vl×List Nat)
 | .seq e=>do
  let x<-ev Z e
  match x.d with
  | .lst ds=>.ok (items x ds,x.al)|.tup ds=>.ok (items x ds,x.al)|.str a=>.iff (decide (a.length<=lim)) (.ok (a.cps.toList.map λn=>.cl (.str ⟨#[n]⟩),[]))|_=>.bad
 | .rng a b=>do
  let x<-ev Z a
  let y<-ev Z b
  match x.d,y.d with
  | .int i,.int j=>.iff (aR i&&aR j) (.ok ((bQ i j).map .cl,[]))|_,_=>.bad
 | .zip a b=>do
  let x<-ev Z a
  let y<-ev Z b
  match rY x.d,rY y.d with
  | some as,some bs=>.ok (items ⟨.non,false,x.pa||y.pa,x.al++y.al⟩ (jD as bs),x.al++y.al)|_,_=>.bad
noncomputable def tsts(Z:Sg):Es->R Bool
 | .nil=>.ok true|.cons e es=>do
  let x<-tst Z e
  if x then tsts Z es else .ok false
end
set_option genInjectivity true in
inductive O where
 | next (Z:Sg)|ret (v:Vl)|exc (x:D) (Z:Sg)|bad
 deriving Inhabited
noncomputable def O.from{α:Type}(Z:Sg)(x:R α)(f:α->O):O:=match x with|.ok a=>f a|.exc e=>.exc e Z|.bad=>.bad
noncomputable def O.on(o:O)(f:Sg->O):O:=match o with|.next Z=>f Z|o=>o
noncomputable def bB(f:Sg->Vl->O):List Vl->Sg->O
 | [],Z=>.next Z|x::xs,Z=>match f Z x with|.next Z'=>bB f xs Z'|o=>o
noncomputable def jX(Z:Sg)(i:Nat):Option (Bool×List D):=match Z[i]? with|some (.own pa ds)=>some (pa,ds)|_=>none
noncomputable def put(Z:Sg)(i:Nat)(v:Vl)(f:List D->Option (List D)):O:=match jX (freeze Z v.al) i with
 | some (pa,ds)=>match f ds with|some ds'=>if ds'.length<=lim then .next ((freeze Z v.al).set i (.own (pa||v.pa) ds')) else .bad|none=>.bad
 | none=>.bad
noncomputable def aHR(Z:Sg)(i:Nat)(v:Vl):O:=put Z i v λds=>some (ds++[v.d])
noncomputable def Vl.nr(v:Vl):Vl:=⟨v.d,false,v.pa,[]⟩
noncomputable def bG(Z:Sg)(l:Nat):Option (Bool×List D):=match Z[l]? with|some (.own pa ds)=>some (pa,ds)|some (.lent ds)=>some (true,ds)|_=>none
noncomputable def bU(Z:Sg)(l:Nat)(pa:Bool)(ds:List D):Sg:=match Z[l]? with|some (.own _ _)=>Z.set l (.own pa ds)|some (.lent _)=>Z.set l (.lent ds)|_=>Z
noncomputable def wK:Ss->Bool
 | .cons .lend _=>true|_=>false
noncomputable def jY(P:Pg)(f:Nat):Bool:=match P.fns[f]? with|some F=>wK F.body|none=>false
noncomputable def aAK:D->Option (D×List D)
 | .tup [d,.err c cs]=>if c=⟨#[]⟩ then some (d,cs) else none|_=>none
noncomputable def noAl(v:Vl)(Z:Sg):R (Vl×Sg):=if v.al.isEmpty then .ok (v,Z) else .bad
noncomputable def eU(Z:Sg)(l:Nat)(pa:Bool)(vs:List Vl)(q:Rt):R (Vl×Sg):=match aAK q.1 with|some (d,cs)=>.ok (⟨d,q.2.1,q.2.2&&(pa||anyPa vs),[]⟩,bU Z l (pa||anyPa vs) cs)|none=>.bad
noncomputable def cS(f:Sg->Vl->R (Vl×Sg)):List Vl->Sg->R (List Vl×Sg)
 | [],Z=>.ok ([],Z)|x::xs,Z=>do
  let y<-f Z x
  let r<-cS f xs y.2
  .ok (y.1::r.1,r.2)
noncomputable def chB(k:Nat)(caps:List Nat)(Z:Sg):Sg:=Ae k .dead++caps.map λi=>(Z[i]?).getD .dead
mutual
noncomputable def evl(l:Nat)(Z:Sg):EL->R (Vl×Sg)
 | .e a=>do let x<-ev P cl Z a;noAl x Z
 | .op o a b=>do
  let x<-evl l Z a
  let y<-evl l x.2 b
  let z<-opD o x.1.nr y.1.nr
  noAl z y.2
 | .idx a b=>do
  let x<-evl l Z a
  let y<-evl l x.2 b
  let z<-bW x.1.nr y.1.nr
  noAl z y.2
 | .tup es=>do let r<-evls' l Z es;.ok (⟨.tup (r.1.map (·.d)),false,anyPa r.1,[]⟩,r.2)
 | .call f es=>R.iff ((bG Z l).isSome&&jY P f) do
  let r<-evls' l Z es
  match bG r.2 l with
  | some (pa,cs)=>do
   let q<-cl f (.err ⟨#[]⟩ cs::r.1.map (·.d))
   eU r.2 l pa r.1 q
  | none=>.bad
 | .lst es=>do let r<-evls' l Z es;.ok (⟨.lst (r.1.map (·.d)),true,anyPa r.1,[]⟩,r.2)
 | .cmp o a b=>do
  let x<-evl l Z a
  let y<-evl l x.2 b
  match bT o x.1.d y.1.d with
  | some k=>.ok (.cl (.bl k),y.2)|none=>.bad
 | .int a=>do
  let x<-evl l Z a
  let z<-biD .int [x.1.nr]
  noAl z x.2
 | .comp k caps t n l' elt=>do
  let r<-evl l Z n
  match r.1.d with
  | .int j=>.iff (aR j) do
   let q<-cS (λZ x=>do
    let Z1<-aY (chB k caps Z) x t
    let y<-evl l' Z1 elt
    match bG Z l,bG y.2 l' with
    | some _,some (pa,cs)=>.ok (y.1,bU Z l pa cs)|_,_=>.bad) ((bQ 0 j).map .cl) r.2
   .iff (decide (q.1.length<=lim)) (.ok (⟨.lst (q.1.map (·.d)),true,anyPa q.1,[]⟩,q.2))
  | _=>.bad
noncomputable def evls'(l:Nat)(Z:Sg):ELs->R (List Vl×Sg)
 | .nil=>.ok ([],Z)|.cons e es=>do
  let x<-evl l Z e
  let r<-evls' l x.2 es
  .ok (x.1::r.1,r.2)
end
noncomputable def jZ(v:Vl)(Z:Sg):O:=match Z[(0:Nat)]? with|some (.lent cs)=>.ret ⟨.tup [v.d,.err ⟨#[]⟩ cs],v.fr,v.pa,[]⟩|_=>.bad
mutual
noncomputable def ex(Z:Sg):S->O
 | .set t e=>O.from Z (ev P cl Z e) λv=>O.from Z (aY (freeze Z v.al) v t) .next|.mov i j=>match Z[j]? with|some (.own pa ds)=>if i=j then .bad else .next ((Z.set j .dead).set i (.own pa ds))|some (.sh pa d)=>.next (Z.set i (.sh (pa&&!noL d) d))|_=>.bad
 | .setIx i k e=>O.from Z (ev P cl Z e) λv=>O.from Z (ev P cl Z k).calm λkv=>match kv.d with
  | .int k=>put Z i v λds=>match ixN ds.length k with|some j=>some (ds.set j v.d)|none=>none
  | _=>.bad
 | .app i e=>O.from Z (ev P cl Z e).calm λv=>aHR Z i v|.ret e=>O.from Z (ev P cl Z e) .ret|.retv i=>match Z[i]? with|some (.own pa ds)=>.ret ⟨.lst ds,true,pa,[]⟩|_=>O.from Z (bJ Z i) .ret
 | .iff c a b=>O.from Z (tst P cl Z c) λk=>if k then exs Z a else exs Z b|.for t it b=>O.from Z (walk P cl Z it) λxs=>bB (λZ x=>O.from Z (aY Z x t) λZ'=>exs Z' b) xs.1 (freeze Z xs.2)|.ex e=>O.from Z (ev P cl Z e) λ_=>.next Z|.rse c keep es=>O.from Z (evs P cl Z es) λvs=>.exc (.err c (if keep then vs.map (·.d) else [])) Z|.tryAs b c i j=>match exs Z b with
  | .exc x Z'=>match isX [.own c] P x with|some true=>if nM x then .bad else .next ((Z'.set i (.sh true x)).set j .dead)|_=>.bad
  | o=>o
 | .ixF i k j e=>O.from Z (ev P cl Z e) λv=>O.from Z (ev P cl Z k).calm λkv=>O.from Z (ev P cl Z j).calm λjv=>match Z[i]?,kv.d,jv.d with
  | some (.own2 dss),.int k,.int j=>(match ixN dss.length k with
   | some k=>(match dss[k]? with
    | some ds=>(match ixN ds.length j with
     | some j=>if v.al=[]/\v.fr=false then .next (Z.set i (.own v.pa ((dss.map D.lst).set k (.lst (ds.set j v.d))))) else .bad|none=>.bad)
    | none=>.bad)
   | none=>.bad)
  | _,_,_=>.bad
 | .thaw i=>match Z[i]? with|some (.own2 dss)=>.next (Z.set i (.own false (dss.map .lst)))|_=>.bad
 | .tryR b cs c _=>match exs Z b with
  | .exc (.err c' []) Z'=>match isX (cs.map .own) P (.err c' []) with|some true=>.exc (.err c [.non]) Z'|_=>.bad
  | .exc _ _=>.bad|o=>o
 | .lend=>match Z[(0:Nat)]? with|some (.sh true (.err c cs))=>if c=⟨#[]⟩ then .next (Z.set 0 (.lent cs)) else .bad|_=>.bad
 | .set2 i y=>O.from Z (bJ Z y) λv=>match v.d with
  | .lst ds=>(match fN ds,aCZ Z with
   | some dss,true=>if ds.length<=lim then .next (Z.set i (.own2 dss)) else .bad|_,_=>.bad)
  | _=>.bad
 | .lset i k e=>O.from Z (ev P cl Z e) λv=>O.from Z (ev P cl Z k).calm λkv=>match Z[i]?,kv.d with
  | some (.lent ds),.int k=>match ixN ds.length k with|some j=>if noL v.d then .next (Z.set i (.lent (ds.set j v.d))) else .bad|none=>.bad
  | _,_=>.bad
 | .setL i l fz e=>O.from Z (evl P cl l (freeze Z fz) e).calm λr=>.next (r.2.set i r.1.slot)|.appL i l e=>if (jX Z i).isSome then O.from Z (evl P cl l Z e).calm λr=>put r.2 i r.1.nr λds=>some (ds++[r.1.d]) else .bad|.retL e=>O.from Z (evl P cl 0 Z e).calm λr=>jZ r.1 r.2|.retvL i=>match Z[i]? with|some (.own pa ds)=>jZ ⟨.lst ds,true,pa,[]⟩ Z|_=>.bad
 | .iffL o a b x y=>O.from Z (evl P cl 0 Z a).calm λr=>O.from r.2 (ev P cl r.2 b).calm λz=>match bT o r.1.d z.d with|some k=>if k then exs r.2 x else exs r.2 y|none=>.bad
 | .forC t l fz e b=>O.from Z (evl P cl l (freeze Z fz) e).calm λr=>match r.1.fr,r.1.d with|true,.lst ds=>if noLs ds then bB (λZ x=>O.from Z (aY Z x t) λZ'=>exs Z' b) (items (.cl (.lst ds)) ds) r.2 else .bad|_,_=>.bad
 | .forL t e b=>O.from Z (evl P cl 0 Z e).calm λr=>match r.1.d with|.int j=>if aR j then bB (λZ x=>O.from Z (aY Z x t) λZ'=>exs Z' b) ((bQ 0 j).map .cl) r.2 else .bad|_=>.bad
noncomputable def exs(Z:Sg):Ss->O
 | .nil=>.next Z|.cons s ss=>(ex Z s).on λZ'=>exs Z' ss
end
noncomputable def gW(f:Nat)(ds:List D):R Rt:=match P.fns[f]? with
 | none=>.bad|some F=>if ds.length=F.np then
  match exs P cl ((ds.map λd=>Sl.sh true d)++Ae (F.ns-F.np) Sl.dead) F.body with
  | .ret v=>.ok (v.d,v.fr,v.pa)|.next _=>.ok (.non,false,false)|.exc x _=>.exc x|_=>.bad
  else .bad
end
noncomputable def call(P:Pg):Nat->Caller
 | 0=>λ_ _=>.bad|n+1=>gW P (call P n)
end Hp
namespace Hp
open PySem
structure Ct where
 N:List Str
 sc:List (Str×BA)
 fns:List Str
 cns:List (Str×D)
 cls:List Str
 fn:Bool
 tbs:List Str
 rsd:List Str:=[]
noncomputable def aAL(Γ:Ct)(x:Str):Bool:=match Γ.sc.lookup x with|some .local=>true|some .cell=>true|some .free=>true|_=>false
noncomputable def rZ(Γ:Ct)(x:Str):Bool:=match Γ.sc.lookup x with|some .local=>true|some .cell=>Γ.fn|_=>false
noncomputable def iJ(sc names:List (Str×BA)):List (Str×BA):=names.map λ(n,k)=>if (k==.free&&sc.lookup n==some .cell) then (n,.cell) else (n,k)
noncomputable def oE:Ag->Bool
 | .Tuple _ _ _=>true|_=>false
noncomputable def tIx:T->List Nat
 | .n i=>[i]
 | .t is=>is
noncomputable def bR(Γ:Ct)(x:Str):Bool:=match Γ.sc.lookup x with|some .globalImplicit=>true|_=>false
noncomputable def aZ(x:Str):Bool:=!(x==("__debug__" : Str))&&!(x==("__classdict__" : Str))
noncomputable def bH(Γ:Ct)(i:Nat)(x:Str):Bool:=(Γ.N[i]?==some x)&&aAL Γ x&&aZ x
noncomputable def aS(Γ:Ct)(i:Nat)(x:Str):Bool:=(Γ.N[i]?==some x)&&rZ Γ x&&aZ x
noncomputable def eqC:D->Const->Bool
 | .non,.none=>true|.bl a,.bool b=>a==b|.int a,.int b=>a==b|.str a,.str b=>a==b|_,_=>false
noncomputable def eqK:D->D->Bool
 | .non,.non=>true|.bl a,.bl b=>a==b|.int a,.int b=>a==b|.str a,.str b=>a==b|_,_=>false
noncomputable def hX:Bi->Str
 | .len => "len" | .list => "list" | .tuple => "tuple" | .min => "min" | .int => "int"
noncomputable def aAM:Bi->Bool:=λ_=>true
noncomputable def aKu:Cl->Bool
 | .own _=>false|.tValueError=>false|_=>true
noncomputable def uV(Γ:Ct):Cl->Option Str
 | .tInt=>some "int" | .tBool=>some "bool" | .tStr=>some "str" | .tList=>some "list" | .tTuple=>some "tuple" | .tValueError=>some "ValueError"
 | .own c=>some c
noncomputable def aEc(Γ:Ct)(c:Cl):Ag->Bool
 | .Name x _=>(uV Γ c==some x)&&bR Γ x&&aZ x|_=>false
noncomputable def wL(Γ:Ct)(c:Cl)(y:Ag):Bool:=match c,y with|.own x,.Name z _=>(z==x)&&bR Γ x&&aZ x&&Γ.cls.contains x|_,_=>false
noncomputable def wM(Γ:Ct):List Cl->List Ag->Bool
 | [],[]=>true|c::cs,y::ys=>wL Γ c y&&wM Γ cs ys|_,_=>false
noncomputable def aHS(Γ:Ct)(cs:List Cl)(y:Ag):Bool:=match y with
 | .Tuple es _ _=>wM Γ cs es&&decide (es.length<=1000)|.Name x _=>(match cs with
  | [.tValueError]=>(x==("ValueError" : Str))&&bR Γ x|[c]=>wL Γ c y|_=>false)
 | _=>false
noncomputable def fO(Γ:Ct):T->Ag->Bool
 | .n i,.Name x _=>aS Γ i x|.t is,.Tuple es _ _=>is.length==es.length&&(is.zip es).all λp=>match p.2 with|.Name x _=>aS Γ p.1 x|_=>false
 | _,_=>false
noncomputable def cN:Ag->List Str
 | .Name x _=>[x]
 | .Tuple es _ _=>es.filterMap fun|.Name x _=>some x|_=>none
 | _=>[]
noncomputable def uW:E->Bool
 | .c (.int i)=>i==0|_=>false
noncomputable def asC(e:Ag):Option { c:Const // ∃k p,e=.Constant c k p }:=match e with|.Constant c k p=>some ⟨c,k,p,rfl⟩|_=>none
noncomputable def asN(e:Ag):Option { x:Str // ∃p,e=.Name x p }:=match e with|.Name x p=>some ⟨x,p,rfl⟩|_=>none
noncomputable def aEd(e:Ag):Option { r:Ag×Operator×Ag // ∃p,e=.BinOp r.1 r.2.1 r.2.2 p }:=match e with|.BinOp l o r p=>some ⟨(l,o,r),p,rfl⟩|_=>none
noncomputable def aHT(e:Ag):Option { r:UnaryOp×Ag // ∃p,e=.UnaryOp r.1 r.2 p }:=match e with|.UnaryOp o x p=>some ⟨(o,x),p,rfl⟩|_=>none
noncomputable def aHU(e:Ag):Option { r:H9×List Ag×Cf // e=.BoolOp r.1 r.2.1 r.2.2 }:=match e with|.BoolOp o xs p=>some ⟨(o,xs,p),rfl⟩|_=>none
noncomputable def aKv(e:Ag):Option { r:Ag×Ag×Ag // ∃p,e=.IfExp r.1 r.2.1 r.2.2 p }:=match e with|.IfExp t a b p=>some ⟨(t,a,b),p,rfl⟩|_=>none
noncomputable def wN(e:Ag):Option { r:Ag×List CmpOp×List Ag // ∃p,e=.Compare r.1 r.2.1 r.2.2 p }:=match e with|.Compare l os rs p=>some ⟨(l,os,rs),p,rfl⟩|_=>none
noncomputable def iK(e:Ag):Option { r:Ag×Ag // ∃p,e=.Subscript r.1 r.2 p }:=match e with|.Subscript x i p=>some ⟨(x,i),p,rfl⟩|_=>none
noncomputable def aKw(e:Ag):Option { r:Option Ag×Option Ag // ∃p,e=.Slice r.1 r.2 none p }:=match e with|.Slice l h none p=>some ⟨(l,h),p,rfl⟩|_=>none
noncomputable def aEe(e:Ag):Option { r:List Ag // ∃k p,e=.Tuple r k p }:=match e with|.Tuple xs k p=>some ⟨xs,k,p,rfl⟩|_=>none
noncomputable def aEf(e:Ag):Option { r:List Ag // ∃p,e=.List r p }:=match e with|.List xs p=>some ⟨xs,p,rfl⟩|_=>none
noncomputable def jE(e:Ag):Option { r:Str×List Ag // ∃p1 p2,e=.Call (.Name r.1 p1) r.2 [] p2 }:=match e with|.Call (.Name x p1) xs [] p2=>some ⟨(x,xs),p1,p2,rfl⟩|_=>none
noncomputable def aKx(e:Ag):Option { r:Ag×Str×List Ag×Bool // ∃ap cp,e=.Call (.Attribute r.1 r.2.1 ap) r.2.2.1 [] cp/\(ap.endLine==cp.line)=r.2.2.2 }:=match e with|.Call (.Attribute x a ap) xs [] cp=>some ⟨(x,a,xs,ap.endLine==cp.line),ap,cp,rfl,rfl⟩|_=>none
noncomputable def aHV(e:Ag):Option { r:Ag×Ag // ∃p,e=.Dict [some r.1] [r.2] p }:=match e with|.Dict [some a] [b] p=>some ⟨(a,b),p,rfl⟩|_=>none
noncomputable def aFv(e:Ag):Option { r:Unit // ∃p,e=.Dict [] [] p }:=match e with|.Dict [] [] p=>some ⟨(),p,rfl⟩|_=>none
noncomputable def aHW(e:Ag):Option { r:Ag×List Comprehension×Ck // ∃p,e=.ListComp r.1 r.2.1 r.2.2 p }:=match e with|.ListComp e gs s p=>some ⟨(e,gs,s),p,rfl⟩|_=>none
noncomputable def oB{α:Type}(o:Option α)(f:α->Bool):Bool:=match o with|some a=>f a|none=>false
noncomputable def oS{α:Type}{q:α->Prop}(o:Option { a:α // q a })(f:α->Bool):Bool:=match o with|some a=>f a.1|none=>false
noncomputable def isH:Ag->Bool
 | .Call _ _ _ _=>true|.Subscript _ _ _=>true|_=>false
mutual
noncomputable def aM(Γ:Ct):E->Ag->Bool
 | .c d,e=>oS (asC e) (eqC d)||oS (asN e) λx=>bR Γ x&&aZ x&&oB (Γ.cns.lookup x) (eqK d)|.v i,e=>oS (asN e) (bH Γ i)|.op o a b,e=>oS (aEd e) λp=>o==p.2.1&&aM Γ a p.1&&aM Γ b p.2.2|.neg a,e=>oS (aHT e) λp=>p.1==.USub&&aM Γ a p.2|.nt a,e=>oS (aHT e) λp=>p.1==.Not&&aM Γ a p.2|.an a b,e=>oS (aHU e) λp=>p.1==.And&&(match p.2.1 with
  | [x,y]=>aM Γ a x&&aM Γ b y|x::y::z::r=>aM Γ a x&&aM Γ b (.BoolOp .And (y::z::r) p.2.2)|_=>false)
 | .orr a b,e=>oS (aHU e) λp=>p.1==.Or&&(match p.2.1 with
  | [x,y]=>aM Γ a x&&aM Γ b y|x::y::z::r=>aM Γ a x&&aM Γ b (.BoolOp .Or (y::z::r) p.2.2)|_=>false)
 | .ife t a b,e=>oS (aKv e) λp=>aM Γ t p.1&&aM Γ a p.2.1&&aM Γ b p.2.2|.cmp o a b,e=>oS (wN e) λp=>(match p.2.1,p.2.2 with
  | [o'],[r]=>o==o'&&aM Γ a p.1&&aM Γ b r|_,_=>false)
 | .cmp2 o1 o2 a b c,e=>oS (wN e) λp=>(match p.2.1,p.2.2 with
  | [o1',o2'],[m,r]=>o1==o1'&&o2==o2'&&aM Γ a p.1&&aM Γ b m&&aM Γ c r|_,_=>false)
 | .idx a b,e=>oS (iK e) λp=>aM Γ a p.1&&aM Γ b p.2|.sli a up k,e=>oS (iK e) λp=>oS (aKw p.2) λq=>aM Γ a p.1&&(match up,q.1,q.2 with
  | true,none,some x=>oS (asC x) (eqC (.int k))|false,some x,none=>oS (asC x) (eqC (.int k))|_,_,_=>false)
 | .tup es,e=>oS (aEe e) λxs=>decide (xs.length<=1000)&&chkEs Γ es xs|.lst es,e=>oS (aEf e) λxs=>decide (xs.length<=1000)&&chkEs Γ es xs|.call f es,e=>oS (jE e) λp=>(Γ.fns[f]?==some p.1)&&bR Γ p.1&&aZ p.1&&chkEs Γ es p.2|.bi b es,e=>oS (jE e) λp=>aAM b&&(hX b==p.1)&&bR Γ p.1&&aZ p.1&&!p.2.isEmpty&&chkEs Γ es p.2|.row i a,e=>oS (iK e) λp=>oS (asN p.1) λx=>bH Γ i x&&aM Γ a p.2|.hid _ a,e=>isH e&&aM Γ a e|.tget i a,e=>oS (aKx e) λp=>oS (asN p.1) λx=>(p.2.1==("get" : Str))&&(Γ.tbs[i]?==some x)&&bR Γ x&&aZ x&&p.2.2.2&&(match p.2.2.1 with|[y]=>aM Γ a y|_=>false)|.lix i k,e=>oS (iK e) λp=>oS (asN p.1) λx=>bH Γ i x&&aM Γ k p.2|.isi a cs,e=>oS (jE e) λp=>(match cs,p.2 with
  | [c],[x,y]=>(p.1==("isinstance" : Str))&&bR Γ p.1&&aKu c&&aM Γ a x&&aEc Γ c y|_,_=>false)
 | .isx a cs,e=>oS (jE e) λp=>(match p.2 with
  | [x,y]=>(p.1==("isinstance" : Str))&&bR Γ p.1&&aM Γ a x&&aHS Γ cs y|_=>false)
 | .comp k caps t it cond elt,e=>oS (aHW e) λp=>(match p.2.1 with
  | [⟨tg,iter,ifs,as⟩]=>
   as==0&&(cN tg).length==k&&(caps.all λi=>decide (i<Γ.N.length))&&decide caps.Nodup&&p.2.2.kind==.function&&decide (cN tg++caps.filterMap λi=>Γ.N[i]?).Nodup &&
   ((caps.filterMap λi=>Γ.N[i]?).all λx=>p.2.2.names.lookup x==some .free&&Γ.sc.lookup x==some .cell) &&
   (p.2.2.names.all λq=>q.2 != .cell&&(q.2 != .local||p.2.2.names.lookup q.1==some .local)&&(q.2 != .free||Γ.sc.lookup q.1==some .cell)) &&
   ((tIx t).all λi=>decide (i<k))&&decide (ifs.length<=1)&&Γ.fn &&
   fO { Γ with N:=cN tg++caps.filterMap λi=>Γ.N[i]?,sc:=iJ Γ.sc p.2.2.names,fn:=false } t tg&&chkI Γ (oE tg) it iter &&
   chkEs { Γ with N:=cN tg++caps.filterMap λi=>Γ.N[i]?,sc:=iJ Γ.sc p.2.2.names,fn:=false } cond ifs &&
   aM { Γ with N:=cN tg++caps.filterMap λi=>Γ.N[i]?,sc:=iJ Γ.sc p.2.2.names,fn:=false } elt p.1
  | _=>false)
 | .dic (.cons a .nil) (.cons b .nil),e=>oS (aHV e) λp=>aM Γ a p.1&&aM Γ b p.2|.dic .nil .nil,e=>oS (aFv e) λ_=>true|.dic _ _,_=>false
noncomputable def chkEs(Γ:Ct):Es->List Ag->Bool
 | .nil,[]=>true|.cons e es,x::xs=>aM Γ e x&&chkEs Γ es xs|_,_=>false
noncomputable def chkI(Γ:Ct)(tt:Bool):It->Ag->Bool
 | .rng a b,e=>oS (jE e) λp=>(p.1==("range" : Str))&&bR Γ p.1&&(match p.2 with
  | [x]=>uW a&&aM Γ b x|[x,y]=>aM Γ a x&&aM Γ b y|_=>false)
 | .zip a b,e=>oS (jE e) λp=>(match p.2 with
  | [x,y]=>tt&&(p.1==("zip" : Str))&&bR Γ p.1&&aM Γ a x&&aM Γ b y|_=>false)
 | .seq c,x=>aM Γ c x
end
mutual
noncomputable def aV(Γ:Ct)(l:Nat):EL->Ag->Bool
 | .e a,x=>aM Γ a x|.op o a b,e=>oS (aEd e) λp=>o==p.2.1&&aV Γ l a p.1&&aV Γ l b p.2.2|.idx a b,e=>oS (iK e) λp=>aV Γ l a p.1&&aV Γ l b p.2|.tup es,e=>oS (aEe e) λxs=>decide (xs.length<=1000)&&chkELs Γ l es xs|.call f es,e=>oS (jE e) λp=>(Γ.fns[f]?==some p.1)&&bR Γ p.1&&aZ p.1&&(match p.2 with
  | x::xs=>oS (asN x) (bH Γ l)&&chkELs Γ l es xs|[]=>false)
 | .lst es,e=>oS (aEf e) λxs=>decide (xs.length<=1000)&&chkELs Γ l es xs|.cmp o a b,e=>oS (wN e) λp=>(match p.2.1,p.2.2 with
  | [o'],[r]=>o==o'&&aV Γ l a p.1&&aV Γ l b r|_,_=>false)
 | .int a,e=>oS (jE e) λp=>(p.1==("int" : Str))&&bR Γ p.1&&aZ p.1&&(match p.2 with
  | [x]=>aV Γ l a x|_=>false)
 | .comp k caps t n l' elt,e=>oS (aHW e) λp=>(match p.2.1 with
  | [⟨tg,iter,[],as⟩]=>
   as==0&&(cN tg).length==k&&(caps.all λi=>decide (i<Γ.N.length))&&decide caps.Nodup&&p.2.2.kind==.function&&decide (cN tg++caps.filterMap λi=>Γ.N[i]?).Nodup &&
   ((caps.filterMap λi=>Γ.N[i]?).all λx=>p.2.2.names.lookup x==some .free&&Γ.sc.lookup x==some .cell) &&
   (p.2.2.names.all λq=>q.2 != .cell&&(q.2 != .local||p.2.2.names.lookup q.1==some .local)&&(q.2 != .free||Γ.sc.lookup q.1==some .cell)) &&
   ((tIx t).all λi=>decide (i<k)) &&
   fO { Γ with N:=cN tg++caps.filterMap λi=>Γ.N[i]?,sc:=iJ Γ.sc p.2.2.names,fn:=false } t tg &&
   (oS (jE iter) λq=>(q.1==("range" : Str))&&bR Γ q.1&&(match q.2 with|[x]=>aV Γ l n x|_=>false)) &&
   (decide (k<=l')&&(caps[l'-k]?==some l)) &&
   aV { Γ with N:=cN tg++caps.filterMap λi=>Γ.N[i]?,sc:=iJ Γ.sc p.2.2.names,fn:=false } l' elt p.1
  | _=>false)
noncomputable def chkELs(Γ:Ct)(l:Nat):ELs->List Ag->Bool
 | .nil,[]=>true|.cons e es,x::xs=>aV Γ l e x&&chkELs Γ l es xs|_,_=>false
end
noncomputable def fP:Ag->Bool
 | .ListComp _ _ _ _=>true|.SetComp _ _ _ _=>true|.DictComp _ _ _ _ _=>true|_=>false
noncomputable def isC:E->Bool
 | .comp _ _ _ _ _ _=>true|_=>false
noncomputable def uX:Ag->Bool
 | .Tuple _ _ _=>true|.List _ _=>true|_=>false
noncomputable def aFw:Ag->Bool
 | .Name _ _=>true|_=>false
noncomputable def sA(Γ:Ct)(i:Nat)(m:Str):Ag->Option (List Ag)
 | .Call (.Attribute (.Name x _) a ap) xs [] cp=>if (a==m)&&bH Γ i x&&(ap.endLine==cp.line) then some xs else none|_=>none
noncomputable def uY(s:B5):Option { r:Ag×Ag // ∃p,s=.Assign [r.1] r.2 p }:=match s with|.Assign [t] v p=>some ⟨(t,v),p,rfl⟩|_=>none
noncomputable def sEx(s:B5):Option { r:Ag // ∃p,s=.Expr r p }:=match s with|.Expr v p=>some ⟨v,p,rfl⟩|_=>none
noncomputable def aDa(s:B5):Option { r:Option Ag // ∃p,s=.Return r p }:=match s with|.Return v p=>some ⟨v,p,rfl⟩|_=>none
noncomputable def sIf(s:B5):Option { r:Ag×List B5×List B5 // ∃p,s=.If r.1 r.2.1 r.2.2 p }:=match s with|.If t x y p=>some ⟨(t,x,y),p,rfl⟩|_=>none
noncomputable def aFx(s:B5):Option { r:Ag×Ag×List B5 // ∃p,s=.For r.1 r.2.1 r.2.2 [] p }:=match s with|.For t i b [] p=>some ⟨(t,i,b),p,rfl⟩|_=>none
noncomputable def aKy(s:B5):Option { r:Str×Ag // ∃np cp p,s=.Raise (some (.Call (.Name r.1 np) [r.2] [] cp)) none p }:=match s with|.Raise (some (.Call (.Name x np) [a] [] cp)) none p=>some ⟨(x,a),np,cp,p,rfl⟩|_=>none
structure aHX where
 body:List B5
 x:Str
 n:Str
 y:Str
noncomputable def aKz(s:B5):Option { r:aHX // ∃np yp np2 ap hp p,s=.Try r.body [.ExceptHandler (some (.Name r.x np)) (some r.n) [.Assign [.Name r.y yp] (.Name r.n np2) ap] hp] [] [] p }:=match s with|.Try body [.ExceptHandler (some (.Name x np)) (some n) [.Assign [.Name y yp] (.Name n' np2) ap] hp] [] [] p=>if h:n'=n then some ⟨⟨body,x,n,y⟩,np,yp,np2,ap,hp,p,by rw[h]⟩ else none|_=>none
structure aFy where
 body:List B5
 a:Str
 b:Str
 c:Str
 txt:Str
noncomputable def aHY(s:B5):Option { r:aFy // ∃pA pB cx tp np tj tpos cpos cj cp rp hp p,s=.Try r.body [.ExceptHandler (some (.Tuple [.Name r.a pA,.Name r.b pB] cx tp)) none [.Raise (some (.Call (.Name r.c np) [.Constant (.str r.txt) tj tpos] [] cpos)) (some (.Constant .none cj cp)) rp] hp] [] [] p }:=match s with|.Try body [.ExceptHandler (some (.Tuple [.Name a pA,.Name b pB] cx tp)) none [.Raise (some (.Call (.Name c np) [.Constant (.str txt) tj tpos] [] cpos)) (some (.Constant .none cj cp)) rp] hp] [] [] p=>some ⟨⟨body,a,b,c,txt⟩,pA,pB,cx,tp,np,tj,tpos,cpos,cj,cp,rp,hp,p,rfl⟩|_=>none
noncomputable def lT(Γ:Ct)(c:Str):Bool:=bR Γ c&&aZ c&&Γ.rsd.contains c
mutual
noncomputable def cW(Γ:Ct):S->B5->Bool
 | .set t e,s=>oS (uY s) λr=>fO Γ t r.1&&aM Γ e r.2&&(aFw r.1||!uX r.2)&&(fP r.2==isC e)|.mov i j,s=>oS (uY s) λr=>oS (asN r.1) λx=>oS (asN r.2) λy=>aS Γ i x&&bH Γ j y|.setIx i k e,s=>oS (uY s) λr=>oS (iK r.1) λu=>oS (asN u.1) λx=>bH Γ i x&&aM Γ k u.2&&aM Γ e r.2|.app i e,s=>oS (sEx s) λc=>(match sA Γ i "append" c with|some [a]=>aM Γ e a|_=>false)
 | .ret e,s=>oS (aDa s) λr=>oB r (aM Γ e)|.retv i,s=>oS (aDa s) λr=>oB r λv=>oS (asN v) (bH Γ i)|.iff c a b,s=>oS (sIf s) λr=>aM Γ c r.1&&chkSs Γ a r.2.1&&chkSs Γ b r.2.2|.for t it b,s=>oS (aFx s) λr=>fO Γ t r.1&&chkI Γ (oE r.1) it r.2.1&&chkSs Γ b r.2.2|.ex e,s=>oS (sEx s) λv=>aM Γ e v&&!fP v|.rse c _ (.cons e .nil),s=>oS (aKy s) λr=>(r.1==c)&&bR Γ c&&aZ c&&Γ.rsd.contains c&&aM Γ e r.2|.rse _ _ _,_=>false|.tryAs b c i j,s=>oS (aKz s) λr=>(r.x==c)&&bR Γ c&&aZ c&&Γ.cls.contains c&&Γ.rsd.contains c&&aS Γ i r.y&&aS Γ j r.n&&(Γ.sc.lookup r.n==some .local)&&aZ r.n&&(i != j)&&Γ.fn&&chkSs Γ b r.body|.ixF i k j e,s=>oS (uY s) λr=>oS (iK r.1) λu=>oS (iK u.1) λw=>oS (asN w.1) λx=>bH Γ i x&&aM Γ k w.2&&aM Γ j u.2&&aM Γ e r.2|.thaw _,_=>false|.tryR b cs c e,s=>oS (aHY s) λr=>(cs==[r.a,r.b])&&(r.c==c)&&lT Γ r.a&&lT Γ r.b&&lT Γ c&&Γ.cls.contains r.a&&Γ.cls.contains r.b&&(match e with|.c (.str t)=>t==r.txt|_=>false)&&Γ.fn&&chkSs Γ b r.body|.lend,_=>false|.set2 i y,s=>oS (uY s) λr=>oS (asN r.1) λx=>aS Γ i x&&aM Γ (.comp 1 [] (.n 0) (.seq (.v y)) .nil (.bi .list (.cons (.v 0) .nil))) r.2|.lset i k e,s=>oS (uY s) λr=>oS (iK r.1) λu=>oS (asN u.1) λx=>bH Γ i x&&aM Γ k u.2&&aM Γ e r.2|.setL i l _ e,s=>oS (uY s) λr=>oS (asN r.1) λx=>aS Γ i x&&aV Γ l e r.2&&!fP r.2|.appL i l e,s=>oS (sEx s) λc=>(match sA Γ i "append" c with|some [a]=>aV Γ l e a|_=>false)
 | .retL e,s=>oS (aDa s) λr=>oB r (aV Γ 0 e)|.retvL i,s=>oS (aDa s) λr=>oB r λv=>oS (asN v) (bH Γ i)|.iffL o a b x y,s=>oS (sIf s) λr=>(oS (wN r.1) λp=>(match p.2.1,p.2.2 with
  | [o'],[z]=>o==o'&&aV Γ 0 a p.1&&aM Γ b z|_,_=>false))&&chkSs Γ x r.2.1&&chkSs Γ y r.2.2
 | .forC t l _ e b,s=>oS (aFx s) λr=>fO Γ t r.1&&aV Γ l e r.2.1&&chkSs Γ b r.2.2|.forL t e b,s=>oS (aFx s) λr=>fO Γ t r.1&&(oS (jE r.2.1) λp=>(p.1==("range" : Str))&&bR Γ p.1&&(match p.2 with
  | [x]=>aV Γ 0 e x|_=>false))&&chkSs Γ b r.2.2
noncomputable def chkSs(Γ:Ct):Ss->List B5->Bool
 | .nil,[]=>true|.cons .lend ss,xs=>chkSs Γ ss xs|.cons (.thaw _) ss,xs=>chkSs Γ ss xs|.cons s ss,x::xs=>cW Γ s x&&chkSs Γ ss xs|_,_=>false
end
end Hp
namespace Hp
open PySem L2
abbrev Fg:=Ai
noncomputable def _root_.L2.excO(a C:Addr):HO:=.ext λh=>∃o,PySem.W.InstAt h a o C none
noncomputable def kD:Key->D
 | .inl i=>.int i|.inr x=>.str x
mutual
noncomputable def Rep(K:Fg)(H:Hp)(ex:Addr->Prop):D->V->Prop
 | .non,v=>v=.non|.bl b,v=>v=.bl b|.int i,v=>v=.int i|.str x,v=>v=.str x|.tup ds,v=>∃a xs,v=.ref a/\SqT K H a xs/\Reps K H ex ds xs|.lst ds,v=>∃a xs,v=.ref a/\SqL K H a xs/\¬ ex a/\Reps K H ex ds xs|.dic kvs,v=>∃a ks,v=.ref a/\H a=some (.dK ks)/\RepKV K H ex kvs ks|.err c _,v=>∃a C1,v=.ref a/\H a=some (excO a C1)/\Db K AF c=some (some (.ref C1))/\c≠⟨#[]⟩
noncomputable def Reps(K:Fg)(H:Hp)(ex:Addr->Prop):List D->List V->Prop
 | [],xs=>xs=[]
 | d::ds,xs=>∃x r,xs=x::r/\Rep K H ex d x/\Reps K H ex ds r
noncomputable def RepKV(K:Fg)(H:Hp)(ex:Addr->Prop):List (D×D)->List (Key×V)->Prop
 | [],ks=>ks=[]
 | (k,d)::r,ks=>∃k' x r',ks=(k',x)::r'/\kD k'=k/\Rep K H ex d x/\RepKV K H ex r r'
end
section
variable {K:Fg} {H H':Hp} {ex ex':Addr->Prop}
theorem aG.seqT{a:Addr}{xs:List V}(e:aG H H')(h:SqT K H a xs):SqT K H' a xs:=by rcases h with(h|⟨o,h⟩)|h;exact .inl (.inl (e _ _ h));exact .inl (.inr ⟨o,e _ _ h⟩);exact .inr h
mutual
theorem Rep.imp(L:∀a xs,SqT K H a xs->SqT K H' a xs)(I:∀a xs,¬ ex a->SqL K H a xs->¬ ex' a/\SqL K H' a xs)(hD:∀a o,(∀xs,o≠.lst xs)->H a=some o->H' a=some o) :
 ∀(d:D) (v:V),Rep K H ex d v->Rep K H' ex' d v
 | .non,_,h=>h|.bl _,_,h=>h|.int _,_,h=>h|.str _,_,h=>h|.tup ds,_,h=>by obtain⟨a,xs,e,q,r⟩:=h;exact⟨a,xs,e,L a xs q,Reps.imp L I hD ds xs r⟩|.lst ds,_,h=>by obtain⟨a,xs,e,q,n,r⟩:=h;obtain⟨U,W⟩:=I a xs n q;exact⟨a,xs,e,W,U,Reps.imp L I hD ds xs r⟩|.dic kvs,_,h=>by obtain⟨a,ks,e,q,r⟩:=h;exact⟨a,ks,e,hD a _ (λ_ z=>nomatch z) q,RepKV.imp L I hD kvs ks r⟩|.err _ _,_,h=>by obtain⟨a,M,e,q,r⟩:=h;exact⟨a,M,e,hD a _ (λ_ z=>nomatch z) q,r⟩
theorem Reps.imp(I:∀a xs,SqT K H a xs->SqT K H' a xs)(q:∀a xs,¬ ex a->SqL K H a xs->¬ ex' a/\SqL K H' a xs)(hD:∀a o,(∀xs,o≠.lst xs)->H a=some o->H' a=some o) :
 ∀(ds:List D) (xs:List V),Reps K H ex ds xs->Reps K H' ex' ds xs
 | [],_,h=>h|d::ds,_,h=>by obtain⟨x,r,e,L,M⟩:=h;exact⟨x,r,e,Rep.imp I q hD d x L,Reps.imp I q hD ds r M⟩
theorem RepKV.imp(I:∀a xs,SqT K H a xs->SqT K H' a xs)(q:∀a xs,¬ ex a->SqL K H a xs->¬ ex' a/\SqL K H' a xs)(hD:∀a o,(∀xs,o≠.lst xs)->H a=some o->H' a=some o) :
 ∀(ds:List (D×D)) (xs:List (Key×V)),RepKV K H ex ds xs->RepKV K H' ex' ds xs
 | [],_,h=>h|(k,d)::ds,_,h=>by obtain⟨W,x,r,e,L,M,U⟩:=h;exact⟨W,x,r,e,L,Rep.imp I q hD d x M,RepKV.imp I q hD ds r U⟩
end
theorem Rep.weak{d:D}{v:V}(h:Rep K H ex d v)(e:∀a,ex' a->ex a):Rep K H ex' d v:=Rep.imp (λ_ _ q=>q) (λa _ n q=>⟨λz=>n (e a z),q⟩) (λ_ _ _ q=>q) d v h
theorem Reps.weak{d:List D}{v:List V}(h:Reps K H ex d v)(e:∀a,ex' a->ex a):Reps K H ex' d v:=Reps.imp (λ_ _ q=>q) (λa _ n q=>⟨λz=>n (e a z),q⟩) (λ_ _ _ q=>q) d v h
theorem Rep.grow{d:D}{v:V}(h:Rep K H ex d v)(s:aG H H'):Rep K H' ex d v:=Rep.imp (λ_ _ q=>aG.seqT s q) (λ_ _ n q=>⟨n,s.seq q⟩) (λ_ _ _ q=>s _ _ q) d v h
theorem Reps.grow{d:List D}{v:List V}(h:Reps K H ex d v)(s:aG H H'):Reps K H' ex d v:=Reps.imp (λ_ _ q=>aG.seqT s q) (λ_ _ n q=>⟨n,s.seq q⟩) (λ_ _ _ q=>s _ _ q) d v h
theorem Rep.keep{d:D}{v:V}(h:Rep K H ex d v)(s:∀a o,H a=some o->(∀xs,o=.lst xs->¬ ex a)->H' a=some o):Rep K H' ex d v:=by refine Rep.imp (λa xs q=>?_) (λa xs n q=>⟨n,?_⟩) (λa o nl q=>s a _ q (λxs e=>absurd e (nl xs))) d v h;rcases q with(q|⟨o,q⟩)|q;exact .inl (.inl (s _ _ q λxs e=>by cases e));exact .inl (.inr ⟨o,s _ _ q λxs e=>by cases e⟩);exact .inr q;rcases q with(q|⟨o,q⟩)|q;exact .inl (.inl (s _ _ q λ_ _=>n));exact .inl (.inr ⟨o,s _ _ q λxs e=>by cases e⟩);exact .inr q
theorem Reps.keep{d:List D}{v:List V}(h:Reps K H ex d v)(s:∀a o,H a=some o->(∀xs,o=.lst xs->¬ ex a)->H' a=some o):Reps K H' ex d v:=by refine Reps.imp (λa xs q=>?_) (λa xs n q=>⟨n,?_⟩) (λa o nl q=>s a _ q (λxs e=>absurd e (nl xs))) d v h;rcases q with(q|⟨o,q⟩)|q;exact .inl (.inl (s _ _ q λxs e=>by cases e));exact .inl (.inr ⟨o,s _ _ q λxs e=>by cases e⟩);exact .inr q;rcases q with(q|⟨o,q⟩)|q;exact .inl (.inl (s _ _ q λ_ _=>n));exact .inl (.inr ⟨o,s _ _ q λxs e=>by cases e⟩);exact .inr q
mutual
theorem Rep.freeT(I:∀a xs,SqT K H a xs->SqT K H' a xs):∀(d:D) (v:V),noL d=true->Rep K H ex d v->Rep K H' ex' d v
 | .non,_,_,h=>h|.bl _,_,_,h=>h|.int _,_,_,h=>h|.str _,_,_,h=>h|.tup ds,_,n,h=>by obtain⟨a,xs,e,q,r⟩:=h;exact⟨a,xs,e,I a xs q,Reps.freeT I ds xs (by simpa[noL] using n) r⟩|.lst ds,_,n,_=>by simp[noL] at n|.dic kvs,_,n,_=>by simp[noL] at n|.err _ _,_,n,_=>by simp[noL] at n
theorem Reps.freeT(q:∀a xs,SqT K H a xs->SqT K H' a xs):∀(ds:List D) (xs:List V),noLs ds=true->Reps K H ex ds xs->Reps K H' ex' ds xs
 | [],_,_,h=>h|d::ds,_,n,h=>by obtain⟨x,r,e,I,L⟩:=h;simp only[noLs,bA] at n;exact⟨x,r,e,Rep.freeT q d x n.1 I,Reps.freeT q ds r n.2 L⟩
end
theorem Rep.free(d:D)(v:V)(n:noL d=true)(h:Rep K H ex d v):Rep K H ex' d v:=Rep.freeT (λ_ _ q=>q) d v n h
theorem Reps.free(ds:List D)(xs:List V)(n:noLs ds=true)(h:Reps K H ex ds xs):Reps K H ex' ds xs:=Reps.freeT (λ_ _ q=>q) ds xs n h
theorem Reps.length:∀{ds:List D} {xs:List V},Reps K H ex ds xs->ds.length=xs.length
 | [],_,h=>by rw[show _=[] from h];rfl|d::ds,_,h=>by obtain⟨x,r,e,_,q⟩:=h;subst e;rw[lC,lC,Reps.length q]
theorem Reps.get:∀{ds:List D} {xs:List V} {j:Nat} {d:D},Reps K H ex ds xs->ds[j]? = some d->∃x,xs[j]? = some x/\Rep K H ex d x
 | [],_,_,_,_,e=>by simp at e|d::ds,_,0,_,h,e=>by obtain⟨x,r,I,L,_⟩:=h;subst I;simp at e;subst e;exact⟨x,rfl,L⟩|d::ds,_,j+1,d',h,e=>by obtain⟨x,r,I,_,M⟩:=h;subst I;obtain⟨y,U,q⟩:=Reps.get (j:=j) (d:=d') M (by simpa using e);exact⟨y,by simpa using U,q⟩
theorem Reps.get'{ds:List D}{xs:List V}{j:Nat}{x:V}(h:Reps K H ex ds xs)(e:xs[j]? = some x):∃d,ds[j]? = some d/\Rep K H ex d x:=by
 have M:=h.length;have L:j<xs.length:=(Az.mp e).1;obtain⟨d,hd⟩:∃d,ds[j]? = some d:=⟨ds[j],Ap (by omega)⟩
 obtain⟨y,I,q⟩:=h.get hd;rw[e] at I;cases I;exact⟨d,hd,q⟩
theorem Reps.nil:Reps K H ex [] []:=rfl
theorem Reps.cons{d:D}{ds:List D}{x:V}{xs:List V}(h:Rep K H ex d x)(t:Reps K H ex ds xs):Reps K H ex (d::ds) (x::xs):=⟨x,xs,rfl,h,t⟩
theorem Reps.append:∀{ds es:List D} {xs q:List V},Reps K H ex ds xs->Reps K H ex es q->Reps K H ex (ds++es) (xs++q)
 | [],_,_,_,h,t=>by rw[show _=[] from h];exact t|d::ds,_,_,_,h,t=>by obtain⟨x,r,e,I,L⟩:=h;subst e;exact⟨x,_,rfl,I,Reps.append L t⟩
theorem Reps.take:∀{ds:List D} {xs:List V} (n:Nat),Reps K H ex ds xs->Reps K H ex (ds.take n) (xs.take n)
 | _,_,0,_=>by simp[Reps]|[],_,n+1,h=>by rw[show _=[] from h];simp[Reps]|d::ds,_,n+1,h=>by obtain⟨x,r,e,q,I⟩:=h;subst e;exact⟨x,_,rfl,q,Reps.take n I⟩
theorem Reps.drop:∀{ds:List D} {xs:List V} (n:Nat),Reps K H ex ds xs->Reps K H ex (ds.drop n) (xs.drop n)
 | _,_,0,h=>h|[],_,n+1,h=>by rw[show _=[] from h];simp[Reps]|d::ds,_,n+1,h=>by obtain⟨x,r,e,I,q⟩:=h;subst e;exact Reps.drop n q
theorem Reps.set:∀{ds:List D} {xs:List V} {d:D} {x:V} (j:Nat),Reps K H ex ds xs->Rep K H ex d x->Reps K H ex (ds.set j d) (xs.set j x)
 | [],_,_,_,_,h,_=>by rw[show _=[] from h];simp[Reps]|d::ds,_,_,_,0,h,q=>by obtain⟨x,r,e,L,I⟩:=h;subst e;exact⟨_,_,rfl,q,I⟩|d::ds,_,_,_,j+1,h,q=>by obtain⟨x,r,e,L,I⟩:=h;subst e;exact⟨x,_,rfl,L,Reps.set j I q⟩
theorem Reps.flat:∀{ds:List D} {xs:List V},Reps K H ex ds xs->∀k:Nat,Reps K H ex (Ae k ds).flatten (Ae k xs).flatten
 | _,_,_,0=>by simp[Reps]|ds,xs,h,k+1=>by rw[Bg,Bg,BY,BY];exact h.append (Reps.flat h k)
end
end Hp
namespace L2
open PySem PySem.Spec PyProof.Rows
noncomputable def kC:Value->Value
 | .int i _=>.ref i.toNat|v=>v
abbrev chC(C:Addr):Value:=.int (C:Int) 0
noncomputable def plC:Value->Bool
 | .int _ _=>false|_=>true
noncomputable def Rec(h:Heap)(e:Addr)(cls:Value)(T:Option Addr):Prop:=∃oe vs,h.get? e=some oe/\oe.cls=kC cls/\oe.dict=none/\oe.data=.fields vs/\(plC cls=true->vs[2]? = some .none)/\match T with|none=>vs[1]? = some .none|some T=>vs[1]? = some (.ref T)/\T≠e/\∃oT ts,h.get? T=some oT/\oT.data=.fields ts/\∃f:Option Addr,ts[3]? = some (f.elim .none λf=>Ca f)
structure Lx (fr:List Addr) (e:Addr) (T:Option Addr) (h h':Heap):Prop where
 keep:∀b o,h.get? b=some o->b∉fr->b≠e->T≠some b->h'.get? b=some o
 slot:∀b o,h.get? b=some o->b∈fr->∃sl,h'.get? b=some { o with slots:=sl }
theorem fQ(f:Array Value->Array Value)(o:Obj):(o.mapFields f).dict=o.dict:=by obtain⟨c,d,q,sl⟩:=o;cases q <;> rfl
section
variable {M:EC} {A:AY} {E:Value->Ad->Prop} {s:Ad}
theorem wO{base:Heap}{env:En}{outer:List En}{L e:Addr}{oe:Obj}{vs:Array Value}{U:Value}{W:Bool}{Q:Unit->Ad->Prop}
 (w5:A.frames=some (env::outer)) (hl:s.heap.FunFrames base (env::outer)) (hf:env.frame=some L)
 {cls:Value} (he:s.heap.get? e=some oe) (q9:oe.cls=kC cls) (w3:plC cls=true->vs[2]? = some .none) (w4:oe.dict=none) (hd:oe.data=.fields vs) (q8:1<vs.size)
 (h:∀h' T',s.heap.objs.size<=T'->Lx (frs (env::outer)) e none s.heap h'->Rec h' e cls (some T')->Q () { s with heap:=h' }) :
 Ao M A (do let a<-frameOf env;let pl<-GN L W;let b<-CD U a .none (Ca L) .none pl;Hj (.ref e) 1 b) Q E s:=by
 have q3:e∉(env::outer).filterMap (·.frame):=λhm=>by obtain⟨_,o,ho,w6⟩:=hl.mem hm;rw[he] at ho;injection ho with ho;subst ho;exact w6 vs hd
 refine Aa (Ft w5 hl hf λq I=>?_);refine Aa (ET λpl w7=>?_);unfold CD newFields;refine Aa (Bq ?_ (w7.sizeOk5 _ _ _ _ _));have q1:q.get? e=some oe:=(I.2.1 e q3).trans he;have q2:=Ab (h:=q) { cls:=.type "traceback",dict:=none,data:=.fields ([U,.ref L,.none,Ca L,.none]++(if pl.isEmpty then Ae 6 AG else pl)).toArray } q1;refine BB q2 hd q8 ?_;have q7:q.objs.size≠e:=B9 (Al q1);have q0:=AB hd (·.setIfInBounds 1 (AA q.objs.size));have q6:=AK (AR (·.setIfInBounds 1 (AA q.objs.size))) q2 (AQ q0);have q4:=(Am (q.push { cls:=.type "traceback",dict:=none,data:=.fields ([U,.ref L,.none,Ca L,.none]++(if pl.isEmpty then Ae 6 AG else pl)).toArray })
  (AR (·.setIfInBounds 1 (AA q.objs.size))) (Bp q7)).trans (A0 q rfl)
 refine h _ q.objs.size (by rw[I.1];exact An _) ?_ ?_;have keep:∀b o,b≠e->q.get? b=some o ->
  ((q.push { cls:=.type "traceback",dict:=none,data:=.fields ([U,.ref L,.none,Ca L,.none]++(if pl.isEmpty then Ae 6 AG else pl)).toArray }).update e (AR (·.setIfInBounds 1 (AA q.objs.size)))).get? b=some o:=λb o q5 hb=>by rw[Am _ _ (Bp q5)];exact Ab _ hb
 refine⟨λb o hb hn q5 _=>keep b o q5 ((I.2.1 b hn).trans hb),λb o hb hn=>?_⟩;obtain⟨sl,hs⟩:=I.2.2 b o hb;refine⟨sl,keep b _ (λz=>?_) hs⟩;subst z;exact q3 hn;exact⟨_,_,q6,(D9 _ _).trans q9,(fQ _ _).trans w4,q0,λz=>by have:=w3 z;simpa using this,by simp[q8],q7,_,_,q4,rfl,some L,by simp⟩
theorem wP{base:Heap}{env:En}{outer:List En}{L e:Addr}{oe:Obj}{vs:Array Value}{W:Value}{q1:Bool}{Q:Unit->Ad->Prop}
 (w7:A.frames=some (env::outer)) (hl:s.heap.FunFrames base (env::outer)) (hf:env.frame=some L)
 {cls:Value} (he:s.heap.get? e=some oe) (w4:oe.cls=kC cls) (w5:plC cls=true->vs[2]? = some .none) (w6:oe.dict=none) (hd:oe.data=.fields vs) (q8:1<vs.size)
 (h:∀h' T',s.heap.objs.size<=T'->Lx (frs (env::outer)) e none s.heap h'->Rec h' e cls (some T')->Q () { s with heap:=h' }) :
 Ao M A (do let a<-frameOf env;let pl<-GN L q1;let b<-CD W a .none (Ca L) .none pl;Hj (.ref e) 1 b) (λ_ s'=>Ao M A (De (.ref e) none) Q E s') E s:=by
 have q5:e∉(env::outer).filterMap (·.frame):=λhm=>by obtain⟨_,o,ho,w8⟩:=hl.mem hm;rw[he] at ho;injection ho with ho;subst ho;exact w8 vs hd
 refine Aa (Ft w7 hl hf λq I=>?_);refine Aa (ET λpl q9=>?_);unfold CD newFields;refine Aa (Bq ?_ (q9.sizeOk5 _ _ _ _ _));have q2:q.get? e=some oe:=(I.2.1 e q5).trans he;have q3:=Ab (h:=q) { cls:=.type "traceback",dict:=none,data:=.fields ([W,.ref L,.none,Ca L,.none]++(if pl.isEmpty then Ae 6 AG else pl)).toArray } q2;refine BB q3 hd q8 ?_;have q6:q.objs.size≠e:=B9 (Al q2);have U:=AB hd (·.setIfInBounds 1 (AA q.objs.size));have q4:=AK (AR (·.setIfInBounds 1 (AA q.objs.size))) q3 (AQ U);have q0:=(Am (q.push { cls:=.type "traceback",dict:=none,data:=.fields ([W,.ref L,.none,Ca L,.none]++(if pl.isEmpty then Ae 6 AG else pl)).toArray })
  (AR (·.setIfInBounds 1 (AA q.objs.size))) (Bp q6)).trans (A0 q rfl)
 unfold De;refine Aa (AD q4 U (x:=.ref q.objs.size) (by simp[q8]) ?_);rw[if_pos (show(AA q.objs.size != AG)=true from by simp)];refine BB q0 rfl (by simp only[Ak,lA,lC,lN] <;> omega) (h _ q.objs.size (by rw[I.1];exact An _) ?_ ?_);have keep:∀b o,b≠e->q.get? b=some o ->
  (((q.push { cls:=.type "traceback",dict:=none,data:=.fields ([W,.ref L,.none,Ca L,.none]++(if pl.isEmpty then Ae 6 AG else pl)).toArray }).update e (AR (·.setIfInBounds 1 (AA q.objs.size)))).update q.objs.size
   (AR (·.setIfInBounds 3 ((none:Option Addr).elim AG λf=>Ca f)))).get? b=some o:=λb o q7 hb=>by have w3:q.objs.size≠b:=B9 (Al hb);rw[Am _ _ w3,Am _ _ (Bp q7)];exact Ab _ hb
 refine⟨λb o hb hn q7 _=>keep b o q7 ((I.2.1 b hn).trans hb),λb o hb hn=>?_⟩;obtain⟨sl,hs⟩:=I.2.2 b o hb;refine⟨sl,keep b _ (λz=>?_) hs⟩;subst z;exact q5 hn
 . refine⟨_,_,(Am _ _ q6).trans q4,(D9 _ _).trans w4,(fQ _ _).trans w6,U,λz=>by have:=w5 z;simpa using this,by simp[q8],q6,_,_,AK _ q0 (AQ (AB rfl _)),AB rfl _,none,by first|(simp;done)|(rcases q9 with rfl|⟨_,_,_,_,_,_,_,rfl⟩ <;> simp)⟩
theorem uZ{base:Heap}{env:En}{outer:List En}{L e:Addr}{cls:Value}{T:Option Addr}{Q:Unit->Ad->Prop}
 (q8:A.frames=some (env::outer)) (hl:s.heap.FunFrames base (env::outer)) (hf:env.frame=some L) (hr:Rec s.heap e cls T)
 (h:∀h' T',(s.heap.objs.size<=T'\/T=some T')->Lx (frs (env::outer)) e T s.heap h'->Rec h' e cls (some T')->Q () { s with heap:=h' }):Ao M A (BG (.ref e) env) (λ_ s'=>Ao M A (De (.ref e) none) Q E s') E s:=by
 obtain⟨oe,vs,he,q2,q6,hd,q5,hT⟩:=hr;unfold BG;simp only[hf];cases T with
 | none=>have h1:vs[1]? = some .none:=hT;refine Aa (AD he hd h1 ?_);rw[if_neg (by decide)];exact wP q8 hl hf he q2 q5 q6 hd (A7.mp h1).1 λh' T' l=>h h' T' (.inl l)|some T=>
  obtain⟨h1,q4,oT,ts,hT,q0,fl,h3⟩:vs[1]? = some (.ref T)/\T≠e/\∃oT ts,s.heap.get? T=some oT/\oT.data=.fields ts/\∃f:Option Addr,ts[3]? = some (f.elim .none λf=>Ca f):=hT;refine Aa (AD he hd h1 ?_);rw[if_pos (show(AA T != AG)=true from by simp)];have q1:∀b o,s.heap.get? b=some o->(∀vs,o.data≠.fields vs)->b≠T:=λb o hb U q=>by rw[q,hT] at hb;injection hb with hb;subst hb;exact U ts q0
  refine Aa (AD hT q0 h3 ?_);by_cases q7:(fl.elim AG (λf=>Ca f)==Ca L)=true;rw[if_pos q7];refine Ar ?_;refine Er he hd h1 hT q0 (A7.mp h3).1 (h _ T (.inr rfl) ⟨λb o q _ _ hb=>?_,λb o q hb=>⟨o.slots,?_⟩⟩ ?_);exact(Am _ _ λz=>hb (by rw[z])).trans q;obtain⟨_,o',q3,U⟩:=hl.mem hb;rw[q] at q3;cases q3;exact(Am _ _ (Bp (q1 b o q U))).trans q;refine⟨oe,vs,(Am _ _ q4).trans he,q2,q6,hd,q5,h1,q4,_,_,AK _ hT (AQ (AB q0 _)),AB q0 _,none,?_⟩;have:=(A7.mp h3).1;simp[this];rw[if_neg q7];refine Aa (BB hT q0 (A7.mp h3).1 ?_);have W:∀b,b≠T->(s.heap.update T (AR (·.setIfInBounds 3 AG))).get? b=s.heap.get? b:=λb hb=>Am _ _ (Bp hb);have I:∀b o,s.heap.get? b=some o->(∀vs,o.data≠.fields vs)->b≠T:=λb o hb U q=>by rw[q,hT] at hb;injection hb with hb;subst hb;exact U ts q0
  have w4:(s.heap.update T (AR (·.setIfInBounds 3 AG))).objs.size=s.heap.objs.size:=BL ..;refine wP q8 (hl.of_keeps λb o hb U=>⟨o,(W b (I b o hb U)).trans hb,rfl⟩) hf ((W e (Bp q4)).trans he) q2 q5 q6 hd (A7.mp h1).1
   λh' T' l1 x1 x2=>h h' T' (.inl (by rw[<-w4];exact l1)) ⟨λb o hb hn w3 q9=>x1.keep b o ((W b λz=>q9 (by rw[z])).trans hb) hn w3 (λz=>nomatch z),λb o hb hn=>?_⟩ x2
  refine x1.slot b o ((W b ?_).trans hb) hn;obtain⟨_,o',q3,U⟩:=hl.mem hn;rw[hb] at q3;cases q3;exact I b o hb U
theorem wQ{base:Heap}{env:En}{outer:List En}{L e:Addr}{cls:Value}{T:Option Addr}{Q:Unit->Ad->Prop}
 (q5:A.frames=some (env::outer)) (hl:s.heap.FunFrames base (env::outer)) (hf:env.frame=some L) (hr:Rec s.heap e cls T)
 (h:∀h' T',(s.heap.objs.size<=T'\/T=some T')->Lx (frs (env::outer)) e T s.heap h'->Rec h' e cls (some T')->Q () { s with heap:=h' }):Ao M A (BG (.ref e) env) Q E s:=by
 have w3:=hr;obtain⟨oe,vs,he,q0,q3,hd,q2,hT⟩:=hr;unfold BG;simp only[hf];cases T with
 | none=>have h1:vs[1]? = some .none:=hT;refine Aa (AD he hd h1 ?_);rw[if_neg (by decide)];exact wO q5 hl hf he q0 q2 q3 hd (A7.mp h1).1 λh' T' l=>h h' T' (.inl l)|some T=>
  obtain⟨h1,q7,oT,ts,hT,q1,fl,h3⟩:vs[1]? = some (.ref T)/\T≠e/\∃oT ts,s.heap.get? T=some oT/\oT.data=.fields ts/\∃f:Option Addr,ts[3]? = some (f.elim .none λf=>Ca f):=hT;refine Aa (AD he hd h1 ?_);rw[if_pos (show(AA T != AG)=true from by simp)];refine Aa (AD hT q1 h3 ?_);by_cases q4:(fl.elim AG (λf=>Ca f)==Ca L)=true;rw[if_pos q4];exact Ar (h s.heap T (.inr rfl) ⟨λb o q _ _ _=>q,λb o q _=>⟨o.slots,q⟩⟩ w3);rw[if_neg q4];refine Aa (BB hT q1 (A7.mp h3).1 ?_);have U:∀b,b≠T->(s.heap.update T (AR (·.setIfInBounds 3 AG))).get? b=s.heap.get? b:=λb hb=>Am _ _ (Bp hb);have I:∀b o,s.heap.get? b=some o->(∀vs,o.data≠.fields vs)->b≠T:=λb o hb W q=>by rw[q,hT] at hb;injection hb with hb;subst hb;exact W ts q1
  have w4:(s.heap.update T (AR (·.setIfInBounds 3 AG))).objs.size=s.heap.objs.size:=BL ..;refine wO q5 (hl.of_keeps λb o hb W=>⟨o,(U b (I b o hb W)).trans hb,rfl⟩) hf ((U e (Bp q7)).trans he) q0 q2 q3 hd (A7.mp h1).1
   λh' T' l1 x1 x2=>h h' T' (.inl (by rw[<-w4];exact l1)) ⟨λb o hb hn q9 q8=>x1.keep b o ((U b λz=>q8 (by rw[z])).trans hb) hn q9 (λz=>nomatch z),λb o hb hn=>?_⟩ x2
  refine x1.slot b o ((U b ?_).trans hb) hn;obtain⟨_,o',q6,W⟩:=hl.mem hn;rw[hb] at q6;cases q6;exact I b o hb W
theorem zM{base:Heap}{env:En}{outer:List En}{L e:Addr}{cls:Value}{T:Option Addr}{Q:Unit->Ad->Prop}
 (I:A.frames=some (env::outer)) (U:s.heap.FunFrames base (env::outer)) (hf:env.frame=some L) (W:Rec s.heap e cls T)
 (h:∀h' q,(s.heap.objs.size<=q\/T=some q)->Lx (frs (env::outer)) e T s.heap h'->Rec h' e cls (some q)->Q () { s with heap:=h' }):Ao M A (GL env (.ref e)) Q E s:=by unfold GL;exact Aa (uZ I U hf W h)
end
noncomputable def Old(h:Heap)(b:Addr):Prop:=∃o,h.get? b=some o
theorem Old.lt{h:Heap}{b:Addr}(x:Old h b):b<h.objs.size:=let ⟨_,q⟩:=x;Al q
noncomputable def Fly(h0:Heap)(ex:List Addr)(H:Hp)(L:List Addr)(e:Addr)(cls:Value)(h:Heap):Prop:=∃T,Rec h e cls T/\∀b,(b=e\/T=some b)->¬ (Old h0 b/\b∉ex)/\H b=none/\b∉L
theorem Fly.older{M q h:Heap}{H:Hp}{L I:List Addr}{e:Addr}{cls:Value}{ex:List Addr}(f:Fly q [] H L e cls h)(l:∀b,Old M b->b∉ex->Old q b)(l':∀b∈I,Old q b):Fly M ex H I e cls h:=
 let ⟨T,c,d⟩:=f
 ⟨T,c,λb z=>⟨λy=>(d b z).1 ⟨l _ y.1 y.2,Cj⟩,(d b z).2.1,λy=>(d b z).1 ⟨l' b y,Cj⟩⟩⟩
noncomputable def CX1(P:A5)(w:AM):CXT:=λouter H s E e s'=>∃a cls H',e=.ref a/\s'.os=s.os/\Dr s'.gens/\Un (frs outer) [] H H' s.heap s'.heap/\HOk P w H' s'.heap/\Fly s.heap [] H' [] a cls s'.heap/\E cls none H'
abbrev pinA(X:Cx)(G:List (Addr×Obj)):List Addr:=(X.pn++G).map (·.1)
noncomputable def Rs(X:Cx)(W:Value->St->Hp->Prop):Prop:=∀(G:List (Addr×Obj)) (Z:St) (H:Hp) (s:Ad) (a:Addr) (cls:Value),Inv X G Z H s->Fly X.s₀.heap X.ex H (pinA X G) a cls s.heap->W cls Z H->X.xe (.ref a) s
noncomputable def RX(X:Cx)(cls:Value)(ZV:St)(H:Hp):Prop:=∀(G:List (Addr×Obj)) (s:Ad) (a:Addr),Inv X G ZV H s->Fly X.s₀.heap X.ex H (pinA X G) a cls s.heap->X.xe (.ref a) s
theorem sB(X:Cx):Rs X (RX X):=λG Z H s a cls I q h=>h G s a I q
section
variable {X:Cx} {G:List (Addr×Obj)} {Z:St} {H:Hp} {s:Ad}
theorem pS(I:Inv X G Z H s):∀b,Old X.s₀.heap b->b∉X.ex->Old s.heap b:=λb ⟨o,q⟩ hb=>I.base.there b o q hb
theorem eV(I:Inv X G Z H s):∀b∈pinA X G,Old s.heap b:=λb hb=>by obtain⟨p,q,rfl⟩:=Aw.mp hb;exact⟨_,(I.pin p q).1⟩
theorem Rs.pass{W:Value->St->Hp->Prop}{e:Value}{L:Ad}(h:Rs X W)(I:Inv X G Z H s)(c:CX1 X.prog X.w X.stack H s (λc _ H=>W c Z H) e L):X.xe e L:=by obtain⟨a,cls,H',M,os,bare,un,hok,U,q⟩:=c;subst M;exact h G Z H' L a cls (I.call' (ch:=[]) os un hok bare (λb z=>absurd z (by simp))) (U.older (pS I) (eV I)) q
theorem pU{k:Nat}{f:Addr}{fd:Cv}{ps:List Str}{sp:Sp}{q:List V}{ds:List Value}{Q:VK}{W:Value->St->Hp->Prop}{us:List Value}{vs:List V}(F:nJ X.prog X.w X.K X.mg X.base (CX1 X.prog X.w) k f fd ps sp)(hr:jC k X.A)(hb:iH X.K fd ps ds)(hd:aQ q ds)(hR:Rs X W)
 (I:Inv X G Z H s) (r:aQ vs us) (h:sp (vs++q) H Q λc _ H=>W c Z H):Ao (Au X.prog X.w) X.A (call (.ref f) us) (EP X G Z Q) X.xe s:=by
 have M:aQ (vs++q) (us++ds):=r.append hd;have hl:(us++ds).length=ps.length:=by rw[<-M.length];exact F.len _ _ _ _ h
 refine wpAny_call (Fp (F.run X.A X.stack s H ⟨us,[]⟩ (us++ds) (vs++q) Q _ hr I.env0 (hb s us I.kIn hl) M h) λr s' L=>?_);cases r with
 | error e=>exact hR.pass I L|ok U=>
  cases U with
  | ret u=>exact I.after L|next=>exact Cr L|brk=>exact Cr L|cont=>exact Cr L
end
theorem aAN{fs ex:List Addr}{H H1:Hp}{h h1 h':Heap}{fr:List Addr}{e:Addr}{T:Option Addr}(u:Un fs ex H H1 h h1)(x:Lx fr e T h1 h')(U:∀b,b∈fr->b∈fs\/h.objs.size<=b)(he:¬ (Old h e/\e∉ex))(hT:∀t,T=some t->¬ (Old h t/\t∉ex))(W:∀b∈fs,b∈fr) :
 Un fs ex H H1 h h' where
 keep:=λb o q n hb I=>by have l:=Al q;refine x.keep b o (u.keep b o q n hb I) (λz=>?_) (λz=>?_) λz=>?_;rcases U b z with z|z;exact hb z;exact absurd l (BI.mpr z);subst z;exact he ⟨⟨o,q⟩,I⟩;exact hT b z ⟨⟨o,q⟩,I⟩
 slot:=λb o q n hb I=>by obtain⟨sl,L⟩:=u.slot b o q n hb I;obtain⟨q0,M⟩:=x.slot b _ L (W b hb);exact⟨q0,M⟩
 free:=u.free
 there:=λb o q I=>by obtain⟨o',L⟩:=u.there b o q I;by_cases hb:b∈fr;obtain⟨sl,M⟩:=x.slot b o' L hb;exact⟨_,M⟩;exact⟨o',x.keep b o' L hb (λz=>by subst z;exact he ⟨⟨o,q⟩,I⟩) λz=>hT b z ⟨⟨o,q⟩,I⟩⟩
 tups:=u.tups
 frzs:=u.frzs
 tbls:=u.tbls
theorem oF{P:A5}{w:AM}{H:Hp}{h h':Heap}{fr:List Addr}{e:Addr}{T:Option Addr}(k:HOk P w H h)(x:Lx fr e T h h')(I:∀b∈fr,H b=none)(U:H e=none)(M:∀t,T=some t->H t=none):HOk P w H h':=λa o q=>
 (k a o q).stay (λb u hb g=>by
  have L:H b≠none:=by rcases hb with z|z;rw[z,q];exact λz=>nomatch z;rw[z];exact λz=>nomatch z
  exact x.keep b u g (λz=>L (I b z)) (λz=>L (by rw[z];exact U)) λz=>L (M b z)) (λ_ z=>z) λ_ _ z=>z
theorem vA{P:A5}{w:AM}{K:Ai}{mg:Str->Option Value}{base:Heap}{N:List Str}{qual:Str}{scope:Ck}{f:Addr}{q:Value}{A:AY}{outer:List En}{s:Ad}{H:Hp}{E:XK} :
 Rs (pL (CX1 P w) P w K mg base N qual scope f q A outer s H E) λc _ H'=>E c none H':=by
 intro G Z H1 s1 a cls I fl hE;obtain⟨T,f3,f4⟩:=fl;have M:(pL (CX1 P w) P w K mg base N qual scope f q A outer s H E).env.frame=some (pL (CX1 P w) P w K mg base N qual scope f q A outer s H E).env.locals:=by
  rcases I.ok.stk with z|⟨_,z⟩
  have z:envOfC qual scope s.heap.objs.size f q::outer=outer:=z;exact absurd (congrArg CQ z) (by simp);exact z
 show Ao (Au P w) (A.deeper (envOfC qual scope s.heap.objs.size f q)) (GL (envOfC qual scope s.heap.objs.size f q) (.ref a)) _ _ s1;refine zM (base:=base) (outer:=outer) I.ok.frames I.stack M f3 λh' W L x r=>?_;have U:∀b,b∈frs (envOfC qual scope s.heap.objs.size f q::outer)->b=(envOfC qual scope s.heap.objs.size f q).locals\/b∈frs outer:=λb hb=>A8.mp (I.stkSub b hb);have un:Un (frs outer) [] H H1 s.heap h':=aAN I.base x (λb hb=>?_) (f4 a (.inl rfl)).1 (λt z=>(f4 t (.inr z)).1) λb hb=>?_;refine⟨a,cls,H1,rfl,I.os,I.bare,un,oF I.hok x I.stkFree (f4 a (.inl rfl)).2.1 λt z=>(f4 t (.inr z)).2.1,⟨some W,r,λt z=>?_⟩,hE⟩;rcases z with rfl|z;exact⟨(f4 _ (.inl rfl)).1,(f4 _ (.inl rfl)).2.1,by simp⟩;cases z;rcases L with L|L;exact⟨λz=>absurd z.1.lt (BI.mpr (AH I.sz L)),I.hok.fresh L,by simp⟩;exact⟨(f4 _ (.inr L)).1,(f4 _ (.inr L)).2.1,by simp⟩;rcases U b hb with z|z;rw[z];exact .inr I.ok.above;exact .inl z;unfold frs at hb ⊢;rw[Bm];have:(envOfC qual scope s.heap.objs.size f q).frame=some (envOfC qual scope s.heap.objs.size f q).locals:=M;rw[this];exact Af _ hb
end L2
namespace Hp
open PySem PySem.Spec PyProof.Rows L2
noncomputable def Kp(R:Addr->Prop)(H H':Hp):Prop:=∀a o,H a=some o->¬ R a->H' a=some o
noncomputable def RE{α:Type}(w:D->Prop):R α->(α->Prop)->Prop
 | .ok a,p=>p a|.exc x,_=>w x|.bad,_=>False
theorem RE.calmEq{α:Type}{x:R α}{p:α->Prop}{w:D->Prop}(h:RE w x.calm p):∃a,x=.ok a/\p a:=by
 cases x with
 | ok a=>exact⟨a,rfl,h⟩|exc e=>exact h.elim|bad=>exact h.elim
theorem RE.mono{α:Type}{x:R α}{p q:α->Prop}{w:D->Prop}(h:RE w x p)(f:∀a,p a->q a):RE w x q:=by
 cases x with
 | ok a=>exact f a h|exc e=>exact h|bad=>exact h
theorem RE.bind{α q:Type}{x:R α}{f:α->R q}{p:q->Prop}{w:D->Prop}:RE w (x >>= f) p=RE w x λa=>RE w (f a) p:=by cases x <;> rfl
theorem RE.iff{α:Type}{c:Bool}{x:R α}{p:α->Prop}{w:D->Prop}(h:RE w (R.iff c x) p):c=true/\RE w x p:=by
 cases c with
 | true=>exact⟨rfl,h⟩|false=>exact h.elim
section
variable (K:Fg) (RT Y J:Addr->Prop)
noncomputable def exB(pa:Bool)(a:Addr):Prop:=Y a\/(pa=false/\J a)
noncomputable def Tk(H:Hp):Prop:=∀b,H b≠none->K.lookup b=none
noncomputable def Rws(H:Hp):List (List D)->List Addr->Prop
 | [],bs=>bs=[]
 | ds::dss,bs=>∃b r xs,bs=b::r/\H b=some (.lst xs)/\noLs ds=true/\Reps K H (λ_=>False) ds xs/\Rws H dss r
noncomputable def Pt(Z:Sg)(ZV:L2.St)(p:Addr):Prop:=RT p/\¬ J p/\∀(k:Nat) (pa:Bool) (ds:List D),Z[k]? = some (.own pa ds)->ZV[k]?≠some (some (.ref p))
structure Lx (Z:Sg) (ZV:L2.St) (H:Hp):Prop where
 at':∀(i:Nat) (ds:List D),Z[i]? = some (.lent ds)->∃a xs,ZV[i]? = some (some (.ref a))/\H a=some (.lst xs)/\RT a/\J a/\Reps K H (λa=>RT a\/exB Y J true a) ds xs
 inj:∀(i j:Nat) (ds ds':List D) (a:Addr),Z[i]? = some (.lent ds)->Z[j]? = some (.lent ds')->ZV[i]? = some (some (.ref a))->ZV[j]? = some (some (.ref a))->i=j
 at2:∀(i:Nat) (dss:List (List D)),Z[i]? = some (.own2 dss)->∃a bs,ZV[i]? = some (some (.ref a))/\H a=some (.lst (bs.map V.ref))/\(∀b∈a::bs,Pt RT J Z ZV b)/\(a::bs).Nodup/\Rws K H dss bs
 one:∀(i j:Nat) (dss dss':List (List D)),Z[i]? = some (.own2 dss)->Z[j]? = some (.own2 dss')->i=j
structure Sx (Z:Sg) (ZV:L2.St) (H:Hp):Prop where
 sh:∀(i:Nat) (pa:Bool) (d:D),Z[i]? = some (.sh pa d)->∃v,ZV[i]? = some (some v)/\Rep K H (λa=>RT a\/exB Y J pa a) d v
 own:∀(i:Nat) (pa:Bool) (ds:List D),Z[i]? = some (.own pa ds)->∃a xs,ZV[i]? = some (some (.ref a))/\H a=some (.lst xs)/\RT a/\¬ J a/\Reps K H (λa=>RT a\/exB Y J pa a) ds xs
 trk:∀a,RT a\/Y a\/J a->H a≠none
 yo:∀a,Y a->J a
 tk:Tk K H
 rt:∀a,RT a->∃xs,H a=some (.lst xs)
 inj:∀(i j:Nat) (pa pa':Bool) (ds ds':List D) (a:Addr),Z[i]? = some (.own pa ds)->Z[j]? = some (.own pa' ds')->ZV[i]? = some (some (.ref a))->ZV[j]? = some (some (.ref a))->i=j
 len:Z.length=ZV.length
 lx:Lx K RT Y J Z ZV H
noncomputable def alR(Z:Sg)(ZV:L2.St)(al:List Nat)(a:Addr):Prop:=∃j∈al,(∃pa ds,Z[j]? = some (.own pa ds))/\ZV[j]? = some (some (.ref a))
noncomputable def exV(Z:Sg)(ZV:L2.St)(pa:Bool)(al:List Nat)(a:Addr):Prop:=(RT a/\¬ alR Z ZV al a)\/exB Y J pa a
noncomputable def Rv(Z:Sg)(ZV:L2.St)(H:Hp)(v:Vl)(u:V):Prop:=Rep K H (exV RT Y J Z ZV v.pa v.al) v.d u
noncomputable def Ro(Z:Sg)(ZV:L2.St)(H H':Hp)(v:Vl)(u:V):Prop:=
 aG H H'/\(if v.fr=true then ∃a xs ds,u=.ref a/\v.d=.lst ds/\H a=none/\H' a=some (.lst xs)/\Reps K H' (λb=>b=a\/exV RT Y J Z ZV v.pa v.al b) ds xs
  else Rv K RT Y J Z ZV H' v u)
noncomputable def Rvs(Z:Sg)(ZV:L2.St)(H:Hp):List Vl->List V->Prop
 | [],us=>us=[]
 | v::vs,us=>∃u r,us=u::r/\Rv K RT Y J Z ZV H v u/\Rvs Z ZV H vs r
end
section
variable {K:Fg} {RT Y J:Addr->Prop} {Z:Sg} {ZV:L2.St} {H H' H1 H2:Hp} {v:Vl} {u:V}
mutual
theorem Rep.noT{ex:Addr->Prop}(I:∀b ks,SqT K H b ks->SqT K H' b ks):∀(d:D) (v:V),noL d=true->Rep K H ex d v->Rep K H' ex d v
 | .non,_,_,h=>h|.bl _,_,_,h=>h|.int _,_,_,h=>h|.str _,_,_,h=>h|.tup ds,_,n,h=>by obtain⟨a,xs,e,q,r⟩:=h;exact⟨a,xs,e,I _ _ q,Reps.noT I ds xs (by simpa[noL] using n) r⟩|.lst ds,_,n,_=>by simp[noL] at n|.dic kvs,_,n,_=>by simp[noL] at n|.err _ _,_,n,_=>by simp[noL] at n
theorem Reps.noT{ex:Addr->Prop}(q:∀b ks,SqT K H b ks->SqT K H' b ks):∀(ds:List D) (xs:List V),noLs ds=true->Reps K H ex ds xs->Reps K H' ex ds xs
 | [],_,_,h=>h|d::ds,_,n,h=>by obtain⟨x,r,e,I,L⟩:=h;simp only[noLs,bA] at n;exact⟨x,r,e,Rep.noT q d x n.1 I,Reps.noT q ds r n.2 L⟩
end
theorem Rws.lst:∀{dss:List (List D)} {bs:List Addr},Rws K H dss bs->∀b∈bs,∃xs,H b=some (.lst xs)
 | [],_,h,b,hb=>by rw[show _=[] from h] at hb;cases hb|ds::dss,_,h,b,hb=>by obtain⟨c,r,xs,rfl,q,_,_,I⟩:=h;rcases A8.mp hb with rfl|hb;exact⟨xs,q⟩;exact Rws.lst I b hb
theorem Rws.imp(I:∀b ks,SqT K H b ks->SqT K H' b ks):∀{dss:List (List D)} {bs:List Addr},Rws K H dss bs->(∀b∈bs,∀xs,H b=some (.lst xs)->H' b=some (.lst xs))->Rws K H' dss bs
 | [],_,h,_=>h|ds::dss,_,h,k=>by obtain⟨b,r,xs,rfl,L,q,M,U⟩:=h;exact⟨b,r,xs,rfl,k b Aj xs L,q,Reps.noT I ds xs q M,Rws.imp I U λc W=>k c (Af _ W)⟩
theorem Lx.imp{M:Addr->Prop}{Z':Sg}{U:L2.St}(L:Lx K RT Y J Z ZV H)(m:Nat->Nat)(hs:∀j ds,Z'[j]? = some (.lent ds)->Z[m j]? = some (.lent ds)/\U[j]? = ZV[m j]?)(hm:∀i j ds ds',Z'[i]? = some (.lent ds)->Z'[j]? = some (.lent ds')->m i=m j->i=j)
 (hh:∀a xs,H a=some (.lst xs)->RT a->J a->H' a=some (.lst xs)/\M a) (hr:∀ds xs,Reps K H (λa=>RT a\/exB Y J true a) ds xs->Reps K H' (λa=>M a\/exB Y J true a) ds xs)
 (q0:∀j dss,Z'[j]? = some (.own2 dss)->Z[m j]? = some (.own2 dss)/\U[j]? = ZV[m j]?) (q3:∀i j dss dss',Z'[i]? = some (.own2 dss)->Z'[j]? = some (.own2 dss')->m i=m j->i=j)
 (W:∀p xs,H p=some (.lst xs)->Pt RT J Z ZV p->H' p=some (.lst xs)/\Pt M J Z' U p) (hT:∀b ks,SqT K H b ks->SqT K H' b ks):Lx K M Y J Z' U H' where
 at':=λi ds e=>by obtain⟨e1,e2⟩:=hs i ds e;obtain⟨a,xs,h1,h2,h3,h4,h5⟩:=L.at' (m i) ds e1;obtain⟨g1,g2⟩:=hh a xs h2 h3 h4;exact⟨a,xs,by rw[e2];exact h1,g1,g2,h4,hr ds xs h5⟩
 inj:=λi j ds ds' a q1 q2 v1 v2=>by obtain⟨e1,e2⟩:=hs i ds q1;obtain⟨e3,e4⟩:=hs j ds' q2;exact hm i j ds ds' q1 q2 (L.inj (m i) (m j) ds ds' a e1 e3 (by rw[<-e2];exact v1) (by rw[<-e4];exact v2))
 at2:=λi dss e=>by obtain⟨e1,e2⟩:=q0 i dss e;obtain⟨a,bs,h1,h2,h3,h4,h5⟩:=L.at2 (m i) dss e1;have hb:∀b∈bs,∃xs,H b=some (.lst xs):=Rws.lst h5;refine⟨a,bs,by rw[e2];exact h1,(W a _ h2 (h3 a Aj)).1,λb I=>?_,h4,h5.imp hT λb I xs q=>(W b xs q (h3 b (Af _ I))).1⟩;rcases A8.mp I with rfl|I;exact(W b _ h2 (h3 b Aj)).2;obtain⟨xs,q⟩:=hb b I;exact(W b xs q (h3 b (Af _ I))).2
 one:=λi j dss dss' q1 q2=>q3 i j dss dss' q1 q2 (L.one _ _ _ _ (q0 i dss q1).1 (q0 j dss' q2).1)
theorem Sx.grow(S:Sx K RT Y J Z ZV H)(s:aG H H')(t:Tk K H'):Sx K RT Y J Z ZV H' where
 sh:=λi pa d e=>let ⟨v,h1,h2⟩:=S.sh i pa d e;⟨v,h1,h2.grow s⟩
 own:=λi pa ds e=>let ⟨a,xs,h1,h2,h3,h4,h5⟩:=S.own i pa ds e;⟨a,xs,h1,s _ _ h2,h3,h4,h5.grow s⟩
 trk:=λa h z=>S.trk a h (s.free z)
 yo:=S.yo
 tk:=t
 rt:=λa h=>let ⟨xs,e⟩:=S.rt a h;⟨xs,s _ _ e⟩
 inj:=S.inj
 len:=S.len
 lx:=S.lx.imp id (λ_ _ e=>⟨e,rfl⟩) (λ_ _ _ _ _ _ e=>e) (λa xs e z _=>⟨s _ _ e,z⟩) (λ_ _ r=>r.grow s) (λ_ _ e=>⟨e,rfl⟩) (λ_ _ _ _ _ _ e=>e) (λp xs e z=>⟨s _ _ e,z⟩) λ_ _ r=>aG.seqT s r
theorem exV.trk(S:Sx K RT Y J Z ZV H){pa:Bool}{al:List Nat}{a:Addr}(h:exV RT Y J Z ZV pa al a):H a≠none:=by
 rcases h with⟨h,_⟩|h|⟨_,h⟩
 exact S.trk a (.inl h);exact S.trk a (.inr (.inl h));exact S.trk a (.inr (.inr h))
theorem Ro.rv(S:Sx K RT Y J Z ZV H)(h:Ro K RT Y J Z ZV H H' v u):Rv K RT Y J Z ZV H' v u:=by obtain⟨s,h⟩:=h;by_cases hf:v.fr=true;rw[if_pos hf] at h;obtain⟨a,xs,ds,q,I,L,M,r⟩:=h;unfold Rv;rw[I];exact⟨a,xs,q,SqL.of M,λz=>exV.trk S z L,r.weak λb z=>.inr z⟩;rw[if_neg hf] at h;exact h
theorem Rv.grow(h:Rv K RT Y J Z ZV H v u)(s:aG H H'):Rv K RT Y J Z ZV H' v u:=Rep.grow h s
theorem Rvs.grow:∀{vs:List Vl} {us:List V},Rvs K RT Y J Z ZV H vs us->aG H H'->Rvs K RT Y J Z ZV H' vs us
 | [],_,h,_=>h|v::vs,_,h,s=>by obtain⟨u,r,e,q,I⟩:=h;exact⟨u,r,e,q.grow s,Rvs.grow I s⟩
theorem Ro.plain(s:aG H H')(hf:v.fr=false)(h:Rv K RT Y J Z ZV H' v u):Ro K RT Y J Z ZV H H' v u:=⟨s,by rw[if_neg (by rw[hf];decide)];exact h⟩
theorem Ro.from(h:Ro K RT Y J Z ZV H1 H' v u)(s:aG H H1):Ro K RT Y J Z ZV H H' v u:=by obtain⟨U,h⟩:=h;refine⟨s.trans U,?_⟩;by_cases hf:v.fr=true;rw[if_pos hf] at h ⊢;obtain⟨a,xs,ds,q,I,L,M,r⟩:=h;exact⟨a,xs,ds,q,I,s.free L,M,r⟩;rw[if_neg hf] at h ⊢;exact h
theorem Ro.cl{d:D}(s:aG H H')(h:Rep K H' (exV RT Y J Z ZV false []) d u):Ro K RT Y J Z ZV H H' (.cl d) u:=Ro.plain s rfl h
theorem Rv.sub{d:D}{x:V}{ds:List D}{xs:List V}{j:Nat}(h:Rep K H (exV RT Y J Z ZV v.pa v.al) d x):Rv K RT Y J Z ZV H (v.sub d) x:=by unfold Rv Vl.sub;by_cases q:noL d=true;rw[if_pos q];exact Rep.free d x q h;rw[if_neg q];exact h
theorem alR.mono{al I:List Nat}{a:Addr}(h:alR Z ZV al a)(s:∀j∈al,j∈I):alR Z ZV I a:=by obtain⟨j,L,q⟩:=h;exact⟨j,s j L,q⟩
theorem exV.mono{pa pa':Bool}{al q:List Nat}{a:Addr}(h:exV RT Y J Z ZV pa' q a)(M:pa=true->pa'=true)(s:∀j∈al,j∈q):exV RT Y J Z ZV pa al a:=by
 rcases h with⟨I,L⟩|h|⟨I,L⟩
 exact .inl ⟨I,λz=>L (z.mono s)⟩;exact .inr (.inl h);refine .inr (.inr ⟨?_,L⟩);cases pa with
 | false=>rfl|true=>rw[M rfl] at I;cases I
theorem Rvs.length:∀{vs:List Vl} {us:List V},Rvs K RT Y J Z ZV H vs us->vs.length=us.length
 | [],_,h=>by rw[show _=[] from h];rfl|v::vs,_,h=>by obtain⟨u,r,e,_,q⟩:=h;subst e;rw[lC,lC,Rvs.length q]
theorem kE{vs:List Vl}{v:Vl}(h:v∈vs):∀j∈v.al,j∈unionAl vs:=λj q=>List.mem_flatMap.mpr ⟨v,h,q⟩
theorem fR{vs:List Vl}{v:Vl}(h:v∈vs)(q:v.pa=true):anyPa vs=true:=List.any_eq_true.mpr ⟨v,h,q⟩
theorem Rvs.reps:∀{vs:List Vl} {us:List V} {pa:Bool} {al:List Nat},Rvs K RT Y J Z ZV H vs us->(∀v∈vs,(v.pa=true->pa=true)/\∀j∈v.al,j∈al) ->
 Reps K H (exV RT Y J Z ZV pa al) (vs.map (·.d)) us
 | [],_,_,_,h,_=>h|v::vs,_,_,_,h,q=>by obtain⟨u,r,e,L,M⟩:=h;have I:=q v Aj;exact⟨u,r,e,Rep.weak L λa z=>z.mono I.1 I.2,Rvs.reps M λw U=>q w (Af _ U)⟩
theorem Rvs.all{vs:List Vl}{us:List V}(h:Rvs K RT Y J Z ZV H vs us):Reps K H (exV RT Y J Z ZV (anyPa vs) (unionAl vs)) (vs.map (·.d)) us:=
 h.reps λv q=>⟨λz=>fR q z,kE q⟩
theorem Ro.fresh{p:Addr}{xs:List V}{ds:List D}(I:H p=none)(L:Tk K (upd H p (.lst xs)))(hd:v.d=.lst ds)(hf:v.fr=true)(S:Sx K RT Y J Z ZV H)(r:Reps K H (exV RT Y J Z ZV v.pa v.al) ds xs) :
 Ro K RT Y J Z ZV H (upd H p (.lst xs)) v (.ref p):=by
 have s:aG H (upd H p (.lst xs)):=λb o q=>by rw[aJ (aU q I)];exact q
 refine⟨s,?_⟩;rw[if_pos hf];refine⟨p,xs,ds,rfl,hd,I,aO,?_⟩;refine Reps.imp (λ_ _ q=>aG.seqT s q) (λa W n q=>⟨λz=>?_,s.seq q⟩) (λ_ _ _ q=>s _ _ q) ds xs r;rcases z with z|z;subst z;rcases q with(q|⟨o,q⟩)|⟨o,M,U,q,_⟩
 rw[I] at q;cases q;rw[I] at q;cases q;have z:=L a (by rw[aO];simp);rw[q] at z;cases z;exact n z
theorem aG.new{p:Addr}{o:HO}(I:H p=none):aG H (upd H p o):=λb u q=>by rw[aJ (aU q I)];exact q
theorem Ro.tup{p:Addr}{xs:List V}{ds:List D}(q:H p=none)(hd:v.d=.tup ds)(hf:v.fr=false)(r:Reps K H (exV RT Y J Z ZV v.pa v.al) ds xs) :
 Ro K RT Y J Z ZV H (upd H p (.tup xs)) v (.ref p):=by refine Ro.plain (aG.new q) hf ?_;unfold Rv;rw[hd];exact⟨p,xs,rfl,SqT.of aO,r.grow (aG.new q)⟩
end
noncomputable def exD(C:Addr)(fs:List D):Value:=if fs.isEmpty=true then .ref C else chC C
noncomputable def XW(X:Cx)(ZV:L2.St)(H:Hp):D->Prop
 | .err c fs=>∀C1:Addr,Db X.K AF c=some (some (.ref C1))->RX X (exD C1 fs) ZV H|_=>False
noncomputable def wx(X:Cx)(ZV:L2.St)(H:Hp)(x:D):Prop:=∀H',Tk X.K H'->aG H H'->XW X ZV H' x
theorem wx.grow{X:Cx}{ZV:L2.St}{H H1:Hp}{x:D}(h:wx X ZV H x)(s:aG H H1):wx X ZV H1 x:=λH' t z=>h H' t (s.trans z)
theorem RE.weak{α:Type}{x:R α}{p:α->Prop}{w q:D->Prop}(h:RE w x p)(f:∀x,w x->q x):RE q x p:=by
 cases x with
 | ok a=>exact h|exc e=>exact f e h|bad=>exact h
theorem RE.at{α:Type}{x:R α}{p:α->Prop}{X:Cx}{ZV:L2.St}{H H1:Hp}(h:RE (wx X ZV H) x p)(s:aG H H1):RE (wx X ZV H1) x p:=h.weak λ_ z=>z.grow s
section
variable (X:Cx) (P:Pg) (cl:Caller) (RT Y J:Addr->Prop)
noncomputable def wE(Z:Sg)(c:E):TE:=λZV H Q=>Sx X.K RT Y J Z ZV H/\RE (wx X ZV H) (ev P cl Z c) λv=>∀u H',Tk X.K H'->Ro X.K RT Y J Z ZV H H' v u->Q u H'
noncomputable def wT(Z:Sg)(c:E):TT:=λZV H Q=>Sx X.K RT Y J Z ZV H/\RE (wx X ZV H) (tst P cl Z c) λk=>∀H',Tk X.K H'->aG H H'->Q k H'
noncomputable def wA(Z:Sg)(cs:Es):TA:=λZV H Q=>Sx X.K RT Y J Z ZV H/\RE (wx X ZV H) (evs P cl Z cs) λvs=>∀us H',Tk X.K H'->aG H H'->Rvs X.K RT Y J Z ZV H' vs us->Q us H'
end
section
variable {X:Cx} {P:Pg} {cl:Caller} {RT Y J:Addr->Prop} {Z:Sg} {pos:Cf}
theorem _root_.L2.Inv.tk{G:List (Addr×Obj)}{ZV:L2.St}{H:Hp}{s:Ad}(I:Inv X G ZV H s):Tk X.K H:=λb hb=>by
 cases q:X.K.lookup b with
 | none=>rfl|some o=>exact absurd (I.bs b o (I.ok.mod.kin b o q)).2 hb
theorem _root_.L2.PE.imp{e:Ag}{t t':TE}(h:PE X e t)(f:∀ZV H Q,Tk X.K H->t' ZV H Q->t ZV H λv H'=>Tk X.K H'->Q v H'):PE X e t':=λG s ZV H Q I M=>thn (h G s ZV H _ I (f ZV H Q I.tk M)) λu U ⟨v,H',L,r,q⟩=>⟨v,H',L,r,q L.tk⟩
theorem _root_.L2.PT.imp{e:Ag}{t t':TT}(h:PT X e t)(f:∀ZV H Q,Tk X.K H->t' ZV H Q->t ZV H λv H'=>Tk X.K H'->Q v H'):PT X e t':=λG s ZV H Q I M=>thn (h G s ZV H _ I (f ZV H Q I.tk M)) λk U ⟨H',L,q⟩=>⟨H',L,q L.tk⟩
theorem _root_.L2.PA.imp{es:List Ag}{t t':TA}(h:PA X es t)(f:∀ZV H Q,Tk X.K H->t' ZV H Q->t ZV H λv H'=>Tk X.K H'->Q v H'):PA X es t':=λpos G s ZV H Q I M=>thn (h pos G s ZV H _ I (f ZV H Q I.tk M)) λu U ⟨v,H',L,r,q⟩=>⟨v,H',L,r,q L.tk⟩
theorem wE.two{a b:E}{ZV:L2.St}{H:Hp}{p:Vl->Vl->Prop}{Q:V->V->Hp->Prop}(S:Sx X.K RT Y J Z ZV H)(h:RE (wx X ZV H) (ev P cl Z a) λx=>RE (wx X ZV H) (ev P cl Z b) λy=>p x y)
 (f:∀x y I L q,p x y->Tk X.K q->aG H q->Sx X.K RT Y J Z ZV q->Rv X.K RT Y J Z ZV q x I->Rv X.K RT Y J Z ZV q y L->Q I L q) :
 wE X P cl RT Y J Z a ZV H λI H1=>wE X P cl RT Y J Z b ZV H1 λL q=>Q I L q:=by refine⟨S,h.mono λx hx I H1 U r1=>⟨S.grow r1.1 U,(hx.at r1.1).mono λy hy L q W M=>?_⟩⟩;have S1:=S.grow r1.1 U;exact f x y I L q hy W (r1.1.trans M.1) (S1.grow M.1 W) ((r1.rv S).grow M.1) (M.rv S1)
theorem Ro.val{d:D}{u:V}{ZV:L2.St}{H H':Hp}(s:aG H H')(h:∀ex,Rep X.K H' ex d u):Ro X.K RT Y J Z ZV H H' (.cl d) u:=Ro.cl s (h _)
theorem s_c {d : D} {c : Const} {k : Nat} (h : eqC d c = true) : PE X (.Constant c k pos) (wE X P cl RT Y J Z (.c d)) := by
 have key : ∀ {v : V}, (∀ (H : Hp) ex, Rep X.K H ex d v) -> PE X (.Constant c k pos) (tC v) -> PE X (.Constant c k pos) (wE X P cl RT Y J Z (.c d)) := λ L I =>I.imp λ ZV H Q t ⟨S, q⟩ t' => q _ H t' (Ro.val (aG.refl H) (L H));cases d with
 | non => cases c with|none => exact key (λ _ _ => rfl) aEU|_ => cases h
 | bl b => cases c with
  | bool b' => have e : b = b' := by simpa [eqC] using h
               subst e; exact key (λ _ _ => rfl) aHo
  | _ => cases h
 | int b => cases c with
  | int b' => have e : b = b' := by simpa [eqC] using h
              subst e; exact key (λ _ _ => rfl) aAs
  | _ => cases h
 | str b => cases c with
  | str b' => have e : b = b' := by simpa [eqC] using h
              subst e; exact key (λ _ _ => rfl) aAt
  | _ => cases h
 | _ => cases c <;> cases h
theorem s_v{i:Nat}{x:Str}(hN:X.N[i]? = some x)(hv:Vis X.env.scope x)(hd:(x==("__debug__" : Str))=false)(M:(x==("__classdict__" : Str))=false) :
 PE X (.Name x pos) (wE X P cl RT Y J Z (.v i)):=by
 refine(lJ hN hv hd M).imp λZV H Q t ⟨S,q⟩=>?_;have q:RE (wx X ZV H) (bJ Z i) _:=q;unfold bJ at q;cases e:Z[i]? with
 | none=>rw[e] at q;exact q.elim|some sl=>
  rw[e] at q;cases sl with
  | dead=>exact q.elim|lent _=>exact q.elim|own2 _=>exact q.elim|sh pa d=>
   obtain⟨v,I,L⟩:=S.sh i pa d e;refine⟨v,I,λt'=>q v H t' (Ro.plain (aG.refl H) rfl ?_)⟩;unfold Rv;by_cases W:noL d=true;exact Rep.free d v W L;refine Rep.weak L λa z=>?_;rcases z with⟨z,_⟩|z|⟨z,z'⟩
   exact .inl z;exact .inr (.inl z);have:pa=false:=by simpa[W] using z
   exact .inr (.inr ⟨this,z'⟩)
  | own pa ds=>
   obtain⟨a,xs,I,L,h3,U,h5⟩:=S.own i pa ds e;refine⟨.ref a,I,λt'=>q _ H t' (Ro.plain (aG.refl H) rfl ?_)⟩;unfold Rv;refine⟨a,xs,rfl,SqL.of L,λz=>?_,h5.weak λb z=>?_⟩;rcases z with⟨_,z⟩|z|⟨_,z⟩
   exact z ⟨i,by simp,⟨pa,ds,e⟩,I⟩;exact U (S.yo a z);exact U z;rcases z with⟨z,_⟩|z;exact .inl z;exact .inr z
end
noncomputable def oG(prog:A5)(w:AM)(K:Fg)(a:Addr)(t:List (Str×D)):Prop:=(a==Dd)=false/\∃vs:List (Key×Value),(∀h:Heap,K.In h->h.DictOf (dN prog w) a vs) /\
 ∀k:Str,(t.lookup k=none/\Ea vs (B4 k:Key)=none)\/∃d u v,t.lookup k=some d/\Ea vs (B4 k:Key)=some u/\bC v u/\∀(H:Hp) (ex:Addr->Prop),Rep K H ex d v
section
variable {X:Cx}
theorem aDb{a:Addr}{t:List (Str×D)}{x:Str}{p ap cp:Cf}{e:Ag}{te:TE}(T:oG X.prog X.w X.K a t)(hg:Gl X x)(hm:X.mg x=some (.ref a))(hd:(x==("__debug__" : Str))=false)(he:PE X e te)(L:(ap.endLine==cp.line)=true)
 (hs:AI [e] X.env=[(false,C4 e X.env)]) :
 PE X (.Call (.Attribute (.Name x p) "get" ap) [e] [] cp) (λZ H Q=>te Z H λu H1=>∃k,u=.str k/\∀v,(∀(H:Hp) (ex:Addr->Prop),Rep X.K H ex ((t.lookup k).getD .non) v)->Q v H1):=by
 intro G s Z H Q I h;obtain⟨W,vs,dict,q0⟩:=T;refine DX rfl (by rw[hs];rfl) L rfl (thn (gH (v:=.ref a) hg hm rfl hd G s Z H (λv H1=>v=.ref a/\H1=H) I ⟨rfl,rfl⟩) λv s1 ⟨y,H1,I1,r1,e1,e2⟩=>?_);subst e1 e2;obtain rfl:v=AA a:=r1;have dd:=dict s1.heap I1.kIn;refine⟨"dict", "dict.get",PySem.F.plainAttrs_dict,Ei,PySem.F.type_dict_get,dd.typeIs,λb q=>?_,?_⟩;cases q;obtain⟨ob,_,_,h1,h2,_⟩:=dd;exact⟨ob,h1,h2.2.1⟩
 . have hA:=(cD he dG hs) cp G s1 Z H1 (λus H2=>match us with|[u]=>(∃k,u=.str k/\∀v,(∀(H:Hp) (ex:Addr->Prop),Rep X.K H ex ((t.lookup k).getD .non) v)->Q v H2)|_=>False) I1 h;rw[hs] at hA ⊢;refine DY rfl (C5 ?_);refine thn hA λus s2 ⟨xs,H2,I2,r2,M⟩=>?_
   match xs,r2,M with
   | [y],.cons ry .nil,M=>
    obtain⟨k,ey,M⟩:=M;subst ey;obtain⟨tk,rfl⟩:=ry;have U:=dict s2.heap I2.kIn;refine call_meetsIn Ei U.typeIs PySem.F.entry_dict_get (PySem.F.args_dict_get_2 _ _) (meets_dict_get (dN X.prog X.w) a (k:=(B4 k:Key)) (nO k tk) W) ⟨_,U.mapOf,?_⟩;rcases q0 k with⟨l1,l2⟩|⟨d,u,v,l1,l2,rv,rep⟩
    rw[l2];refine⟨.non,H2,I2.tok _,rfl,M .non λH ex=>?_⟩;rw[l1];rfl;rw[l2];refine⟨v,H2,I2.tok _,rv,M v λH ex=>?_⟩;rw[l1];exact rep H ex
end
section
variable {X:Cx} {RT Y J:Addr->Prop} {Z:Sg} {ZV:L2.St} {H:Hp} {s:Ad} {G:List (Addr×Obj)} {Q:VK} {ux uy:V} {vx vy:Value} {x y:Vl}
theorem _root_.L2.EP.tk{u:Value}{L:Ad}(h:EP X G ZV (λv H'=>Tk X.K H'->Q v H') u L):EP X G ZV Q u L:=by obtain⟨v,H',I,r,q⟩:=h;exact⟨v,H',I,r,q (Inv.tk I)⟩
abbrev Wn(X:Cx)(RT Y J:Addr->Prop)(Z:Sg)(ZV:L2.St)(H:Hp)(Q:VK)(v:Vl):Prop:=∀u H',Tk X.K H'->Ro X.K RT Y J Z ZV H H' v u->Q u H'
theorem Wn.val{d:D}{u:V}(w:Wn X RT Y J Z ZV H Q (.cl d))(t:Tk X.K H)(h:∀ex,Rep X.K H ex d u):Q u H:=w u H t (Ro.cl (aG.refl H) (h _))
theorem Rv.int{i:Int}{u:V}(h:Rv X.K RT Y J Z ZV H x u)(e:x.d=.int i):u=.int i:=by unfold Rv at h;rw[e] at h;exact h
theorem Rv.str{i:Str}{u:V}(h:Rv X.K RT Y J Z ZV H x u)(e:x.d=.str i):u=.str i:=by unfold Rv at h;rw[e] at h;exact h
theorem Rv.bl{i:Bool}{u:V}(h:Rv X.K RT Y J Z ZV H x u)(e:x.d=.bl i):u=.bl i:=by unfold Rv at h;rw[e] at h;exact h
theorem Rv.non{u:V}(h:Rv X.K RT Y J Z ZV H x u)(e:x.d=.non):u=.non:=by unfold Rv at h;rw[e] at h;exact h
theorem Rv.tup{ds:List D}{u:V}(h:Rv X.K RT Y J Z ZV H x u)(e:x.d=.tup ds):∃a xs,u=.ref a/\SqT X.K H a xs/\Reps X.K H (exV RT Y J Z ZV x.pa x.al) ds xs:=by unfold Rv at h;rw[e] at h;exact h
theorem Rv.lst{ds:List D}{u:V}(h:Rv X.K RT Y J Z ZV H x u)(e:x.d=.lst ds):∃a xs,u=.ref a/\SqL X.K H a xs/\¬ exV RT Y J Z ZV x.pa x.al a/\Reps X.K H (exV RT Y J Z ZV x.pa x.al) ds xs:=by unfold Rv at h;rw[e] at h;exact h
theorem aFz:lim<=sizeLine:=by unfold lim;rw[AW];decide
theorem dS{n:Nat}(h:n<=lim):n<=sizeLine:=AH h aFz
theorem dZ{ds:List D}{xs:List V}{pa:Bool}{al:List Nat}{K:Fg}(r:Reps K H (exV RT Y J Z ZV pa al) ds xs) :
 Reps K H (exV RT Y J Z ZV (pa&&!noLs ds) (if noLs ds=true then [] else al)) ds xs:=by by_cases q:noLs ds=true;exact Reps.free ds xs q r;rw[if_neg q];refine r.weak λa z=>z.mono (λL=>?_) λj I=>I;rw[L];simp[q]
noncomputable def aHZ(K:Fg):R2:=λx y H Q=>∃l b xs zs,x=.ref l/\y=.ref b/\SqL K H l xs/\SqL K H b zs/\xs.length+zs.length<=sizeLine/\∀p,H p=none->Q (.ref p) (upd H p (.lst (xs++zs)))
theorem aDc:OpR X (Cu .Add) (aHZ X.K):=by
 intro G s ZV H x y v u Q I rx ry h;obtain⟨l,b,xs,zs,rfl,rfl,hH,hB,hz,q⟩:=h;cases rx;cases ry;obtain⟨M,r,pl,z⟩:=I.list hH;obtain⟨L,r2,q3,z2⟩:=I.list hB;obtain⟨⟨cls,dd,data,sl⟩,ho,hc,n,hd⟩:=pl.isList;obtain⟨⟨q5,q2,q1,q4⟩,q0,U,n2,W⟩:=q3.isList;simp only at hc hd U W;subst hc hd U W;have e:M.toArray++L.toArray=(M++L).toArray:=by simp
 have hl:=r.length;have q6:=r2.length;refine DU ⟨_,ho,rfl⟩ ⟨_,q0,rfl⟩ noFill_list_add seq_list_add PySem.F.slot_list_add PySem.F.entry_list_add (PySem.F.args_list_add_2 _ _) (list_addW l b M.toArray L.toArray n n2 dd q2 sl q4 (by rw[Ak,Ak];omega)) ⟨ho,q0,?_⟩;rw[e];exact⟨.ref _,_,I.lnew (t':=s.toks) (r.append r2) (by rw[lA];omega),rfl,q _ I.fresh⟩
noncomputable def aIa(K:Fg):R2:=λx y H Q=>∃l k xs,x=.ref l/\y=.int k/\SqL K H l xs/\-(2 ^ 63)<=k/\k<2 ^ 63/\xs.length*k.toNat<=sizeLine/\∀p,H p=none->Q (.ref p) (upd H p (.lst (Ae k.toNat xs).flatten))
theorem zN(l:Addr)(items:Array Value)(n:Nat)(x:Int)(u:HS)(dd:Option Addr)(sl:Array (Option Value))(M:¬(!Dy x)=true)(U:¬items.size*x.toNat>(2 ^ 63-1) / 8)(q:¬Cc (items.size*x.toNat)=true) :
 Meets (DR.«list.__mul__» ⟨[.ref l,.int x u],[]⟩) (λ_ R s=>s.heap.get? l=some { cls:=.type "list",dict:=dd,data:=.seq items n,slots:=sl }/\R (.ok (.ret (AA s.heap.objs.size))) { s with heap:=s.heap.push { cls:=Hx "list",data:=Gg (EO (λW x2=>W++x2) #[] (Ae (if items.isEmpty=true then 0 else x.toNat) items)) },toks:=s.toks }):=
 .of_wp λprog w A R s h=>by
  obtain⟨hp,g,d,tk,os⟩:=s;obtain⟨L,h⟩:=h;have I:=GZ q;have f1:=HR;have f3:=GO
  wp_walk using wpAny_loadPart' L;refine wpAny_ite_false (A4 (BI.mpr I)) ?_;wp_walk using wpAny_loadPart' L;exact⟨_,rfl,h⟩
theorem zO(a:Int)(t:HS)(l:Addr)(items:Array Value)(n:Nat)(dd:Option Addr)(sl:Array (Option Value)) :
 Meets (DR.«int.__rmul__» ⟨[.int a t,.ref l],[]⟩) (λ_ R s=>s.heap.get? l=some { cls:=.type "list",dict:=dd,data:=.seq items n,slots:=sl }/\R (.ok (.ret Value.notImplemented)) s):=
 .of_wp λprog w A R s h=>by obtain⟨I,g,d,tk,os⟩:=s;obtain⟨q,h⟩:=h;wp_walk using wpAny_loadPart' q;exact⟨_,rfl,h⟩
theorem aDd:OpR X (Cu .Mult) (aIa X.K):=by
 intro G s Z H x y v u Q I rx ry h;obtain⟨l,k,xs,rfl,rfl,hH,h1,h2,hz,q⟩:=h;cases rx;obtain⟨t,rfl⟩:=ry;obtain⟨L,r,pl,z⟩:=I.list hH;obtain⟨⟨cls,dd,data,sl⟩,e,hc,n,hd⟩:=pl.isList;simp only at hc hd;subst hc hd;have hl:=r.length;have q1:L.toArray.size*k.toNat<=sizeLine:=by rw[Ak,<-hl];exact hz
 have W:¬ L.toArray.size*k.toNat>(2 ^ 63-1) / 8:=by
  have:(sizeLine:Nat)<=(2 ^ 63-1) / 8:=by decide
  omega
 have q0:¬ (!Dy k)=true:=by rw[fitsIndex_both h1 h2];exact bN
 have M:¬ Cc (L.toArray.size*k.toNat)=true:=by rw[aAG q1];exact bN
 have q2:EO (λx1 x2=>x1++x2) #[] (Ae (if L.toArray.isEmpty=true then 0 else k.toNat) L.toArray)=(Ae k.toNat L).flatten.toArray:=by
  have f0:∀m:Nat,EO (λx1 x2=>x1++x2) #[] (Ae m L.toArray)=(Ae m L).flatten.toArray:=λm=>by have:=nX L m [];rw[Dn] at this;exact this
  rw[f0];cases L with
  | nil=>simp|cons a r'=>rw[if_neg (by simp)]
 refine wpAny_binaryOp_repeat_ref (T:= "list") (U:= "int") (by decide) ⟨_,e,rfl⟩ (λs'=>Gd s' k t) noFill_list_mul PySem.F.fills_int_mul Ej repeat_list PySem.F.slot_int_index.lookup
  (EQ Ej (Gd s k t) PySem.F.entry_int_rmul (PySem.F.args_int_rmul_2 _ _) (zO k t l L.toArray n dd sl)
   ⟨e,rfl,⟨_,e,rfl⟩,EQ PySem.F.slot_list_mul ⟨_,e,rfl⟩ PySem.F.entry_list_mul (PySem.F.args_list_mul_2 _ _) (zN l L.toArray n k t dd sl q0 W M) ⟨e,?_⟩⟩)
 rw[q2];exact⟨.ref _,_,I.lnew (t':=s.toks) (r.rep k.toNat) (by rw[aCX,GP];exact hz),rfl,q _ I.fresh⟩
theorem aDe(x:Str):Str.rep x 1=x:=by unfold Str.rep;cases x;simp
theorem zP(x:Str)(h:x.length=0)(k:Nat):Str.rep x k=x:=by
 have q:x.cps=#[]:=by unfold Gc at h;exact Array.eq_empty_of_size_eq_zero h
 have go:∀k,(Ae k x.cps).foldl (·++·) #[]=#[]:=by
  intro k;rw[q]
  induction k with
  | zero=>rfl|succ k I=>rw[Bg,BW];simpa using I
 unfold Str.rep;rw[go k];cases x;simp at q;rw[q]
theorem vB(x:Str)(k:Nat):(⟨(Ae k x.cps).foldl (·++·) #[]⟩:Str).length=x.length*k:=by
 have go:∀(k:Nat) (acc:Array Nat),((Ae k x.cps).foldl (·++·) acc).size=acc.size+x.cps.size*k:=by
  intro k
  induction k with
  | zero=>intro acc;simp|succ k q=>intro acc;rw[Bg,BW,q,Array.size_append,GQ];omega
 show((Ae k x.cps).foldl (·++·) #[]).size=x.cps.size*k;rw[go];simp
theorem aDf:OpR X (Cu .Mult) (λx y H Q=>∃a k,x=.str a/\y=.int k/\aR k=true/\a.length*k.toNat<=lim/\Q (.str (Str.rep a k.toNat)) H):=by
 intro G s ZV H x y v u Q I rx ry h;obtain⟨a,k,rfl,rfl,M,hl,q⟩:=h;obtain⟨t,rfl⟩:=rx;obtain⟨t',rfl⟩:=ry;unfold aR at M;simp only[bA,AT] at M;have h1:-(2 ^ 62:Int)<=k:=M.1;have h2:k<(2 ^ 62:Int):=M.2;have e1:decide (k < -(2 ^ 63:Int))=false:=A4 (by omega);have e2:decide (k ≥ (2 ^ 63:Int))=false:=A4 (by omega);have L:∀z:Str,z=Str.rep a k.toNat->∀tk,EP X G ZV Q (.str z tk) { s with toks:=s.toks+1 }:=λz e tk=>by subst e;exact⟨.str _,H,I.tok _,⟨_,rfl⟩,q⟩
 refine P.mul_str (by rw[e1,e2];rfl) (λn1 n2 z=>?_) (λn1 n2=>?_) ?_;have k1:1<=k:=by omega
 have z1:(a.length:Int)*k<=(lim:Int):=by
  have W:((k.toNat:Nat):Int)=k:=by omega
  have:=Int.ofNat_le.mpr hl;rw[FO] at this;rw[<-W]
  exact_mod_cast this
 have z2:(2 ^ 63-1:Int) / k<a.length:=z;have z3:(2 ^ 63-1:Int)<a.length*k:=Int.lt_mul_of_ediv_lt (by omega) z2;have z4:(lim:Int)=1000000:=rfl;omega;unfold Hu;have:=dS hl;exact A4 (by omega);split;rename_i hn;have:k.toNat=0:=by omega
 refine⟨by decide,?_⟩;exact L _ (by rw[this];rfl) _;split;rename_i hn U;have hz:Str.rep a k.toNat=a:=by rcases Bool.or_eq_true_iff.mp U with z|z;have:k=1:=eq_of_beq z;subst this;exact aDe a;exact zP a (eq_of_beq z) _
 exact⟨.str a,H,I,⟨_,rfl⟩,by rw[hz] at q;exact q⟩;refine⟨?_,L _ rfl _⟩;have:=dS hl;rw[vB];exact this
noncomputable def aFA(K:Fg):R2:=λx y H Q=>∃a b xs ys,x=.ref a/\y=.ref b/\SqT K H a xs/\SqT K H b ys/\xs.length+ys.length<=sizeLine /\
 (xs=[]->Q (.ref b) H)/\(xs≠[]->ys=[]->Q (.ref a) H)/\(xs≠[]->ys≠[]->∀p,H p=none->Q (.ref p) (upd H p (.tup (xs++ys))))
theorem aAO:OpR X (Cu .Add) (aFA X.K):=by
 intro G s Z H x y v u Q I rx ry h;obtain⟨a,b,xs,ys,rfl,rfl,ha,hb,hz,q0,q1,q2⟩:=h;by_cases U:xs=[]
 cases rx;cases ry;obtain⟨W,r1,p1,_⟩:=I.tuple ha;obtain⟨q3,r2,p2,_⟩:=I.tuple hb;obtain⟨⟨cls,dd,data,sl⟩,ho,hc,n,hd⟩:=id p1;obtain⟨⟨q7,q5,q4,q6⟩,M,q,n2,L⟩:=id p2;simp only at hc hd q L;subst hc hd q L;have hi:W=[]:=r1.nil_iff.mpr U;exact DU ⟨_,ho,rfl⟩ ⟨_,M,rfl⟩ DI EE CY CT (CI _ _)
  (tuple_addW0 a b W.toArray q3.toArray n n2 dd q5 sl q6 (by simp[hi])) ⟨ho,M,⟨.ref b,H,I,rfl,q0 U⟩⟩
 exact aCT G s Z H _ _ v u Q I rx ry ⟨a,b,xs,ys,rfl,rfl,ha,hb,U,hz,q1 U,q2 U⟩
theorem sC{o:Operator}(I:Inv X G ZV H s)(S:Sx X.K RT Y J Z ZV H)(rx:bC ux vx)(ry:bC uy vy)(W:Rv X.K RT Y J Z ZV H x ux)(hy:Rv X.K RT Y J Z ZV H y uy)
 (q4:x.fr=true->∃a xs,ux=.ref a/\H a=some (.lst xs)) {w:D->Prop} (h:RE w (opD o x y) (Wn X RT Y J Z ZV H Q)):Ao (Au X.prog X.w) X.A (Cu o vx vy) (EP X G ZV Q) X.xe s:=by
 have t:=Inv.tk I;have go:∀{f:Value->Value->Ht Value} {r:R2},OpR X f r->(r ux uy H λv H'=>Tk X.K H'->Q v H')->Ao (Au X.prog X.w) X.A (f vx vy) (EP X G ZV Q) X.xe s:=λhr q=>thn (hr G s ZV H ux uy vx vy _ I rx ry q) λu s' z=>EP.tk z;cases o with
 | Add=>have h:RE w (aFt x y) (Wn X RT Y J Z ZV H Q):=h;unfold aFt at h;split at h;rename_i i j L M;exact go aFe ⟨i,j,W.int L,hy.int M,λ_=>h.val t λ_=>rfl⟩;rename_i i j L M;obtain⟨c,h⟩:=h.iff;exact go uQ ⟨i,j,W.str L,hy.str M,dS (of_decide_eq_true c),λ_=>Wn.val h t λ_=>rfl⟩;rename_i as bs L M;obtain⟨c,h⟩:=h.iff;obtain⟨a,xs,e1,q1,r1⟩:=W.tup L;obtain⟨b,ys,e2,q2,r2⟩:=hy.tup M;have l1:=r1.length;have l2:=r2.length;have c':=of_decide_eq_true c;have q0:Reps X.K H (exV RT Y J Z ZV (x.pa||y.pa) (x.al++y.al)) as xs:=r1.weak λa z=>z.mono (λU=>by rw[U];rfl) λj hj=>AC _ hj;have q3:Reps X.K H (exV RT Y J Z ZV (x.pa||y.pa) (x.al++y.al)) bs ys:=r2.weak λa z=>z.mono (λU=>by rw[U,Bz]) λj hj=>Aq _ hj;refine go aAO ⟨a,b,xs,ys,e1,e2,q1,q2,dS (by omega),λz t'=>?_,λz z' t'=>?_,λz z' p U t'=>?_⟩;subst z;have:as=[]:=DK.mp (by simpa using l1);subst this;exact h _ _ t' (Ro.plain (aG.refl H) rfl ⟨b,ys,rfl,q2,q3⟩);subst z';have:bs=[]:=DK.mp (by simpa using l2);subst this;exact h _ _ t' (Ro.plain (aG.refl H) rfl ⟨a,xs,rfl,q1,by rw[BH];exact q0⟩);exact h _ _ t' (Ro.tup U rfl rfl (q0.append q3));rename_i as bs L M;obtain⟨c,h⟩:=h.iff;obtain⟨a,xs,e1,q1,_,r1⟩:=W.lst L;obtain⟨b,ys,e2,q2,_,r2⟩:=hy.lst M;have l1:=r1.length;have l2:=r2.length;have c':=of_decide_eq_true c;refine go aDc ⟨a,b,xs,ys,e1,e2,q1,q2,dS (by omega),λp U t'=>h _ _ t' (Ro.fresh U t' rfl rfl S ?_)⟩;refine Reps.append ((dZ r1).weak λa z=>z.mono (λU=>?_) λj hj=>AC _ hj) ((dZ r2).weak λa z=>z.mono (λU=>?_) λj hj=>Aq _ hj);show(_||_)=true;rw[U];rfl;show(_||_)=true;rw[U,Bz];exact h.elim|Mult=>have h:RE w (aFu x y) (Wn X RT Y J Z ZV H Q):=h;unfold aFu at h;split at h;rename_i i j L M;obtain⟨c,h⟩:=h.iff;refine go aFg ⟨i,j,W.int L,hy.int M,?_,λ_=>Wn.val h t λ_=>rfl⟩;simp only[oA,Cw,bA,AT] at c;exact c;rename_i i j L M;obtain⟨c,h⟩:=h.iff;simp only[bA,AT] at c;exact go aDf ⟨i,j,W.str L,hy.int M,c.1,c.2,λ_=>Wn.val h t λ_=>rfl⟩;rename_i as k L M;obtain⟨c,h⟩:=h.iff;simp only[bA,AT] at c;obtain⟨a,xs,e1,q1,_,r1⟩:=W.lst L;have l1:=r1.length;have hk:=c.1;unfold aR at hk;simp only[bA,AT] at hk;have q5:=hk.1;have q6:=hk.2;refine go aDd ⟨a,k,xs,e1,hy.int M,q1,by omega,by omega,dS (by rw[<-l1];exact c.2),λp U t'=>h _ _ t' (Ro.fresh U t' rfl rfl S ?_)⟩;exact Reps.flat (dZ r1) _;exact h.elim|Sub=>dsimp only[opD,zL] at h;split at h;rename_i i j L M;exact go aFf ⟨i,j,W.int L,hy.int M,λ_=>h.val t λ_=>rfl⟩;exact h.elim|FloorDiv=>dsimp only[opD,zL] at h;split at h;rename_i i j L M;obtain⟨c,h⟩:=h.iff;refine go aCO ⟨i,j,W.int L,hy.int M,?_,λ_=>Wn.val h t λ_=>rfl⟩;simp only[rV,bA,AT] at c;exact c;exact h.elim|Mod=>dsimp only[opD,zL] at h;split at h;rename_i i j L M;obtain⟨c,h⟩:=h.iff;exact go aFh ⟨i,j,W.int L,hy.int M,of_decide_eq_true c,λ_=>Wn.val h t λ_=>rfl⟩;exact h.elim|_=>exact h.elim
end
end Hp
namespace Hp
open PySem PySem.Spec PyProof.Rows L2 PySem.SeqAt
noncomputable def fS(n:Nat)(ds es:List D)(j:Nat):Bool:=match ds[j]?,es[j]? with|some x,some y=>(eqF n x y).getD false|_,_=>false
theorem wR:∀{n:Nat} {ds es:List D} {k:Bool},eF n ds es=some k->∀{j:Nat} {x y:D},ds[j]? = some x->es[j]? = some y->∃b,eqF n x y=some b
 | n,[],es,k,h,j,x,y,e1,e2=>by simp at e1|n,d::ds,[],k,h,j,x,y,e1,e2=>by simp at e2|n,d::ds,e::es,k,h,j,x,y,e1,e2=>by
  rw[eF] at h;cases q:eqF n d e with
  | none=>rw[q] at h;simp at h|some b=>
   cases I:eF n ds es with
   | none=>rw[q,I] at h;simp at h|some L=>
    cases j with
    | zero=>simp at e1 e2;subst e1 e2;exact⟨b,q⟩|succ j=>exact wR I (by simpa using e1) (by simpa using e2)
theorem lU:∀{n:Nat} {ds es:List D} {k:Bool},eF n ds es=some k->k=((Bt (min ds.length es.length)).all (fS n ds es)&&ds.length==es.length)
 | n,[],[],k,h=>by simp[eF] at h;simp[<-h]|n,[],e::es,k,h=>by simp[eF] at h;simp[<-h]|n,d::ds,[],k,h=>by simp[eF] at h;simp[<-h]|n,d::ds,e::es,k,h=>by
  rw[eF] at h;cases q:eqF n d e with
  | none=>rw[q] at h;simp at h|some b=>
   cases L:eF n ds es with
   | none=>rw[q,L] at h;simp at h|some M=>
    rw[q,L] at h;have W:(b&&M)=k:=Ah h;have ih:=lU L;have U:fS n (d::ds) (e::es) 0=b:=by simp[fS,q]
    have I:∀j,fS n (d::ds) (e::es) (j+1)=fS n ds es j:=λj=>by simp[fS]
    have hm:min (d::ds).length (e::es).length=min ds.length es.length+1:=by simp only[lC];omega
    rw[hm,List.range_succ_eq_map,Dh,U,List.all_map];have:(fS n (d::ds) (e::es))∘Nat.succ=fS n ds es:=funext λj=>I j;rw[this,<-W,ih];simp[Bool.and_assoc]
section
variable {X:Cx} {ZV:L2.St} {H:Hp} {s:Ad} {G:List (Addr×Obj)}
theorem _root_.L2.Inv.lt_ne(I:L2.Inv X G ZV H s){a:Addr}{xs W:List V}(L:SqL X.K H a xs)(M:SqT X.K H a W):False:=by obtain⟨U,_,pl,_⟩:=I.list L;obtain⟨q,_,pt,_⟩:=I.tuple M;exact ne_of_list_tuple pl.isList (show s.heap.IsTuple a q.toArray from pt) rfl
theorem aAP{n:Nat}{ds:List (D×D)}{e:D}{k:Bool}(h:eqF (n+1) (.dic ds) e=some k):False:=by unfold eqF at h;split at h <;> first|(cases h;done)|(rename_i q I;cases q;done)|(rename_i q;cases q;done)
mutual
theorem pV(I:L2.Inv X G ZV H s):∀(n:Nat) (d e:D) (u:V) (k:Bool) (ex M:Addr->Prop),Rep X.K H ex d u->Rep X.K H M e u->eqF n d e=some k->k=true
 | 0,d,e,u,k,_,_,_,_,h=>by simp[eqF] at h|n+1,.non,e,u,k,_,_,h1,h2,h=>by
  rw[show u=.non from h1] at h2;cases e with
  | non=>simpa[eqF] using h.symm|tup ds=>obtain⟨a,xs,z,_⟩:=h2;cases z|lst ds=>obtain⟨a,xs,z,_⟩:=h2;cases z|dic ds=>obtain⟨a,xs,z,_⟩:=h2;cases z|err _ _=>simp[eqF] at h|bl b=>cases(show V.non=.bl b from h2)|int b=>cases(show V.non=.int b from h2)|str b=>cases(show V.non=.str b from h2)
 | n+1,.bl b,e,u,k,_,_,h1,h2,h=>by
  rw[show u=.bl b from h1] at h2;cases e with
  | bl L=>cases(show V.bl b=.bl L from h2);simpa[eqF] using h.symm|tup ds=>obtain⟨a,xs,z,_⟩:=h2;cases z|lst ds=>obtain⟨a,xs,z,_⟩:=h2;cases z|dic ds=>obtain⟨a,xs,z,_⟩:=h2;cases z|err _ _=>simp[eqF] at h|non=>cases(show V.bl b=.non from h2)|int L=>cases(show V.bl b=.int L from h2)|str L=>cases(show V.bl b=.str L from h2)
 | n+1,.int b,e,u,k,_,_,h1,h2,h=>by
  rw[show u=.int b from h1] at h2;cases e with
  | int L=>cases(show V.int b=.int L from h2);simpa[eqF] using h.symm|tup ds=>obtain⟨a,xs,z,_⟩:=h2;cases z|lst ds=>obtain⟨a,xs,z,_⟩:=h2;cases z|dic ds=>obtain⟨a,xs,z,_⟩:=h2;cases z|err _ _=>simp[eqF] at h|non=>cases(show V.int b=.non from h2)|bl L=>cases(show V.int b=.bl L from h2)|str L=>cases(show V.int b=.str L from h2)
 | n+1,.str b,e,u,k,_,_,h1,h2,h=>by
  rw[show u=.str b from h1] at h2;cases e with
  | str L=>cases(show V.str b=.str L from h2);simpa[eqF] using h.symm|tup ds=>obtain⟨a,xs,z,_⟩:=h2;cases z|lst ds=>obtain⟨a,xs,z,_⟩:=h2;cases z|dic ds=>obtain⟨a,xs,z,_⟩:=h2;cases z|err _ _=>simp[eqF] at h|non=>cases(show V.str b=.non from h2)|bl L=>cases(show V.str b=.bl L from h2)|int L=>cases(show V.str b=.int L from h2)
 | n+1,.tup ds,e,u,k,ex,M,h1,h2,h=>by
  obtain⟨a,xs,z,q,r⟩:=h1;subst z;cases e with
  | tup es=>obtain⟨a',ys,z,U,W⟩:=h2;cases z;have:xs=ys:=I.tuple_inj q U;subst this;exact eqs_same I n ds es xs k ex M r W (by simpa[eqF] using h)|lst es=>obtain⟨a',ys,z,U,_,W⟩:=h2;cases z;exact(I.lt_ne U q).elim|dic ds=>simp[eqF] at h|err _ _=>simp[eqF] at h|non=>cases(show V.ref a=.non from h2)|bl L=>cases(show V.ref a=.bl L from h2)|int L=>cases(show V.ref a=.int L from h2)|str L=>cases(show V.ref a=.str L from h2)
 | n+1,.lst ds,e,u,k,ex,M,h1,h2,h=>by
  obtain⟨a,xs,z,q,_,r⟩:=h1;subst z;cases e with
  | lst es=>obtain⟨a',ys,z,U,_,W⟩:=h2;cases z;have:xs=ys:=I.list_inj q U;subst this;have hl:ds.length=es.length:=r.length.trans W.length.symm;exact eqs_same I n ds es xs k ex M r W (by simpa[eqF,hl] using h)|tup es=>obtain⟨a',ys,z,U,W⟩:=h2;cases z;exact(I.lt_ne q U).elim|dic ds=>simp[eqF] at h|err _ _=>simp[eqF] at h|non=>cases(show V.ref a=.non from h2)|bl L=>cases(show V.ref a=.bl L from h2)|int L=>cases(show V.ref a=.int L from h2)|str L=>cases(show V.ref a=.str L from h2)
 | n+1,.dic ds,e,u,k,ex,M,h1,h2,h=>by exact(aAP h).elim|n+1,.err _ _,e,u,k,ex,M,h1,h2,h=>by cases e <;> cases h
theorem eqs_same(I:L2.Inv X G ZV H s):∀(n:Nat) (ds es:List D) (us:List V) (k:Bool) (ex q:Addr->Prop),Reps X.K H ex ds us->Reps X.K H q es us->eF n ds es=some k->k=true
 | n,[],[],us,k,_,_,h1,h2,h=>by simpa[eF] using h.symm|n,[],e::es,us,k,_,_,h1,h2,h=>by obtain⟨x,r,z,_⟩:=h2;rw[show us=[] from h1] at z;cases z|n,d::ds,[],us,k,_,_,h1,h2,h=>by obtain⟨x,r,z,_⟩:=h1;rw[show us=[] from h2] at z;cases z|n,d::ds,e::es,us,k,ex,q,h1,h2,h=>by
  obtain⟨x,r,z,W,b1⟩:=h1;obtain⟨x',r',U,a2,b2⟩:=h2;rw[z] at U;cases U;rw[eF] at h;cases L:eqF n d e with
  | none=>rw[L] at h;simp at h|some b=>
   cases M:eF n ds es with
   | none=>rw[L,M] at h;simp at h|some b'=>rw[L,M] at h;have e1:=pV I n d e x b ex q W a2 L;have e2:=eqs_same I n ds es r b' ex q b1 b2 M;subst e1 e2;simpa using h.symm
end
noncomputable def Eq3(A:AY)(s:Ad)(v z:Value)(k:Bool):Prop:=EqAt A s v z k/\RcAt A s v z k/\RcNeAt A s v z (!k)
theorem wU{xs:List V}{us:List Value}(r:aQ xs us){j:Nat}(h:j<us.toArray.size):∃x,xs[j]? = some x/\bC x us.toArray[j]:=by
 have M:=r.length;have I:j<xs.length:=by rw[Ak] at h;omega
 obtain⟨u,e,q⟩:=r.get (Ap I);refine⟨xs[j],Ap I,?_⟩;have:us.toArray[j]=u:=by
  have L:us[j]? = some us.toArray[j]:=by simp[Ap (show j<us.length by simpa using h)]
  rw[L] at e;exact Ah e
 rw[this];exact q
theorem zQ(A:AY):A.in1.units=A.units+1:=rfl
theorem aDg(I:L2.Inv X G ZV H s):∀(n:Nat) (A:AY) (d e:D) (u w:V) (v z:Value) (k:Bool) (ex q5:Addr->Prop),A.units+n<GD->Rep X.K H ex d u->Rep X.K H q5 e w->bC u v->bC w z->eqF n d e=some k->Eq3 A s v z k:=by
 intro n
 induction n with
 | zero=>intro A d e u w v z k ex q5 _ _ _ _ _ h;simp[eqF] at h|succ n ih=>
  intro A d e u w v z k ex q5 hA h1 h2 r1 U h;have M:A.units<GD:=by omega
  have items:∀{ds es:List D} {xs ys:List V} {W q0:List Value} {k:Bool},Reps X.K H ex ds xs->Reps X.K H q5 es ys->aQ xs W->aQ ys q0->eF n ds es=some k ->
   ∀j (_:j<W.toArray.size) (_:j<q0.toArray.size),EqAt A.in1 s W.toArray[j] q0.toArray[j] (fS n ds es j):=by
   intro ds es xs ys W q0 k q1 q2 v1 v2 hk j w6 w7;obtain⟨x,w4,rx⟩:=wU v1 w6;obtain⟨y,w5,ry⟩:=wU v2 w7;obtain⟨d',ed,rd⟩:=q1.get' w4;obtain⟨e',ee,re⟩:=q2.get' w5;obtain⟨b,hb⟩:=wR hk ed ee;have hj:fS n ds es j=b:=by simp[fS,ed,ee,hb]
   rw[hj];exact(ih A.in1 d' e' x y _ _ b ex q5 (by rw[zQ];omega) rd re rx ry hb).1
  cases d with
  | err _ _=>cases e <;> cases h|dic ds=>exact(aAP h).elim|non=>
   rw[show u=.non from h1] at r1;cases r1;cases e with
   | err _ _=>simp[eqF] at h|dic _=>simp[eqF] at h|non=>rw[show w=.non from h2] at U;cases U;simp[eqF] at h;subst h;exact⟨EqAt.same _,RcAt.none_none,RcNeAt.none_none⟩|bl b=>rw[show w=.bl b from h2] at U;cases U;simp[eqF] at h;subst h;exact⟨EqAt.none_bool _,RcAt.none_bool _,RcNeAt.none_bool _⟩|int b=>rw[show w=.int b from h2] at U;obtain⟨t,rfl⟩:=U;simp[eqF] at h;subst h;exact⟨EqAt.none_int _ _,RcAt.none_int _ _,RcNeAt.none_int _ _⟩|str b=>rw[show w=.str b from h2] at U;obtain⟨t,rfl⟩:=U;simp[eqF] at h;subst h;exact⟨EqAt.none_str _ _,RcAt.none_str _ _,RcNeAt.none_str _ _⟩|tup es=>obtain⟨b,ys,rfl,q,r⟩:=h2;cases U;obtain⟨W,_,p,_⟩:=I.tuple q;simp[eqF] at h;subst h;exact⟨EqAt.none_tuple (show s.heap.IsTuple b W.toArray from p) M,RcAt.none_tuple (show s.heap.IsTuple b W.toArray from p) M,RcNeAt.none_tuple (show s.heap.IsTuple b W.toArray from p) M⟩|lst es=>obtain⟨b,ys,rfl,q,_,r⟩:=h2;cases U;obtain⟨W,_,p,_⟩:=I.list q;simp[eqF] at h;subst h;exact⟨EqAt.none_list p.isList M,RcAt.none_list p.isList M,RcNeAt.none_list p.isList M⟩
  | bl a=>
   rw[show u=.bl a from h1] at r1;cases r1;cases e with
   | err _ _=>simp[eqF] at h|dic _=>simp[eqF] at h|non=>rw[show w=.non from h2] at U;cases U;simp[eqF] at h;subst h;exact⟨EqAt.bool_none _,RcAt.bool_none _,RcNeAt.bool_none _⟩|bl b=>rw[show w=.bl b from h2] at U;cases U;simp only[eqF,BZ] at h;subst h;exact⟨EqAt.bool_bool _ _,RcAt.bool_bool _ _,RcNeAt.bool_bool _ _⟩|int b=>rw[show w=.int b from h2] at U;obtain⟨t,rfl⟩:=U;simp only[eqF,BZ] at h;subst h;exact⟨EqAt.bool_int _ _ _,RcAt.bool_int _ _ _,RcNeAt.bool_int _ _ _⟩|str b=>rw[show w=.str b from h2] at U;obtain⟨t,rfl⟩:=U;simp[eqF] at h;subst h;exact⟨EqAt.bool_str _ _ _,RcAt.bool_str _ _ _,RcNeAt.bool_str _ _ _⟩|tup es=>obtain⟨b,ys,rfl,q,r⟩:=h2;cases U;obtain⟨W,_,p,_⟩:=I.tuple q;simp[eqF] at h;subst h;exact⟨EqAt.bool_tuple _ (show s.heap.IsTuple b W.toArray from p) M,RcAt.bool_tuple _ (show s.heap.IsTuple b W.toArray from p) M,RcNeAt.bool_tuple _ (show s.heap.IsTuple b W.toArray from p) M⟩|lst es=>obtain⟨b,ys,rfl,q,_,r⟩:=h2;cases U;obtain⟨W,_,p,_⟩:=I.list q;simp[eqF] at h;subst h;exact⟨EqAt.bool_list _ p.isList M,RcAt.bool_list _ p.isList M,RcNeAt.bool_list _ p.isList M⟩
  | int a=>
   rw[show u=.int a from h1] at r1;obtain⟨t1,rfl⟩:=r1;cases e with
   | err _ _=>simp[eqF] at h|dic _=>simp[eqF] at h|non=>rw[show w=.non from h2] at U;cases U;simp[eqF] at h;subst h;exact⟨EqAt.int_none _ _,RcAt.int_none _ _,RcNeAt.int_none _ _⟩|bl b=>rw[show w=.bl b from h2] at U;cases U;simp only[eqF,BZ] at h;subst h;exact⟨EqAt.int_bool _ _ _,RcAt.int_bool _ _ _,RcNeAt.int_bool _ _ _⟩|int b=>rw[show w=.int b from h2] at U;obtain⟨t,rfl⟩:=U;simp only[eqF,BZ] at h;subst h;exact⟨EqAt.int_int _ _ _ _,RcAt.int_int _ _ _ _,RcNeAt.int_int _ _ _ _⟩|str b=>rw[show w=.str b from h2] at U;obtain⟨t,rfl⟩:=U;simp[eqF] at h;subst h;exact⟨EqAt.int_str _ _ _ _,RcAt.int_str _ _ _ _,RcNeAt.int_str _ _ _ _⟩|tup es=>obtain⟨b,ys,rfl,q,r⟩:=h2;cases U;obtain⟨W,_,p,_⟩:=I.tuple q;simp[eqF] at h;subst h;exact⟨EqAt.int_tuple _ _ (show s.heap.IsTuple b W.toArray from p) M,RcAt.int_tuple _ _ (show s.heap.IsTuple b W.toArray from p) M,RcNeAt.int_tuple _ _ (show s.heap.IsTuple b W.toArray from p) M⟩|lst es=>obtain⟨b,ys,rfl,q,_,r⟩:=h2;cases U;obtain⟨W,_,p,_⟩:=I.list q;simp[eqF] at h;subst h;exact⟨EqAt.int_list _ _ p.isList M,RcAt.int_list _ _ p.isList M,RcNeAt.int_list _ _ p.isList M⟩
  | str a=>
   rw[show u=.str a from h1] at r1;obtain⟨t1,rfl⟩:=r1;cases e with
   | err _ _=>simp[eqF] at h|dic _=>simp[eqF] at h|non=>rw[show w=.non from h2] at U;cases U;simp[eqF] at h;subst h;exact⟨EqAt.str_none _ _,RcAt.str_none _ _,RcNeAt.str_none _ _⟩|bl b=>rw[show w=.bl b from h2] at U;cases U;simp[eqF] at h;subst h;exact⟨EqAt.str_bool _ _ _,RcAt.str_bool _ _ _,RcNeAt.str_bool _ _ _⟩|int b=>rw[show w=.int b from h2] at U;obtain⟨t,rfl⟩:=U;simp[eqF] at h;subst h;exact⟨EqAt.str_int _ _ _ _,RcAt.str_int _ _ _ _,RcNeAt.str_int _ _ _ _⟩|str b=>rw[show w=.str b from h2] at U;obtain⟨t,rfl⟩:=U;simp only[eqF,BZ] at h;subst h;exact⟨EqAt.str_str _ _ _ _,RcAt.str_str _ _ _ _,RcNeAt.str_str _ _ _ _⟩|tup es=>obtain⟨b,ys,rfl,q,r⟩:=h2;cases U;obtain⟨W,_,p,_⟩:=I.tuple q;simp[eqF] at h;subst h;exact⟨EqAt.str_tuple _ _ (show s.heap.IsTuple b W.toArray from p) M,RcAt.str_tuple _ _ (show s.heap.IsTuple b W.toArray from p) M,RcNeAt.str_tuple _ _ (show s.heap.IsTuple b W.toArray from p) M⟩|lst es=>obtain⟨b,ys,rfl,q,_,r⟩:=h2;cases U;obtain⟨W,_,p,_⟩:=I.list q;simp[eqF] at h;subst h;exact⟨EqAt.str_list _ _ p.isList M,RcAt.str_list _ _ p.isList M,RcNeAt.str_list _ _ p.isList M⟩
  | tup ds=>
   have q8:=h1;obtain⟨a,xs,rfl,q1,q6⟩:=h1;cases r1;obtain⟨q4,v1,p1,_⟩:=I.tuple q1;have L:s.heap.IsTuple a q4.toArray:=p1;cases e with
   | err _ _=>simp[eqF] at h|dic _=>simp[eqF] at h|non=>rw[show w=.non from h2] at U;cases U;simp[eqF] at h;subst h;exact⟨EqAt.tuple_none L M,RcAt.tuple_none L M,RcNeAt.tuple_none L M⟩|bl b=>rw[show w=.bl b from h2] at U;cases U;simp[eqF] at h;subst h;exact⟨EqAt.tuple_bool _ L M,RcAt.tuple_bool _ L M,RcNeAt.tuple_bool _ L M⟩|int b=>rw[show w=.int b from h2] at U;obtain⟨t,rfl⟩:=U;simp[eqF] at h;subst h;exact⟨EqAt.tuple_int _ _ L M,RcAt.tuple_int _ _ L M,RcNeAt.tuple_int _ _ L M⟩|str b=>rw[show w=.str b from h2] at U;obtain⟨t,rfl⟩:=U;simp[eqF] at h;subst h;exact⟨EqAt.tuple_str _ _ L M,RcAt.tuple_str _ _ L M,RcNeAt.tuple_str _ _ L M⟩|tup es=>
    have q9:=h2;obtain⟨b,ys,rfl,q2,q3⟩:=h2;cases U;obtain⟨q0,v2,p2,_⟩:=I.tuple q2;have hk:eF n ds es=some k:=by simpa[eqF] using h
    have hv:=lU hk;have l1:q4.toArray.size=ds.length:=by rw[Ak,<-v1.length,q6.length]
    have l2:q0.toArray.size=es.length:=by rw[Ak,<-v2.length,q3.length]
    have rc:RcAt A s (.ref a) (.ref b) k:=by rw[hv,<-l1,<-l2];exact RcAt.tuples L (show s.heap.IsTuple b q0.toArray from p2) M (items q6 q3 v1 v2 hk)
    have rn:RcNeAt A s (.ref a) (.ref b) (!k):=by rw[hv,<-l1,<-l2];exact RcNeAt.tuples L (show s.heap.IsTuple b q0.toArray from p2) M (items q6 q3 v1 v2 hk)
    refine⟨?_,rc,rn⟩;by_cases q7:a=b;subst q7;have:=pV I (n+1) (.tup ds) (.tup es) (.ref a) k ex q5 q8 q9 h;subst this;exact EqAt.same _;exact EqAt.of_refs q7 rc
   | lst es=>obtain⟨b,ys,rfl,q2,_,q3⟩:=h2;cases U;obtain⟨q0,v2,p2,_⟩:=I.list q2;simp[eqF] at h;subst h;exact⟨EqAt.tuple_list L p2.isList M,RcAt.tuple_list L p2.isList M,RcNeAt.tuple_list L p2.isList M⟩
  | lst ds=>
   have q8:=h1;obtain⟨a,xs,rfl,q1,_,q6⟩:=h1;cases r1;obtain⟨q4,v1,p1,_⟩:=I.list q1;have L:=p1.isList;cases e with
   | err _ _=>simp[eqF] at h|dic _=>simp[eqF] at h|non=>rw[show w=.non from h2] at U;cases U;simp[eqF] at h;subst h;exact⟨EqAt.list_none L M,RcAt.list_none L M,RcNeAt.list_none L M⟩|bl b=>rw[show w=.bl b from h2] at U;cases U;simp[eqF] at h;subst h;exact⟨EqAt.list_bool _ L M,RcAt.list_bool _ L M,RcNeAt.list_bool _ L M⟩|int b=>rw[show w=.int b from h2] at U;obtain⟨t,rfl⟩:=U;simp[eqF] at h;subst h;exact⟨EqAt.list_int _ _ L M,RcAt.list_int _ _ L M,RcNeAt.list_int _ _ L M⟩|str b=>rw[show w=.str b from h2] at U;obtain⟨t,rfl⟩:=U;simp[eqF] at h;subst h;exact⟨EqAt.list_str _ _ L M,RcAt.list_str _ _ L M,RcNeAt.list_str _ _ L M⟩|lst es=>
    have q9:=h2;obtain⟨b,ys,rfl,q2,_,q3⟩:=h2;cases U;obtain⟨q0,v2,p2,_⟩:=I.list q2;have l1:q4.toArray.size=ds.length:=by rw[Ak,<-v1.length,q6.length]
    have l2:q0.toArray.size=es.length:=by rw[Ak,<-v2.length,q3.length]
    have both:RcAt A s (.ref a) (.ref b) k/\RcNeAt A s (.ref a) (.ref b) (!k):=by
     by_cases hl:ds.length=es.length;have hk:eF n ds es=some k:=by simpa[eqF,hl] using h
     have hv:=lU hk;rw[<-hl,Nat.min_self,beq_self_eq_true,Di,<-l1] at hv;rw[hv];exact⟨RcAt.lists L p2.isList (by rw[l1,l2,hl]) M (items q6 q3 v1 v2 hk),RcNeAt.lists L p2.isList (by rw[l1,l2,hl]) M (items q6 q3 v1 v2 hk)⟩;have hk:k=false:=by simpa[eqF,hl] using h.symm
     subst hk;have hz:(q4.toArray.size != q0.toArray.size)=true:=by rw[l1,l2];simpa using hl
     exact⟨RcAt.lists_lengths L p2.isList hz M,RcNeAt.lists_lengths L p2.isList hz M⟩
    refine⟨?_,both.1,both.2⟩;by_cases q7:a=b;subst q7;have:=pV I (n+1) (.lst ds) (.lst es) (.ref a) k ex q5 q8 q9 h;subst this;exact EqAt.same _;exact EqAt.of_refs q7 both.1
   | tup es=>obtain⟨b,ys,rfl,q2,q3⟩:=h2;cases U;obtain⟨q0,v2,p2,_⟩:=I.tuple q2;have w3:s.heap.IsTuple b q0.toArray:=p2;simp[eqF] at h;subst h;exact⟨EqAt.list_tuple L w3 M,RcAt.list_tuple L w3 M,RcNeAt.list_tuple L w3 M⟩
end
section
variable {X:Cx} {RT Y J:Addr->Prop} {Z:Sg} {ZV:L2.St} {H:Hp} {s:Ad} {G:List (Addr×Obj)} {Q:VK} {ux uy:V} {vx vy:Value} {x y:Vl}
theorem zR{o:CmpOp}{k:Bool}{W:L2.St}(I:L2.Inv X G ZV H s)(hA:X.A.units+200<GD)(rx:bC ux vx)(ry:bC uy vy)(L:Rv X.K RT Y J Z W H x ux)(hy:Rv X.K RT Y J Z W H y uy)
 (h:bT o x.d y.d=some k) (q:Q (.bl k) H):Ao (Au X.prog X.w) X.A (BV o vx vy) (EP X G ZV Q) X.xe s:=by
 have hu:X.A.units<GD:=by omega
 have q0:EP X G ZV Q (.bool k) s:=⟨.bl k,H,I,rfl,q⟩
 have hD:pR=120:=rfl;have go:∀{f:Value->Value->Ht Value} {r:R2},OpR X f r->r ux uy H Q->Ao (Au X.prog X.w) X.A (f vx vy) (EP X G ZV Q) X.xe s:=λhr q=>hr G s ZV H ux uy vx vy Q I rx ry q;have e3:∀{b:Bool},eqD x.d y.d=some b->Eq3 X.A s vx vy b:=λ{b} hb=>aDg I pR X.A x.d y.d ux uy vx vy b _ _ (by omega) L hy rx ry hb;cases o with
 | Eq=>exact(e3 h).2.1 X.prog X.w X.xe _ q0|NotEq=>simp only[bT,Bj] at h;obtain⟨b,hb,e⟩:=h;subst e;exact(e3 hb).2.2 X.prog X.w X.xe _ q0|Lt=>simp only[bT] at h;unfold ltD at h;split at h;rename_i a b M U;exact go aHD ⟨a,b,L.int M,hy.int U,by show Q (.bl (decide (a<b))) H;rw[Ah h];exact q⟩;cases h|Gt=>simp only[bT] at h;split at h;rename_i a b M U;exact go aHF ⟨a,b,L.int M,hy.int U,by show Q (.bl (decide (b<a))) H;rw[Ah h];exact q⟩;cases h|LtE=>simp only[bT] at h;unfold leD at h;split at h;rename_i a b M U;exact go aHE ⟨a,b,L.int M,hy.int U,by show Q (.bl (decide (a<=b))) H;rw[Ah h];exact q⟩;cases h|Is=>
  simp only[bT] at h;split at h;rename_i U;refine go aFk ⟨hy.non U,?_⟩;have:decide (ux=V.non)=k:=by
   rw[<-Ah h];unfold isNone;split;rename_i M;rw[L.non M];simp;rename_i M;refine A4 λz=>?_;rw[z] at L;unfold Rv at L;cases q':x.d with
   | non=>exact M q'|_=>rw[q'] at L;first|(obtain⟨a,xs,z',_⟩:=L;cases z')|exact L.elim|injection L
  rw[this];exact q;cases h
 | _=>cases h
end
end Hp
namespace Hp
open PySem PySem.Spec PyProof.Rows L2
section
variable {X:Cx} {RT Y J:Addr->Prop} {Z:Sg} {ZV:L2.St} {H:Hp} {s:Ad} {G:List (Addr×Obj)} {Q:VK} {ux uy:V} {vx vy:Value} {x y:Vl}
theorem eW(n:Nat)(k:Int):Hp.ixN n k=L2.ixN n k:=rfl
theorem Rv.ofSub{d:D}{u:V}(h:Rep X.K H (exV RT Y J Z ZV x.pa x.al) d u):Ro X.K RT Y J Z ZV H H (x.sub d) u:=by refine Ro.plain (aG.refl H) ?_ (Rv.sub (ds:=[]) (xs:=[]) (j:=0) h);unfold Vl.sub Vl.cl;split <;> rfl
theorem oH(t:Tk X.K H)(W:Rv X.K RT Y J Z ZV H x ux)(hy:Rv X.K RT Y J Z ZV H y uy){w:D->Prop}(h:RE w (bW x y) (Wn X RT Y J Z ZV H Q)):rIx X.K ux uy H (λv H'=>Tk X.K H'->Q v H'):=by
 unfold bW at h;split at h;rename_i ds k L M;obtain⟨a,xs,e,q,_,r⟩:=W.lst L;cases I:Hp.ixN ds.length k with
 | none=>rw[I] at h;exact h.elim|some j=>
  rw[I] at h;cases hd:ds[j]? with
  | none=>simp only[hd] at h;exact h.elim|some d=>simp only[hd] at h;obtain⟨v,U,rv⟩:=r.get hd;refine .inl ⟨a,xs,k,v,e,hy.int M,q,?_,λt'=>h v H t' (Rv.ofSub rv)⟩;unfold atI;rw[<-r.length,<-eW,I];exact U
 rename_i ds k L M;obtain⟨a,xs,e,q,r⟩:=W.tup L;cases I:Hp.ixN ds.length k with
 | none=>rw[I] at h;exact h.elim|some j=>
  rw[I] at h;cases hd:ds[j]? with
  | none=>simp only[hd] at h;exact h.elim|some d=>simp only[hd] at h;obtain⟨v,U,rv⟩:=r.get hd;refine .inr (.inl ⟨a,xs,k,v,e,hy.int M,q,?_,λt'=>h v H t' (Rv.ofSub rv)⟩);unfold atI;rw[<-r.length,<-eW,I];exact U
 rename_i z k L M;obtain⟨c,h⟩:=h.iff;have c':=of_decide_eq_true c;cases I:Hp.ixN z.length k with
 | none=>rw[I] at h;exact h.elim|some j=>
  rw[I] at h;cases hd:z.cps.toList[j]? with
  | none=>simp only[hd] at h;exact h.elim|some c=>
   simp only[hd] at h;refine .inr (.inr ⟨z,k,c,W.str L,hy.int M,dS c',?_,λt'=>Wn.val h t' λ_=>rfl⟩);unfold atI;have hl:z.cps.toList.length=z.length:=by simp[Gc]
   rw[hl,<-eW,I];exact hd
 exact h.elim
theorem pW(n d:Nat)(o:Option Int):Hp.sIx n d o=HT.sIx n d o:=by cases o <;> rfl
theorem sD{K:Fg}{ex:Addr->Prop}{ds:List D}{xs:List V}(r:Reps K H ex ds xs)(lo hi:Option Int):Reps K H ex (cut ds lo hi) (rR xs lo hi):=by unfold cut rR;rw[pW,pW,r.length];exact(r.drop _).take _
theorem gX{prog:A5}{w:AM}{A:AY}{E:Value->Ad->Prop}{t sl:Addr}{items:Array Value}{vl vu:Value}{lo hi:Option Int}{Q:Value->Ad->Prop}(q:IsTup s.heap t items)(hs:s.heap.IsSliceOf sl vl vu .none)(pl:DV vl lo)(pu:DV vu hi)
 (W:HT.sIx items.size 0 lo=0/\HT.sIx items.size items.size hi=items.size) (h:Q (.ref t) s):Ao (Au prog w) A (E4 (.ref t) (.ref sl)) Q E s:=by
 obtain⟨os,U,M,q0⟩:=id hs;have L:s.TypeIs (.ref sl) "slice" := ⟨os,U,M⟩
 unfold E4
 try with_reducible refine BN ?_
 first|refine Aa (Ar ?_)|skip
 refine Aa (Fi q.typeIs (by decide) ?_);refine Aa (Bw (name:=CZ "__getitem__") q.typeIs AV
  (Ci AV q.typeIs E6 ?_ (EN _ _)))
 show Ao _ _ (Dw (.ref t) >>= _) _ _ s;refine Aa (Gx q ?_);refine Aa (Fj L ?_);rw[if_pos (by decide)];refine Aa (HT.sliceApplied_gen hs pl pu ?_);have I:(((HT.sIx items.size 0 lo:Nat):Int)==0&&(1:Int)==1&&(HT.sIx items.size items.size hi-HT.sIx items.size 0 lo)==items.size)=true:=by rw[W.1,W.2];simp
 show Ao _ _ (if (((HT.sIx items.size 0 lo:Nat):Int)==0&&(1:Int)==1&&(HT.sIx items.size items.size hi-HT.sIx items.size 0 lo)==items.size)=true then _ else _) _ _ s;rw[if_pos I];unfold Gh;refine Aa (Aa (Fj q.typeIs (Ar ?_)));rw[if_pos (beq_self_eq_true _)];exact Aa (EU (Ar ⟨_,rfl,Ar h⟩))
noncomputable def aAQ(K:Fg):V->Option Int->Option Int->Hp->VK->Prop:=λx lo hi H Q=>∃a xs,x=.ref a/\SqT K H a xs/\(HT.sIx xs.length 0 lo=0/\HT.sIx xs.length xs.length hi=xs.length)/\Q (.ref a) H
theorem aDh:SlR X (aAQ X.K):=by
 intro G s Z H x v vl vu lo hi sl Q I rx hs pl pu h;obtain⟨a,xs,rfl,hx,W,q⟩:=h;cases rx;obtain⟨M,r,U,hz⟩:=I.tuple hx;have L:M.toArray.size=xs.length:=by rw[Ak];exact r.length.symm
 refine⟨"tuple",_,AV.lookup,U.typeIs,?_⟩;exact gX U hs pl pu (by rw[L];exact W) ⟨.ref a,H,I,rfl,q⟩
theorem aFB:SlR X (λx lo hi H Q=>aFr X.K x lo hi H Q\/aFn X.K x lo hi H Q\/aAQ X.K x lo hi H Q):=aCV.or (aFo.or aDh)
theorem zS{α:Type}{xs:List α}{lo hi:Option Int}(q:Hp.sIx xs.length 0 lo=0)(I:Hp.sIx xs.length xs.length hi=xs.length):cut xs lo hi=xs:=by unfold cut;rw[q,I,List.drop_zero,GR,DL]
theorem zT{lo hi:Option Int}(S:Sx X.K RT Y J Z ZV H)(t:Tk X.K H)(U:Rv X.K RT Y J Z ZV H x ux){w:D->Prop}(h:RE w (rW x lo hi) (Wn X RT Y J Z ZV H Q)) :
 aFr X.K ux lo hi H (λv H'=>Tk X.K H'->Q v H')\/aFn X.K ux lo hi H (λv H'=>Tk X.K H'->Q v H')\/aAQ X.K ux lo hi H (λv H'=>Tk X.K H'->Q v H'):=by unfold rW at h;split at h;rename_i ds L;obtain⟨a,xs,e,q,_,r⟩:=U.lst L;refine .inl ⟨a,xs,e,q,λp M t'=>h _ _ t' (Ro.fresh M t' rfl rfl S ?_)⟩;exact sD (dZ r) lo hi;rename_i ds L;obtain⟨a,xs,e,q,r⟩:=U.tup L;have W:=dZ r;by_cases I:HT.sIx xs.length 0 lo=0/\HT.sIx xs.length xs.length hi=xs.length;refine .inr (.inr ⟨a,xs,e,q,I,λt'=>h _ _ t' (Ro.plain (aG.refl H) rfl ?_)⟩);have e':cut ds lo hi=ds:=zS (by rw[pW,r.length];exact I.1) (by rw[pW,r.length];exact I.2);unfold Rv;show Rep X.K H _ (.tup (cut ds lo hi)) (.ref a);rw[e'];exact⟨a,xs,rfl,q,W⟩;exact .inr (.inl ⟨a,xs,e,q,I,λp M t'=>h _ _ t' (Ro.tup M rfl rfl (sD W lo hi))⟩);exact h.elim
noncomputable def rBi(X:Cx)(b:Bi):List V->Hp->VK->Prop:=match b with|.len=>λxs H Q=>(∃p ys,xs=[.ref p]/\(SqL X.K H p ys\/SqT X.K H p ys)/\Q (.int ys.length) H)\/∃z,xs=[.str z]/\z.length<=sizeLine/\Q (.int z.length) H|.list=>λxs H Q=>∃p ys,xs=[.ref p]/\(SqL X.K H p ys\/SqT X.K H p ys)/\∀l,H l=none->Q (.ref l) (upd H l (.lst ys))|.tuple=>λxs H Q=>∃p ys,xs=[.ref p]/\((SqL X.K H p ys/\∀l,H l=none->Q (.ref l) (upd H l (.tup ys)))\/(SqT X.K H p ys/\Q (.ref p) H))|.min=>λxs H Q=>∃i j,xs=[.int i,.int j]/\Q (.int (if j<i then j else i)) H|.int=>λxs H Q=>(∃i,xs=[.int i]/\Q (.int i) H)\/∃k,xs=[.bl k]/\Q (.int (if k then 1 else 0)) H
noncomputable def aEg:Bi->Value
 | .len=>.builtin "len" | .list=>.type "list" | .tuple=>.type "tuple" | .min=>.builtin "min" | .int=>.type "int"
theorem wV(q:X.calm=true)(I:X.A.guards=some [])(L:X.A.units+200<GD)(b:Bi)(hb:aAM b=true):eJ X (aEg b) (rBi X b):=by
 cases b with
 | len=>exact pO.or pP|list=>exact pQ|tuple=>exact nL|min=>exact zG q|int=>exact zH
theorem sF{b:Bi}(hb:aAM b=true)(S:Sx X.K RT Y J Z ZV H){vs:List Vl}{us:List V}(hv:Rvs X.K RT Y J Z ZV H vs us){w:D->Prop}(h:RE w (biD b vs) (Wn X RT Y J Z ZV H Q)) :
 rBi X b us H (λv H'=>Tk X.K H'->Q v H'):=by
 unfold biD at h;split at h;rename_i x;obtain⟨u,r,e,L,U⟩:=hv;rw[show r=[] from U] at e;subst e;cases b with
 | len=>dsimp only[aAJ] at h;split at h;rename_i ds I;obtain⟨a,xs,e,q,_,r⟩:=L.lst I;exact .inl ⟨a,xs,by rw[e],.inl q,λt'=>by rw[<-r.length];exact Wn.val h t' λ_=>rfl⟩;rename_i ds I;obtain⟨a,xs,e,q,r⟩:=L.tup I;exact .inl ⟨a,xs,by rw[e],.inr q,λt'=>by rw[<-r.length];exact Wn.val h t' λ_=>rfl⟩;rename_i z I;obtain⟨c,h⟩:=h.iff;exact .inr ⟨z,by rw[L.str I],dS (of_decide_eq_true c),λt'=>Wn.val h t' λ_=>rfl⟩;exact h.elim|list=>dsimp only[aAJ] at h;split at h;rename_i ds I;obtain⟨a,xs,e,q,_,r⟩:=L.lst I;exact⟨a,xs,by rw[e],.inl q,λp M t'=>h _ _ t' (Ro.fresh M t' rfl rfl S (dZ r))⟩;rename_i ds I;obtain⟨a,xs,e,q,r⟩:=L.tup I;exact⟨a,xs,by rw[e],.inr q,λp M t'=>h _ _ t' (Ro.fresh M t' rfl rfl S (dZ r))⟩;exact h.elim|tuple=>dsimp only[aAJ] at h;split at h;rename_i ds I;obtain⟨a,xs,e,q,_,r⟩:=L.lst I;exact⟨a,xs,by rw[e],.inl ⟨q,λp M t'=>h _ _ t' (Ro.tup M rfl rfl (dZ r))⟩⟩;rename_i ds I;obtain⟨a,xs,e,q,r⟩:=L.tup I;exact⟨a,xs,by rw[e],.inr ⟨q,λt'=>h _ _ t' (Ro.plain (aG.refl H) rfl ⟨a,xs,rfl,q,r⟩)⟩⟩;exact h.elim|int=>dsimp only[aAJ] at h;split at h;rename_i i I;exact .inl ⟨i,by rw[L.int I],λt'=>Wn.val h t' λ_=>rfl⟩;rename_i k I;exact .inr ⟨k,by rw[L.bl I],λt'=>Wn.val h t' λ_=>rfl⟩;exact h.elim|min=>exact h.elim
 rename_i x y;obtain⟨u,r,e,L,u',r',W,hy,U⟩:=hv;rw[show r'=[] from U] at W;subst W e;cases b with
 | min=>dsimp only[aHQ] at h;split at h;rename_i i j I d2;exact⟨i,j,by rw[L.int I,hy.int d2],λt'=>Wn.val h t' λ_=>rfl⟩;exact h.elim|_=>exact h.elim
 exact h.elim
noncomputable def sG:Cl->Option Value
 | .tInt=>some (.type "int")|.tBool=>some (.type "bool")|.tStr=>some (.type "str")|.tList=>some (.type "list")|.tTuple=>some (.type "tuple")
 | _=>none
noncomputable def tyD:D->Option String
 | .non=>some "NoneType" | .bl _=>some "bool" | .int _=>some "int" | .str _=>some "str" | .tup _=>some "tuple" | .lst _=>some "list" | .dic _=>some "dict" | .err _ _=>none
theorem eX(K:Fg)(P:Pg){c:Cl}{L:Value}{d:D}{k:Bool}{T:String}(q:sG c=some L)(I:tyD d=some T)(h:isI [c] P d=some k):C6 K (.type T) L=some k:=by
 cases c with
 | own c=>cases q|tValueError=>cases q|tInt=>cases q;cases d <;> cases I <;> simp[isI] at h <;> subst h <;> kernel_rfl|tBool=>cases q;cases d <;> cases I <;> simp[isI] at h <;> subst h <;> kernel_rfl|tStr=>cases q;cases d <;> cases I <;> simp[isI] at h <;> subst h <;> kernel_rfl|tList=>cases q;cases d <;> cases I <;> simp[isI] at h <;> subst h <;> kernel_rfl|tTuple=>cases q;cases d <;> cases I <;> simp[isI] at h <;> subst h <;> kernel_rfl
theorem zU(P:Pg){c:Cl}{cv:Value}{k:Bool}(I:L2.Inv X G ZV H s)(M:bC ux vx)(U:Rv X.K RT Y J Z ZV H x ux)(W:sG c=some cv)(h:isI [c] P x.d=some k)(q:Q (.bl k) H) :
 Ao (Au X.prog X.w) X.A (Gf (.builtin "isinstance") [vx,cv]) (EP X G ZV Q) X.xe s:=by
 have L:∀tk,EP X G ZV Q (.bool k) { s with toks:=tk }:=λtk=>⟨.bl k,H,I.tok tk,rfl,q⟩
 cases d:x.d with
 | non=>have e:=eX X.K P W (by rw[d];rfl) h;rw[U.non d] at M;cases M;exact BJ PySem.W.kitx_none I.kIn CN e (λz=>nomatch z) L|bl b=>have e:=eX X.K P W (by rw[d];rfl) h;rw[U.bl d] at M;cases M;exact BJ PySem.W.kitx_bool I.kIn CN e (λz=>nomatch z) L|int i=>have e:=eX X.K P W (by rw[d];rfl) h;rw[U.int d] at M;obtain⟨t,rfl⟩:=M;exact BJ PySem.W.kitx_int I.kIn CN e (λz=>nomatch z) L|str z=>have e:=eX X.K P W (by rw[d];rfl) h;rw[U.str d] at M;obtain⟨t,rfl⟩:=M;exact BJ PySem.W.kitx_str I.kIn CN e (λz=>nomatch z) L|tup ds=>have e:=eX X.K P W (by rw[d];rfl) h;obtain⟨a,xs,e1,p,_⟩:=U.tup d;subst e1;cases M;obtain⟨q0,_,t,_⟩:=I.tuple p;obtain⟨o,h1,h2,_⟩:=t;exact BJ PySem.W.kitx_tuple I.kIn ⟨o,h1,h2⟩ e (λz=>nomatch z) L|lst ds=>have e:=eX X.K P W (by rw[d];rfl) h;obtain⟨a,xs,e1,p,_⟩:=U.lst d;subst e1;cases M;obtain⟨q0,_,t,_⟩:=I.list p;obtain⟨o,n,h1,h2,_⟩:=t;exact BJ PySem.W.kitx_list I.kIn ⟨o,h1,h2⟩ e (λz=>nomatch z) L|dic kvs=>
  have e:=eX X.K P W (by rw[d];rfl) h;unfold Rv at U;rw[d] at U;obtain⟨a,ks,e1,p,_⟩:=U;subst e1;cases M;obtain⟨_,_,vs,_,o,es,ep,h1,h2,_⟩:=(show cG X.prog X.w H s.heap a (.dK ks) from I.hok a _ p)
  exact BJ PySem.W.kitx_dict I.kIn ⟨o,h1,h2.1⟩ e (λz=>nomatch z) L
 | err _ _=>rw[d] at h;cases h
end
end Hp
namespace L2
open PySem PySem.Spec PyProof.Rows
abbrev bmV:List Value:=[.type "ValueError",.type "Exception",.type "BaseException",.type "object"]
section
variable {X:Cx}
theorem cG.old{P:A5}{w:AM}{H:Hp}{h:Heap}{a:Addr}{o:HO}(x:cG P w H h a o):Old h a:=by
 cases o with
 | lst xs=>obtain⟨_,_,_,_,e⟩:=x;exact⟨_,e⟩|tup xs=>obtain⟨_,_,_,q,e,_⟩:=x;exact⟨_,e⟩|dK kvs=>obtain⟨_,_,_,_,o,_,_,e,_⟩:=x;exact⟨_,e⟩|dT kvs=>obtain⟨_,_,_,_,o,_,_,e,_⟩:=x;exact⟨_,e⟩|set S n=>obtain⟨o,_,_,_,e,_⟩:=x;exact⟨_,e⟩|ins C dx fs=>obtain⟨_,_,_,e,_⟩:=x;exact⟨_,e⟩|own y=>obtain⟨_,e⟩:=x;exact⟨_,e⟩|xd fs=>obtain⟨_,⟨_,_,_,e,_⟩,_⟩:=x;exact⟨_,e⟩|rng lo hi=>obtain⟨_,_,_,e⟩:=x;exact⟨_,e⟩|frz q u=>obtain⟨e,_⟩:=x;exact⟨_,e⟩|tbl ps=>exact⟨_,(show h.get? a=some _ from x)⟩|met f y=>exact⟨_,(show h.get? a=some _ from x)⟩|ext φ=>obtain⟨_,e,_⟩:=x;exact e
theorem hZ{C:Addr}{newId:String}{h:Heap}(M:X.K.In h)(q:Be X.K C bmV newId=true) :
 ∃bm N nm q bs hdct sn sub ab col dd k0 k1 k2 k3 k5 mN,h.get? C=some (C7 nm q C N bs bm hdct sn sub ab col dd k0 k1 k2 k3 k5 newId)/\h.Ns N mN/\mN "__init__" = none/\OwnTail h bmV bm:=by
 unfold Be at q;split at q;rename_i dd W sl ho;split at q;rename_i C' bm k0 k1 k2 k3 n k5 hm hs;simp only[bA,beq_iff_eq,Dc] at q;obtain⟨⟨⟨⟨⟨rfl,rfl⟩,I⟩,ht⟩,hok⟩,L⟩:=q;obtain⟨nm,bs,q1,ns,qn,hd,sn,sub,ab,col,q0⟩:=W;dsimp only at hm I hok L;subst hm I;have U:sl=#[k0,k1,k2,k3,some (.builtin n),k5]:=by obtain⟨l⟩:=sl;simp only at hs;rw[hs]
 subst U;exact⟨bm,ns,nm,qn,bs,hd,sn,sub,ab,col,dd,k0,k1,k2,k3,k5,_,M _ _ ho,.of_isNs (PySem.W.isNs_of_in M hok),PySem.W.nsMap_none_of_in M hok L,PySem.W.tail_of_in M ht⟩;cases q;cases q
theorem aAR{M h h':Heap}{H:Hp}{e:Addr}{cls:Value}{vs:List Value}{L:List Addr}(U:kC cls=cls)(m:Heap.MadeExcOf h h' e cls vs)(W:H e=none){ex:List Addr}(l:∀b,Old M b->b∉ex->Old h b)(l':∀b∈L,Old h b):Fly M ex H L e cls h':=by
 have I:¬ Old h e:=λ⟨o,q⟩=>by rw[m.new] at q;cases q
 refine⟨none,?_,λb z=>?_⟩;obtain⟨t,ht,_⟩:=m.there;exact⟨_,_,ht,U.symm,rfl,rfl,λ_=>rfl,rfl⟩;rcases z with rfl|z;exact⟨λz=>I (l _ z.1 z.2),W,λz=>I (l' _ z)⟩;cases z
theorem aAS{x:Str}{C:Addr}{newId:String}{np L q5:Cf}{a:Ag}{args:List Ag}{t:TA}{E:Value->St->Hp->Prop}{Bn q4:String}{q0:List Value}(Fn:GS Bn newId q4 q0)(q1:bmV.contains (.type Bn)=true)
 (hg:Gl X x) (hm:X.mg x=some (.ref C)) (q:Be X.K C bmV newId=true) (ha:PA X (a::args) t) (hc:X.calm=true) (hR:Rs X E)
 (hd:(x==("__debug__" : Str))=false) (he:AI (a::args) X.env=(false,C4 a X.env)::AI args X.env) (q3:(CW L (AI (a::args) X.env)).any (·.1)=false) :
 PS X (.Raise (some (.Call (.Name x np) (a::args) [] L)) none q5) (λD Z H=>t Z H λvs H1=>vs.length<=sizeLine/\E (.ref C) Z H1):=by
 intro G s Z H D I h;obtain⟨bm,N,nm,qn,bs,hdct,sn,sub,ab,col,dd,k0,k1,k2,k3,k5,mN,hC,hN,q2,TL⟩:=hZ I.mod.kin q;have U:=ha L G s Z H _ I h;refine wpAny_Raise_call_subU (C:=C) (nm:=nm) (q:=qn) (N:=N) (bs:=bs) (bm:=bm) (hdct:=hdct) (sn:=sn) (sub:=sub) (ab:=ab) (col:=col) (dd:=dd) (k0:=k0) (k1:=k1) (k2:=k2) (k3:=k3) (k5:=k5) (newId:=newId) (mN:=mN)
  Fn q1 BO (TL.hasType rfl) (I.ok.hd hc) q3 q2 (eR I hg hm ⟨rfl,?_⟩ hd)
 rw[he] at U ⊢;refine C5 (thn U λus s2 ⟨vs,H1,M,rv,hl,hE⟩=>⟨rfl,by rw[<-rv.length];exact hl,M.bk _ _ hC,hN.keeps M.bk,TL.keeps M.bk,λh' e m=>?_⟩);have hn:H1 e=none:=by
  cases z:H1 e with
  | none=>rfl|some o=>obtain⟨ob,W⟩:=(M.hok e o z).old;rw[m.new] at W;cases W
 exact hR G Z H1 { s2 with heap:=h' } e (.ref C) (M.un (t':=s2.toks) (Un.kept m.keeps) (M.hok.kept m.keeps)) (aAR rfl m hn (pS M) (eV M)) hE
end
section
variable {X:Cx} {G:List (Addr×Obj)} {Z:St} {H:Hp} {s:Ad} {h':Heap}
theorem Rec.data{h:Heap}{e:Addr}{cls:Value}{T:Option Addr}(r:Rec h e cls T):∀b,(b=e\/T=some b)->∃o vs,h.get? b=some o/\o.data=.fields vs:=by obtain⟨M,vs,I,_,_,hd,_,q⟩:=r;intro b hb;rcases hb with rfl|hb;exact⟨M,vs,I,hd⟩;subst hb;obtain⟨_,_,L,ts,g1,g2,_⟩:=q;exact⟨L,ts,g1,g2⟩
theorem Inv.note{fr:List Addr}{e:Addr}{cls:Value}{T:Option Addr}(I:Inv X G Z H s)(x:Lx fr e T s.heap h')(q0:∀b∈fr,b∈frs X.stack)(q3:∀b∈X.fs,b∈fr\/fr=[])(r:Rec s.heap e cls T)
 (n:∀b,(b=e\/T=some b)->¬ (Old X.s₀.heap b/\b∉X.ex)/\H b=none/\b∉pinA X G):Inv X G Z H { s with heap:=h' }:=by
 have any:∀b o,s.heap.get? b=some o->b≠e->T≠some b->∃sl,h'.get? b=some { o with slots:=sl }:=λb o q h1 h2=>by by_cases hb:b∈fr;exact x.slot b o q hb;exact⟨o.slots,x.keep b o q hb h1 h2⟩
 have sub:∀b∈fr,b=X.env.locals\/b∈X.fs:=λb hb=>A8.mp (I.stkSub b (q0 b hb));have q1:∀b o,s.heap.get? b=some o->(∀vs,o.data≠.fields vs)->b≠e/\T≠some b:=λb o q d=>by constructor;intro z;obtain⟨o',vs,g,d'⟩:=r.data b (.inl z);rw[q] at g;cases g;exact d vs d';intro z;obtain⟨o',vs,g,d'⟩:=r.data b (.inr z);rw[q] at g;cases g;exact d vs d'
 have U:∀c v,s.heap.IsCell c v->h'.IsCell c v:=λc v ⟨o,ho,hd⟩=>by
  obtain⟨h1,h2⟩:=q1 c o ho λvs z=>by rw[hd] at z;cases z
  obtain⟨sl,q⟩:=any c o ho h1 h2;exact⟨_,q,hd⟩
 have L:∀b o,X.s₀.heap.get? b=some o->b∉X.ex->b≠e/\T≠some b:=λb o q M=>⟨λz=>(n b (.inl z)).1 ⟨⟨o,q⟩,M⟩,λz=>(n b (.inr z)).1 ⟨⟨o,q⟩,M⟩⟩
 refine⟨I.ok,I.os,I.bare,⟨λb o e n hb M=>?_,λb o e n hb M=>?_,I.base.free,λb o e M=>?_,I.base.tups,I.base.frzs,I.base.tbls⟩,?_,λy c e=>?_,I.free,I.freeC,λp hp=>?_,oF I.hok x (λb hb=>I.stkFree b (q0 b hb)) (n e (.inl rfl)).2.1 (λt z=>(n t (.inr z)).2.1),I.len⟩;refine x.keep b o (I.base.keep b o e n hb M) (λz=>?_) (L b o e M).1 (L b o e M).2;rcases sub b z with z|z;exact absurd (Al e) (BI.mpr (by rw[z];exact I.ok.above));exact hb z;obtain⟨sl,W⟩:=I.base.slot b o e n hb M;obtain⟨q2,e2⟩:=any b _ W (L b o e M).1 (L b o e M).2;exact⟨q2,e2⟩;obtain⟨o',W⟩:=I.base.there b o e M;obtain⟨q2,e2⟩:=any b _ W (L b o e M).1 (L b o e M).2;exact⟨_,e2⟩;obtain⟨m,hn,hl⟩:=I.loc;refine⟨m,?_,λi y v W e2 e3=>?_⟩;obtain⟨o,es,ep,ho,hd,rr⟩:=hn;obtain⟨h1,h2⟩:=q1 _ o ho λvs z=>by rw[hd] at z;cases z
 obtain⟨sl,q⟩:=any _ o ho h1 h2;exact⟨_,es,ep,q,hd,rr⟩;obtain⟨u,rr,l⟩:=hl i y v W e2 e3;refine⟨u,rr,?_⟩;rcases l with l|⟨k,c,e,z⟩
 exact .inl l;exact .inr ⟨k,c,e,U c _ z⟩;obtain⟨v,z⟩:=I.cell y c e;exact⟨v,U c v z⟩;obtain⟨W,n1,ne,nf,d⟩:=I.pin p hp;refine⟨x.keep p.1 p.2 W (λz=>(sub _ z).elim ne nf) (λz=>(n _ (.inl z)).2.2 (Aw.mpr ⟨p,hp,rfl⟩)) (λz=>(n _ (.inr z)).2.2 (Aw.mpr ⟨p,hp,rfl⟩)),n1,ne,nf,d⟩
theorem sH{M:EC}{A:AY}{E:Value->Ad->Prop}{e T:Addr}{cls:Value}{Q:Unit->Ad->Prop}(r:Rec s.heap e cls (some T))
 (h:∀h',Lx [] e (some T) s.heap h'->Rec h' e cls (some T)->Q () { s with heap:=h' }):Ao M A (De (.ref e) none) Q E s:=by obtain⟨oe,vs,he,hc,W,hd,U,h1,L,oT,ts,hT,I,fl,h3⟩:=r;refine Er he hd h1 hT I (A7.mp h3).1 (h _ ⟨λb o q _ _ hb=>?_,λb o _ z=>by cases z⟩ ?_);exact(Am _ _ λz=>hb (by rw[z])).trans q;refine⟨oe,vs,(Am _ _ L).trans he,hc,W,hd,U,h1,L,_,_,AK _ hT (AQ (AB I _)),AB I _,none,?_⟩;have:=(A7.mp h3).1;simp[this]
theorem aAT{M:EC}{A:AY}{E:Value->Ad->Prop}{e T:Addr}{cls:Value}{f:Option Addr}{Q:Unit->Ad->Prop}(r:Rec s.heap e cls (some T))
 (h:∀h',Lx [] e (some T) s.heap h'->Rec h' e cls (some T)->Q () { s with heap:=h' }):Ao M A (De (.ref e) f) Q E s:=by obtain⟨oe,vs,he,hc,W,hd,U,h1,L,oT,ts,hT,I,fl,h3⟩:=r;unfold De;refine Aa (AD he hd h1 ?_);rw[if_pos (show(AA T != AG)=true from by simp)];refine BB hT I (A7.mp h3).1 (h _ ⟨λb o q _ _ hb=>?_,λb o _ z=>by cases z⟩ ?_);exact(Am _ _ λz=>hb (by rw[z])).trans q;refine⟨oe,vs,(Am _ _ L).trans he,hc,W,hd,U,h1,L,_,_,AK _ hT (AQ (AB I _)),AB I _,f,?_⟩;have:=(A7.mp h3).1;simp[this]
theorem Inv.track{a:Addr}{o:HO}(I:Inv X G Z H s)(n:¬ (Old X.s₀.heap a/\a∉X.ex))(hn:H a=none)(hp:a∉pinA X G)(hl:a≠X.env.locals)(hc:∀x c,X.env.cells.lookup x=some c->c≠a)(new:cG X.prog X.w (upd H a o) s.heap a o):Inv X G Z (upd H a o) s:=by
 have ne:∀b o,X.s₀.heap.get? b=some o->b∉X.ex->b≠a:=λb o q M z=>n (by rw[<-z];exact⟨⟨o,q⟩,M⟩);have nt:∀b u,H b=some u->b≠a:=λb u q z=>by rw[z,hn] at q;cases q
 refine⟨I.ok,I.os,I.bare,⟨I.base.keep,I.base.slot,λb o q h0 M=>by rw[aJ (ne b o q M)];exact I.base.free b o q h0 M,I.base.there,λb xs q=>?_,λb o u q=>?_,λb ps q=>?_⟩,I.loc,I.cell,by rw[aJ (Bp hl)];exact I.free,λx c e=>by rw[aJ (hc x c e)];exact I.freeC x c e,λp L=>?_,λb u q=>?_,I.len⟩;have z:=I.base.tups b xs q;rw[aJ (nt b _ z)];exact z;have z:=I.base.frzs b o u q;rw[aJ (nt b _ z)];exact z;obtain⟨more,z⟩:=I.base.tbls b ps q;exact⟨more,by rw[aJ (nt b _ z)];exact z⟩;obtain⟨W,n1,U,nf,d⟩:=I.pin p L;exact⟨W,by rw[aJ λz=>hp (Aw.mpr ⟨p,L,z⟩)];exact n1,U,nf,d⟩;by_cases hb:b=a;subst hb;rw[aO] at q;cases q;exact new;rw[aJ hb] at q;exact(I.hok b u q).stay (λ_ _ _ g=>g) (λc g=>by rw[aJ (nt c _ g)];exact g) λc xs g=>by rw[aJ (nt c _ g)];exact g
end
section
variable {X:Cx} {G:List (Addr×Obj)} {Z:St} {H:Hp} {s:Ad}
theorem zV{M:EC}{A:AY}{E:Value->Ad->Prop}{i:Nat}{x:Str}{v:V}{Q:Unit->Ad->Prop}(I:Inv X G Z H s)(hN:X.N.Nodup)(hi:X.N[i]? = some x)(hk:X.env.scope.names.lookup x=some .local)(hv:Z[i]? = some (some v))
 (h:∀s',Inv X G (Z.set i none) H s'->Q () s'):Ao M A (unbindName X.env x) Q E s:=by
 obtain⟨m,hn,hl⟩:=id I.loc;have W:(X.env.scope.kind==.class||(X.env.scope.kind==.module&&X.env.locals != X.env.globals))=false:=by rw[I.ok.kind];rfl
 have q0:i<Z.length:=by rw[I.len];exact(Az.mp hi).1
 obtain⟨u,r,lk⟩:=hl i x v hi hv (.inl hk);have hm:m x=some u:=by
  rcases lk with⟨_,e⟩|⟨k,_⟩
  exact e;have k':X.env.scope.names.lookup x=some .cell\/X.env.scope.names.lookup x=some .free:=k;rw[hk] at k';rcases k' with z|z <;> cases z
 refine wpAny_unbindName_local hk hn hm W λh' u' q1 hs=>?_;obtain⟨oL,_,_,q2,_⟩:=id hn;have L:HOk X.prog X.w H h':=λb ob e=>by refine(I.hok b ob e).stay (λc w' hc q=>(hs.2 c ?_).trans q) (λ_ q=>q) λ_ _ q=>q;rintro rfl;have hf:=I.free;rcases hc with rfl|hc;rw[hf] at e;cases e;rw[hf] at hc;cases hc
 refine h { s with heap:=h' } ⟨I.ok,I.os,I.bare,⟨λb o e n hb hx=>?_,λb o e n hb hx=>?_,I.base.free,λb o e hx=>?_,I.base.tups,I.base.frzs,I.base.tbls⟩,⟨_,q1,λj y v' U e2 e3=>?_⟩,λy c e=>?_,I.free,I.freeC,λp hp=>?_,L,by simpa using I.len⟩;exact(hs.2 b (A9 (Av (Al e) I.ok.above))).trans (I.base.keep b o e n hb hx);obtain⟨sl,U⟩:=I.base.slot b o e n hb hx;exact⟨sl,(hs.2 b (A9 (Av (Al e) I.ok.above))).trans U⟩;obtain⟨o',U⟩:=I.base.there b o e hx;exact⟨o',(hs.2 b (A9 (Av (Al e) I.ok.above))).trans U⟩;by_cases hj:j=i;subst hj;rw[As q0] at e2;cases e2;rw[Ac (Bp hj)] at e2;obtain⟨w',r',q⟩:=hl j y v' U e2 e3;refine⟨w',r',?_⟩;rcases q with⟨k,e⟩|⟨k,c,e,z⟩
 refine .inl ⟨k,?_⟩;have:y≠x:=λe=>hj (lI hN U (e▸hi));simp[this,e];exact .inr ⟨k,c,e,z.sameBut hs (I.cne y c e)⟩;obtain⟨w',z⟩:=I.cell y c e;exact⟨w',z.sameBut hs (I.cne y c e)⟩;obtain⟨e,n,ne,nf,d⟩:=I.pin p hp;exact⟨(hs.2 p.1 ne).trans e,n,ne,nf,d⟩
end
noncomputable def kF(K:Ai)(C1 C:Addr):Bool:=match K.lookup C1 with|some ⟨_,_,.cls cd,_⟩=>cd.mro.contains (.ref C)|_=>false
section
variable {M:EC} {A:AY} {E:Value->Ad->Prop}
theorem sJ{h:Heap}{g:Array Fd}{d:HC}{t:Nat}{os:Eb}{e C C1:Addr}{oe:Obj}{Q:Bool->Ad->Prop}
 {nm q:Str} {N:Addr} {bs bm:List Value} {hdct:Bool} {sn:List Str} {sub:List Value} {ab:Bool} {col:Option Bool} {dd:Option Addr} {k0 k1 k2 k3 k5:Option Value} {newId:String}
 {w7 q':Str} {N':Addr} {q4 L:List Value} {W:Bool} {w8:List Str} {q2:List Value} {q3:Bool} {q0:Option Bool} {q5:Option Addr} {q9 w3 w4 w5 w6:Option Value} {I:String}
 (q6:h.get? C1=some (C7 nm q C1 N bs bm hdct sn sub ab col dd k0 k1 k2 k3 k5 newId)) (hC:h.get? C=some (C7 w7 q' C N' q4 L W w8 q2 q3 q0 q5 q9 w3 w4 w5 w6 I))
 (he:h.get? e=some oe) (q1:oe.cls=.ref C1) (U:L.contains (.type "BaseException")=true) (q8:(AA C1::bm).contains (.ref C)=true)
 (hq:Q true ⟨h,g,d,t,os⟩):Ao M A (EV (.ref e) (.ref C)) Q E ⟨h,g,d,t,os⟩:=by
 have q7:(AA C::L).contains (.type "BaseException")=true:=by rw[CO,U,Bz]
 have f:=Hk;unfold EV
 repeat (first|(with_reducible refine AZ he ?_;rw[q1])|with_reducible refine AZ hC ?_|(with_reducible refine B0 hC ?_;rw[q7])|(with_reducible refine B0 q6 ?_;rw[q8])|wp_step)
 exact hq
end
theorem aDi{P:A5}{w:AM}{H:Hp}{h:Heap}{a C:Addr}{cls:Value}{T:Option Addr}(r:Rec h a cls T)(hk:kC cls=.ref C):cG P w H h a (excO a C):=by
 obtain⟨M,vs,W,U,L,hd,_,_⟩:=r;rw[hk] at U;refine⟨⟨M,W,U,?_,?_⟩,⟨M,W⟩,λ_ _ ⟨o',I⟩ k=>⟨o',k o' I.at_,I.cls,I.no,?_⟩⟩;obtain⟨c,dd,dt,sl⟩:=M;have hd:dt=.fields vs:=hd;subst hd;rfl;rw[L];exact CN;have z:=I.dict;cases q:o'.dict with
 | none=>exact CN|some d=>rw[q] at z;exact z.elim
abbrev Cx.inTry(X:Cx)(G:List (Addr×Obj))(E:Value->Ad->Prop):Cx:={ X with pn:=X.pn++G,xe:=E }
abbrev Cx.inExc(X:Cx)(e:Value):Cx:={ X with A:=X.A.mark (some e),calm:=false,xe:=λ_ _=>False }
section
variable {X:Cx} {G pins':List (Addr×Obj)} {Z:St} {H:Hp} {s:Ad} {E:Value->Ad->Prop}
theorem Inv.inTry(I:Inv X G Z H s):Inv (X.inTry G E) [] Z H s:=
 ⟨⟨I.ok.mod,I.ok.kind,I.ok.glob,I.ok.blt,I.ok.above,I.ok.inj,I.ok.has,I.ok.cab,I.ok.hd,I.ok.frames,I.ok.stk,I.ok.exf,I.ok.bs,I.ok.bsz,I.ok.noex,I.ok.exfs,I.ok.funs,I.ok.frf⟩,
  I.os,I.bare,I.base,I.loc,I.cell,I.free,I.freeC,λp q=>I.pin p (by simpa using q),I.hok,I.len⟩
theorem Inv.outTry(I:Inv (X.inTry G E) pins' Z H s):Inv X G Z H s:=
 ⟨⟨I.ok.mod,I.ok.kind,I.ok.glob,I.ok.blt,I.ok.above,I.ok.inj,I.ok.has,I.ok.cab,I.ok.hd,I.ok.frames,I.ok.stk,I.ok.exf,I.ok.bs,I.ok.bsz,I.ok.noex,I.ok.exfs,I.ok.funs,I.ok.frf⟩,
  I.os,I.bare,I.base,I.loc,I.cell,I.free,I.freeC,λp q=>I.pin p (AC _ q),I.hok,I.len⟩
theorem Inv.inExc{e:Value}(I:Inv X G Z H s):Inv (X.inExc e) G Z H s:=
 ⟨⟨I.ok.mod,I.ok.kind,I.ok.glob,I.ok.blt,I.ok.above,I.ok.inj,I.ok.has,I.ok.cab,(λz=>nomatch z),I.ok.frames,I.ok.stk,I.ok.exf,I.ok.bs,I.ok.bsz,I.ok.noex,I.ok.exfs,I.ok.funs,I.ok.frf⟩,
  I.os,I.bare,I.base,I.loc,I.cell,I.free,I.freeC,I.pin,I.hok,I.len⟩
theorem Inv.outExc{e:Value}(c:X.calm=true->X.A.handled=none)(I:Inv (X.inExc e) G Z H s):Inv X G Z H s:=
 ⟨⟨I.ok.mod,I.ok.kind,I.ok.glob,I.ok.blt,I.ok.above,I.ok.inj,I.ok.has,I.ok.cab,c,I.ok.frames,I.ok.stk,I.ok.exf,I.ok.bs,I.ok.bsz,I.ok.noex,I.ok.exfs,I.ok.funs,I.ok.frf⟩,
  I.os,I.bare,I.base,I.loc,I.cell,I.free,I.freeC,I.pin,I.hok,I.len⟩
theorem SP.outTry{D:Ends}{f:Flow}{L:Ad}(h:SP (X.inTry G E) [] D f L):SP X G D f L:=by
 cases f with
 | next=>obtain⟨Z',H',I,q⟩:=h;exact⟨Z',H',I.outTry,q⟩|brk=>obtain⟨Z',H',I,q⟩:=h;exact⟨Z',H',I.outTry,q⟩|cont=>obtain⟨Z',H',I,q⟩:=h;exact⟨Z',H',I.outTry,q⟩|ret u=>obtain⟨v,Z',H',I,r,q⟩:=h;exact⟨v,Z',H',I.outTry,r,q⟩
end
noncomputable def aKA(K:Ai)(C:Addr)(newOk:Addr->Prop)(iy jn:Nat)(D:Ends):Value->St->Hp->Prop:=λcls Z H=>∃C1,kC cls=.ref C1/\newOk C1/\kF K C1 C=true/\∀a,H a=none->D.nx ((((Z.set jn (some (.ref a))).set iy (some (.ref a))).set jn (some .non)).set jn none) (upd H a (excO a C1))
section
variable {X:Cx}
theorem vC{K:Ai}{h:Heap}{M C:Addr}{o:Obj}(U:K.In h)(I:kF K M C=true)(q:h.get? M=some o):∃L,o.data=.cls L/\L.mro.contains (.ref C)=true:=by unfold kF at I;split at I;rename_i c d L sl W;have:=U _ _ W;rw[q] at this;cases this;exact⟨L,rfl,I⟩;cases I
theorem aAU{body:List B5}{tb:(Value->St->Hp->Prop)->TS}{x n y:Str}{C:Addr}{newId:String}{iy jn:Nat}{np yp q4 ap hp z4:Cf}
 (hg:Gl X x) (hm:X.mg x=some (.ref C)) (hd:(x==("__debug__" : Str))=false) (qC:Be X.K C bmV newId=true) (q3:X.stack=X.env::X.outer)
 (hN:X.N.Nodup) (z2:X.N[iy]? = some y) (M:X.N[jn]? = some n) (hy:Loc X.env.scope y) (hn:X.env.scope.names.lookup n=some .local) (z0:X.fn y=true\/X.env.scope.names.lookup y=some .local)
 (w9:(n==("__debug__" : Str))=false) (w6:(n==("__classdict__" : Str))=false) (hs:F3 (.Name n q4) (some (.Name y yp)) ap.line X.env=pure false) (v0:iy≠jn)
 (hb:∀(G:List (Addr×Obj)) (E:Value->Ad->Prop) (W:Value->St->Hp->Prop),BE (Au X.prog X.w) X.A X.env E->Rs (X.inTry G E) W->PSs (X.inTry G E) body (tb W)) :
 PS X (.Try body [.ExceptHandler (some (.Name x np)) (some n) [.Assign [.Name y yp] (.Name n q4) ap] hp] [] [] z4)
  (λD Z H=>tb (aKA X.K C (λC1=>∃id,Be X.K C1 bmV id=true) iy jn D) D Z H):=by
 intro G s Z H D I h;refine F9 ?_;refine B6 (hb G (λe q0=>Ao (Au X.prog X.w) X.A (BG e X.env) (λ_ w4=>Ao (Au X.prog X.w) X.A (De e none) (λ_ q2=>Ao (Au X.prog X.w) X.A (handleBy e X.env [.ExceptHandler (some (.Name x np)) (some n) [.Assign [.Name y yp] (.Name n q4) ap] hp]) (SP X G D) X.xe q2) X.xe w4) X.xe q0) _ DA ?_ [] s Z H D I.inTry h) (λf q0 q=>?_) λe q0 q=>q;intro pins' Z' H' s' a cls I1 fl hW;obtain⟨C1,q9,⟨v1,q1⟩,z1,hD⟩:=hW;have I0:Inv X G Z' H' s':=I1.outTry;obtain⟨T,rc,nw⟩:=fl;have nw:∀b,(b=a\/T=some b)->¬ (Old X.s₀.heap b/\b∉X.ex)/\H' b=none/\b∉pinA X G:=λb z=>⟨(nw b z).1,(nw b z).2.1,λy=>(nw b z).2.2 (by
  obtain⟨p,hp,e⟩:=Aw.mp y;exact Aw.mpr ⟨p,AC _ hp,e⟩)⟩
 have q8:X.env.frame=some X.env.locals:=by
  rcases I0.ok.stk with z|⟨_,z⟩
  rw[q3] at z;exact absurd (congrArg CQ z) (by simp);exact z
 show Ao (Au X.prog X.w) X.A (BG (.ref a) X.env) _ X.xe s';refine uZ (base:=X.base) (outer:=X.outer) (by rw[I0.ok.frames,q3]) (by rw[<-q3];exact I0.stack) q8 rc λh1 T1 l1 x1 r1=>?_;have I2:Inv X G Z' H' { s' with heap:=h1 }:=I0.note x1 (λb hb=>by rw[q3];exact hb) (λb hb=>.inl (by unfold frs;rw[Bm,q8];exact Af _ hb)) rc nw;have z3:∀b,(b=a\/some T1=some b)->¬ (Old X.s₀.heap b/\b∉X.ex)/\H' b=none/\b∉pinA X G:=λb z=>by rcases z with z|z;exact nw b (.inl z);cases z;rcases l1 with l1|l1;exact⟨λz=>absurd z.1.lt (BI.mpr (AH I0.sz l1)),I0.hok.fresh l1,λz=>absurd (eV I0 _ z).lt (BI.mpr l1)⟩;exact nw _ (.inr l1)
 refine E8 (Ek (eR (X:=X.inExc (.ref a)) I2.inExc hg hm ?_ hd)) (by intro q;cases q);obtain⟨x0,N1,u4,u7,x4,w7,u9,sub1,z8,z5,x6,v2,v4,v6,v8,u0,u2,q5,_,_,_⟩:=hZ (X:=X) I2.kIn q1;obtain⟨x3,N2,u5,u8,x5,w8,sn2,z7,z9,z6,x7,v3,v5,v7,v9,u1,u3,w5,_,_,TL⟩:=hZ (X:=X) I2.kIn qC;obtain⟨cd,e1,e2⟩:=vC I2.kIn z1 q5;cases e1;obtain⟨oe,vs,he,hc,_,x9,_,hT⟩:=id r1;refine sJ q5 w5 he (hc.trans q9) (TL.hasType rfl) e2 ?_;refine codeAny_handlers_suite_as (sH r1 λh2 x2 r2=>?_);have I3:Inv X G Z' H' { s' with heap:=h2 }:=Inv.note (s:={ s' with heap:=h1 }) (fr:=[]) I2 x2 (λb hb=>by cases hb) (λb hb=>.inr rfl) r1 z3;obtain⟨u6,vs2,q7,x8,_,q6,_,_⟩:=id r2;have nl:a≠X.env.locals:=λz=>by obtain⟨m,⟨o,es,ep,U,L,_⟩,_⟩:=I3.loc;rw[<-z] at U;have U:h2.get? a=some o:=U;rw[q7] at U;cases U;rw[q6] at L;cases L
 have nc:∀x c,X.env.cells.lookup x=some c->c≠a:=λx c e z=>by obtain⟨v,o,U,L⟩:=I3.cell x c e;rw[z] at U;have U:h2.get? a=some o:=U;rw[q7] at U;cases U;rw[q6] at L;cases L
 have na:=nw a (.inl rfl);have I4:Inv X G Z' (upd H' a (excO a C1)) { s' with heap:=h2 }:=I3.track (a:=a) (o:=excO a C1) na.1 na.2.1 na.2.2 nl nc (aDi r2 q9);have w3:jn<Z'.length:=by rw[I3.len];exact(Az.mp M).1
 refine iF (X:=X) (v:=.ref a) I4 hN M (.inl hn) rfl (λs4 I5=>?_) (.inr hn);refine B6 (aCL (lK (X:=X.inExc (.ref a)) hN z2 hy (lJ (i:=jn) M (.inl hn) w9 w6) hs z0) G s4 _ _
  { nx:=λZ5 H5=>Z5=(Z'.set jn (some (.ref a))).set iy (some (.ref a))/\H5=upd H' a (excO a C1),rt:=λ_ _=>False,bk:=λ_ _=>False,ct:=λ_ _=>False } I5.inExc ⟨.ref a,As w3,rfl,rfl⟩) (λf s5 q=>?_) (λ_ _ z=>z.elim)
 cases f with
 | next=>obtain⟨Z5,H5,I6,e5,e6⟩:=q;subst e5 e6;have I6:=I6.outExc I0.ok.hd;show Ao (Au X.prog X.w) X.A (do bindName X.env n .none;Et X.env n hp) (λ_ q2=>SP X G D .next q2) X.xe s5;refine Aa (wpAny_bindName (iF (v:=.non) I6 hN M (.inl hn) rfl (λs6 I7=>?_) (.inr hn)));unfold Et;refine Dj (zV (v:=.non) I7 hN M hn (As (by simpa using w3)) λs7 I8=>?_);exact⟨_,_,I8,hD a na.2.1⟩|brk=>obtain⟨_,_,_,z⟩:=q;exact z.elim|cont=>obtain⟨_,_,_,z⟩:=q;exact z.elim|ret u=>obtain⟨_,_,_,_,_,z⟩:=q;exact z.elim
 cases f with
 | next=>exact CJ (SP.outTry (f:=.next) q)|brk=>exact SP.outTry (f:=.brk) q|cont=>exact SP.outTry (f:=.cont) q|ret u=>exact SP.outTry (f:=.ret u) q
end
noncomputable def eY(cells:List (Str×Addr)):List (Str×BA)->List (Str×Addr)->List (Str×Addr)
 | [],acc=>acc|(n,k)::r,acc=>if k==.free then eY cells r ((n,(cells.lookup n).getD 0)::acc) else eY cells r acc
theorem clos_mem{cells:List (Str×Addr)}:∀{names:List (Str×BA)} {acc:List (Str×Addr)} {p:Str×Addr},p∈eY cells names acc->p∈acc\/((p.1,AL)∈names/\p.2=(cells.lookup p.1).getD 0)
 | [],_,_,h=>.inl h|(n,k)::r,acc,p,h=>by unfold eY at h;by_cases I:(k==AL)=true;rw[if_pos I] at h;rcases clos_mem h with q|q;rcases A8.mp q with q|q;subst q;have:k=.free:=eq_of_beq I;subst this;exact .inr ⟨Aj,rfl⟩;exact .inl q;exact .inr ⟨Af _ q.1,q.2⟩;rw[if_neg I] at h;rcases clos_mem h with q|q;exact .inl q;exact .inr ⟨Af _ q.1,q.2⟩
theorem lV{cells:List (Str×Addr)}:∀{names:List (Str×BA)} {acc:List (Str×Addr)} {p:Str×Addr},p∈acc->p∈eY cells names acc
 | [],_,_,h=>h|(n,k)::r,acc,p,h=>by unfold eY;by_cases q:(k==AL)=true;rw[if_pos q];exact lV (Af _ h);rw[if_neg q];exact lV h
theorem iL{cells:List (Str×Addr)}:∀{names:List (Str×BA)} {acc:List (Str×Addr)} {n:Str},(n,AL)∈names->(n,(cells.lookup n).getD 0)∈eY cells names acc
 | [],_,_,h=>by simp at h|(m,k)::r,acc,n,h=>by unfold eY;rcases A8.mp h with q|q;cases q;rw[if_pos (by rfl:(AL==AL)=true)];exact lV Aj;by_cases I:(k==AL)=true;rw[if_pos I];exact iL q;rw[if_neg I];exact iL q
theorem dH{α:Type}:∀{l:List (Str×α)} {x:Str} {a:α},(x,a)∈l->∃b,l.lookup x=some b
 | (y,b)::r,x,a,h=>by
  rw[DM];cases I:x==y with
  | true=>exact⟨b,rfl⟩|false=>rcases A8.mp h with q|q;cases q;simp at I;exact dH q
theorem bY{cells:List (Str×Addr)}{names:List (Str×BA)}(L:∀n,(n,AL)∈names->∃c,cells.lookup n=some c){x:Str}{c:Addr}(h:(eY cells names []).lookup x=some c):cells.lookup x=some c:=by
 rcases clos_mem (Bf h) with q|⟨M,I⟩
 simp at q;obtain⟨U,e⟩:=L x M;simp only at I;rw[e] at I;rw[e,I];rfl
theorem fK{scope:Ck}{env:En}(U:∀n,(n,AL)∈scope.names->∃c,env.cells.lookup n=some c):closureFor scope env=pure (eY env.cells scope.names []):=by
 have go:∀(l:List (Str×BA)) (acc:List (Str×Addr)),(∀n,(n,AL)∈l->∃c,env.cells.lookup n=some c) ->
  (forIn l acc (λ(x:Str×BA) (r:List (Str×Addr))=>(match x with|(name,kind)=>if (kind==AL)=true then do let __do_lift<-cellOf env name;pure (Cy ((name,__do_lift)::r)) else pure (Cy r):Ht (ForInStep (List (Str×Addr))))))=(pure (eY env.cells l acc):Ht (List (Str×Addr))):=by
  intro l
  induction l with
  | nil=>intro acc _;rfl|cons p r L=>
   intro acc q;obtain⟨n,k⟩:=p;rw[Eg];unfold eY;by_cases I:(k==AL)=true;have:k=.free:=eq_of_beq I;subst this;obtain⟨c,e⟩:=q n Aj;have M:cellOf env n=pure c:=by unfold cellOf;rw[e]
   simp only[beq_self_eq_true,if_true,M];rw[e];exact L _ λm hm=>q m (Af _ hm);simp only[I,if_false];exact L _ λm hm=>q m (Af _ hm)
 unfold closureFor;exact(bind_pure _).trans (go scope.names [] U)
section
variable {prog:A5} {w:AM} {A:AY} {R:Hy->Ad->Prop} {s:Ad}
theorem fT{elt q q1:Ag}{q6:List Ag}{scope:Ck}{w3:Cf}{it acc:Value}{env:En}(I:Nat->Ad->Prop)
 (w4:∀n s,I n s->Ao (Au prog w) A (F4 it) (λr L=>match r with
  | none=>R (.ok .next) L|some v=>Ao (Au prog w) A (Dl q it v) (λ_ M=>Ao (Au prog w) A (DQ q env v) (λ_ q2=>
   Ao (Au prog w) A (forIn q6 true λc r=>if r=true then do let ok<-isTrue c env (C4 c env);pure (Cy ok) else pure (Cy r)) (λok U=>
    if ok=true then Ao (Au prog w) A (C4 elt env) (λx q3=>
     Ao (Au prog w) A (call (.builtin "list.append") [acc,x]) (λ_ q4=>∃m,m<n/\I m q4) (λ_ _=>False) q3) (notedBy (Au prog w) A env λe s'=>R (.error e) s') U
    else ∃m,m<n/\I m U) (λ_ _=>False) q2) (λ_ _=>False) M) (λ_ _=>False) L) (λ_ _=>False) s)
 (n:Nat) (h:I n s) :
 D8 (Au prog w) A (.compLoop (.ListComp elt [⟨q,q1,q6,0⟩] scope w3) 0 it acc env) R s:=by
 refine codeAny_loop rfl I (λn s hI=>?_) n h;show Ao _ A ((compTurn (.ListComp elt [⟨q,q1,q6,0⟩] scope w3) 0 it acc env).onRaise (λx=>do BG x env;theTreesLotGoes x)) _ _ s;refine wpAny_noted ?_;rw[compTurn_list];refine Aa (CH (Aa (B6 (w4 n s hI) (λr L W=>?_) λ_ _ h'=>h'.elim)));cases r with
 | none=>exact Ar W|some v=>
  refine Aa (B6 W (λ_ M q5=>?_) λ_ _ h'=>h'.elim);refine Aa (B6 q5 (λ_ q2 q7=>Aa (B6 q7 (λok U q0=>?_) λ_ _ h'=>h'.elim)) λ_ _ h'=>h'.elim);cases ok with
  | false=>exact Ar ⟨rfl,q0⟩|true=>exact Aa (Aa (B6 q0 (λx q3 q8=>Aa (B6 q8 (λ_ q4 q9=>Ar (Ar ⟨rfl,q9⟩)) λ_ _ h'=>h'.elim)) λ_ _ h'=>h'))
theorem kO{env env':En}{e:Value}(h:env'.frame=env.frame):BG e env'=BG e env:=by unfold BG PySem.frameOf;rw[h]
end
noncomputable def bI(X:Cx)(scope:Ck)(N':List Str)(C:Addr)(s₀:Ad)(H₀:Hp)(ex:List Addr):Cx:=
 { X with env:=Eu scope (eY X.env.cells scope.names []) C X.env,N:=N',s₀:=s₀,H₀:=H₀,outer:=X.stack,ex:=ex,fn:=λ_=>false,pn:=[],xe:=λ_ _=>False }
noncomputable def PTs(X:Cx)(ifs:List Ag)(t:TT):Prop:=
 ∀(G:List (Addr×Obj)) (s:Ad) (Z:St) (H:Hp) (Q:Bool->Hp->Prop),Inv X G Z H s->t Z H Q ->
  Ao (Au X.prog X.w) X.A (forIn ifs true λc r=>if r=true then do let ok<-isTrue c X.env (C4 c X.env);pure (Cy ok) else pure (Cy r)) (TP X G Z Q) X.xe s
theorem wW{X:Cx}:PTs X [] (λ_ H Q=>Q true H):=λG s Z H Q I h=>Ar ⟨H,I,h⟩
theorem aDj{X:Cx}{c:Ag}{t:TT}(h:PT X c t):PTs X [c] t:=λG s Z H Q I q=>wpAny_tests_one (h G s Z H Q I q)
structure bX (X:Cx) (scope:Ck) (k:Nat) (caps:List Nat) (N':List Str):Prop where
 kind:scope.kind=.function
 nocell:∀y∈scope.names,y.2≠.cell
 loc:∀y∈scope.names,y.2=.local->scope.names.lookup y.1=some .local
 free:∀n,(n,AL)∈scope.names->X.env.kindOf n=some .cell\/X.env.kindOf n=some .free
 len:N'.length=k+caps.length
 cap:∀j i,caps[j]? = some i->∃x,N'[k+j]? = some x/\X.N[i]? = some x/\scope.names.lookup x=some .free/\X.env.kindOf x=some .cell
 ndp:X.N.Nodup
noncomputable def eZ(k:Nat)(caps:List Nat)(Z:St):St:=Ae k none++caps.map λi=>(Z[i]?).getD none
noncomputable def aAV(WX:Value->St->Hp->Prop)(k:Nat)(caps:List Nat)(wi:TI)(g:TG)(tt:TT)(te:(Value->St->Hp->Prop)->TE):TE:=λZ H Q=>wi Z H λJ0 H1=>
 ∃W:Nat->Nat->List V->St->Hp->Prop,(∃m,W 0 m [] (eZ k caps Z) H1)/\∀i m ys Z1 H,W i m ys Z1 H ->
  (J0.stop i H/\ys.length<=sizeLine/\∀p,H p=none->Q (.ref p) (upd H p (.lst ys))) \/
  (J0.go i H/\ys.length<sizeLine/\∀x H',J0.yld i H x H'->g x Z1 H' λZ2 H2=>tt Z2 H2 λb H3=>
   if b=true then te (λc _ H=>WX c Z H) Z2 H3 λy H4=>∃m',m'<m/\W (i+1) m' (ys++[y]) Z2 H4 else ∃m',m'<m/\W (i+1) m' ys Z2 H3)
theorem HOk.track{P:A5}{w:AM}{H:Hp}{h:Heap}{a:Addr}{o:HO}(ok:HOk P w H h)(n:H a=none)(new:cG P w (upd H a o) h a o):HOk P w (upd H a o) h:=λb u e=>by by_cases hb:b=a;subst hb;rw[aO] at e;cases e;exact new;rw[aJ hb] at e;exact(ok b u e).stay (λ_ _ _ q=>q) (λc q=>by rw[aJ (aU q n)];exact q) λc xs q=>by rw[aJ (aU q n)];exact q
abbrev cH(its:List Value)(n:Nat):Obj:={ cls:=.type "list",data:=.seq its.toArray n }
section
variable {X:Cx} {scope:Ck} {k:Nat} {caps:List Nat} {N':List Str} {G:List (Addr×Obj)} {Z:St} {H:Hp} {s:Ad} {fp:List Addr}
theorem Inv.cellLt(I:Inv X G Z H s){x:Str}{c:Addr}(e:X.env.cells.lookup x=some c):c<s.heap.objs.size:=by obtain⟨v,q⟩:=I.cell x c e;exact q.lt
theorem eA:∀{l:List (Str×BA)} {x:Str} {k:BA},l.lookup x=some k->(x,k)∈l:=λh=>Bf h
theorem relabel_lookup{env:En}:∀{names:List (Str×BA)} {x:Str} {k:BA},
 (names.map λ(n,k)=>if (k==AL&&env.scope.kind==.function&&env.kindOf n==some .cell) then (n,NameKind.cell) else (n,k)).lookup x=some k ->
 (k=.cell/\names.lookup x=some .free/\env.kindOf x=some .cell)\/names.lookup x=some k
 | [],_,_,h=>by simp at h|(n,k')::r,x,k,h=>by
  have L:=@relabel_lookup env r x k;rw[mC] at h;by_cases q:(k'==AL&&env.scope.kind==.function&&env.kindOf n==some .cell)=true;simp only[q,if_true,DM] at h ⊢;cases I:x==n with
  | true=>rw[I] at h;simp only at h ⊢;simp only[bA] at q;have M:k'=.free:=eq_of_beq q.1.1;have U:env.kindOf n=some .cell:=eq_of_beq q.2;have W:x=n:=eq_of_beq I;subst W;cases h;exact .inl ⟨rfl,by rw[M],U⟩|false=>rw[I] at h;exact L h
  simp only[Bool.not_eq_true] at q;simp only[q,if_false,DM,bF] at h ⊢;cases I:x==n with
  | true=>rw[I] at h;exact .inr h|false=>rw[I] at h;exact L h
theorem aKB(M:bX X scope k caps N')(I:Inv X G Z H s)(f:∀b∈fp,iG X G H b)(hf:∀b∈fp,b<s.heap.objs.size) :
 (bI X scope N' (s.heap.objs.size+1) { s with heap:=s.heap.push (cH [] 0) } H (s.heap.objs.size::fp)).Ok:=by
 have U:∀n,(n,AL)∈scope.names->∃c,X.env.cells.lookup n=some c:=λn hn=>I.ok.has n (M.free n hn);have ge:∀b o,s.heap.get? b=some o->(s.heap.push (cH [] 0)).get? b=some o:=λb o e=>Ab _ e;have L:∀b∈frs X.stack,∃o,s.heap.get? b=some o:=λb hb=>by obtain⟨_,o,ho,_⟩:=I.stack.mem hb;exact⟨o,ho⟩
 refine⟨I.ok.mod,?_,I.ok.glob,I.ok.blt,?_,λx y c h1 h2=>?_,λx hx=>?_,λx c h _=>?_,I.ok.hd,I.ok.frames,.inl rfl,λb hb=>?_,λb o e=>?_,?_,λb o e hb=>?_,λb hb=>?_,?_,I.stkFree⟩;exact M.kind;show(s.heap.push (cH [] 0)).objs.size<=s.heap.objs.size+1;rw[BC];exact An _;exact I.ok.inj x y c (bY U h1) (bY U h2);have fr:(x,AL)∈scope.names:=by rcases hx with q|q;rcases relabel_lookup q with⟨_,z,_⟩|z;exact eA z;exact absurd rfl (M.nocell _ (eA z));rcases relabel_lookup q with⟨z,_⟩|z;cases z;exact eA z
 obtain⟨c,e⟩:=dH (iL (cells:=X.env.cells) (acc:=[]) fr);exact⟨c,e⟩;cases(show false=true from h);refine⟨?_,λx c e=>?_⟩;show b≠s.heap.objs.size+1;rcases A8.mp hb with z|z;rw[z];exact A9 (Bk _);exact A9 (C3 (hf b z));have W:=bY U e;rcases A8.mp hb with z|z;rw[z];exact A9 (I.cellLt W);exact(f b z).2.2.2.2.1 x c W;exact⟨ge b o (I.bs b o e).1,(I.bs b o e).2⟩;show X.base.objs.size<=(s.heap.push (cH [] 0)).objs.size;rw[BC];exact Fu (AH I.ok.bsz I.sz);have lt:=Al e;rcases A8.mp hb with z|z;subst z;exact absurd (Av lt (AH I.ok.bsz I.sz)) (AU _);rcases(f b z).2.2.2.1 with q|q;exact I.ok.noex b o e q;exact absurd (Av lt (AH I.ok.bsz q)) (AU _);show b∉frs X.stack;intro hs;rcases A8.mp hb with z|z;subst z;obtain⟨o,e⟩:=L _ hs;exact absurd (Al e) (AU _);rcases A8.mp (I.stkSub b hs) with q|q;exact(f b z).2.1 q;exact(f b z).2.2.1 q;exact I.stack.of_keeps λb o e _=>⟨o,ge b o e,rfl⟩
theorem aAW(M:bX X scope k caps N'){j:Nat}{v:V}(h:(eZ k caps Z)[j]? = some (some v)):∃L i,j=k+L/\caps[L]? = some i/\Z[i]? = some (some v):=by
 unfold eZ at h;by_cases I:j<k;rw[Ba (by simpa using I),BF] at h;split at h <;> cases h;rw[AN (by simpa using I),AO,A6] at h;cases e:caps[j-k]? with
 | none=>rw[e] at h;cases h|some i=>
  rw[e] at h;have h':(Z[i]?).getD none=some v:=Ah h;refine⟨j-k,i,by omega,e,?_⟩;cases q:Z[i]? with
  | none=>rw[q] at h';cases h'|some z=>rw[q] at h';exact congrArg some h'
theorem aIb(U:bX X scope k caps N')(I:Inv X G Z H s)(f:∀b∈fp,iG X G H b)(hf:∀b∈fp,b<s.heap.objs.size){L:Heap}{tk:Nat}
 (q2:L.Ns (s.heap.objs.size+1) λ_=>none) (hk:∀b o,(s.heap.push (cH [] 0)).get? b=some o->L.get? b=some o) :
 Inv (bI X scope N' (s.heap.objs.size+1) { s with heap:=s.heap.push (cH [] 0) } H (s.heap.objs.size::fp)) [] (eZ k caps Z) H { s with heap:=L,toks:=tk }:=by
 have hh:∀n,(n,AL)∈scope.names->∃c,X.env.cells.lookup n=some c:=λn hn=>I.ok.has n (U.free n hn);have ge:∀b o,s.heap.get? b=some o->L.get? b=some o:=λb o e=>hk b o (Ab _ e);have M:∀{c:Addr} {v:Option Value},s.heap.IsCell c v->L.IsCell c v:=λ{c v} ⟨o,e,d⟩=>⟨o,ge _ _ e,d⟩
 refine⟨aKB U I f hf,rfl,I.bare,Un.kept hk,⟨_,q2,λj x v e1 e2 e3=>?_⟩,λx c e=>?_,?_,λx c e=>?_,λp hp=>absurd (show p∈([]:List (Addr×Obj)) from hp) (by simp),I.hok.kept ge,?_⟩;obtain⟨j',i,ej,ec,es⟩:=aAW U e2;obtain⟨y,h1,h2,h3,h4⟩:=U.cap j' i ec;have W:N'[j]? = some x:=e1;rw[ej,h1] at W;have ey:y=x:=Ah W;subst ey;obtain⟨m,hn,hl⟩:=I.loc;obtain⟨u,ru,lk⟩:=hl i y v h2 es (.inr (.inl h4));rcases lk with⟨k1,_⟩|⟨_,c,q1,hc⟩
 rw[h4] at k1;cases k1;refine⟨u,ru,.inr ⟨?_,c,?_,M hc⟩⟩;have q0:Vis (FU scope X.env) y:=e3;rcases q0 with z|z|z;rcases relabel_lookup z with⟨z,_⟩|z;cases z;rw[h3] at z;cases z;exact .inl z;exact .inr z;obtain⟨c',e⟩:=dH (iL (cells:=X.env.cells) (acc:=[]) (eA h3));have e':=bY hh e;rw[q1] at e';cases e';exact e;obtain⟨v,q⟩:=I.cell x c (bY hh e);exact⟨v,M q⟩;exact I.hok.fresh (Hl _);exact I.freeC x c (bY hh e);show(eZ k caps Z).length=N'.length;unfold eZ;rw[lA,AO,lM,U.len]
theorem sK{tg q9 elt:Ag}{z1:List Ag}{z9:Cf}{g:TG}{tt:TT}{te:(Value->St->Hp->Prop)->TE}{WX:Value->St->Hp->Prop}{it:Addr}{tn:Nat->Heap->Prop}{J0:It}{RR:Value->Addr->Hy->Ad->Prop}{E:Value->Ad->Prop}{Q:VK}
 (CS:bX X scope k caps N') (hc:X.calm=true) (I:Inv X G Z H s) (T:uL X.prog X.w X.K tg J0 fp it tn) (st:tn 0 s.heap) (f:∀b∈fp,iG X G H b)
 (v8:∀C s₀ H₀ ex,PG (bI X scope N' C s₀ H₀ ex) tg g/\PTs (bI X scope N' C s₀ H₀ ex) z1 tt/\∀pl E W,BE (Au X.prog X.w) X.A (bI X scope N' C s₀ H₀ ex).env E->Rs ((bI X scope N' C s₀ H₀ ex).inTry pl E) W->PE ((bI X scope N' C s₀ H₀ ex).inTry pl E) elt (te W))
 (v7:∀c Z H,WX c Z H->X.stack=X.env::X.outer/\RX X c Z H)
 (hw:∃W:Nat->Nat->List V->St->Hp->Prop,(∃m,W 0 m [] (eZ k caps Z) H)/\∀i m ys Z1 H,W i m ys Z1 H ->
  (J0.stop i H/\ys.length<=sizeLine/\∀p,H p=none->Q (.ref p) (upd H p (.lst ys))) \/
  (J0.go i H/\ys.length<sizeLine/\∀x H',J0.yld i H x H'->g x Z1 H' λZ2 H2=>tt Z2 H2 λb H3=>
   if b=true then te (λc _ H=>WX c Z H) Z2 H3 λy H4=>∃m',m'<m/\W (i+1) m' (ys++[y]) Z2 H4 else ∃m',m'<m/\W (i+1) m' ys Z2 H3))
 (hE:∀D C s' H' m a cls T,Inv X G Z H' s'->s'.heap.Ns C m->s.heap.objs.size<C->(∀(Z':St) (M:Ad) (h':Heap),Inv X G Z' H' M->BX C M.heap h'->Inv X G Z' H' { M with heap:=h' })->Rec s'.heap a cls (some T) ->
  (∀b,(b=a\/some T=some b)->¬ (Old X.s₀.heap b/\b∉X.ex)/\H' b=none/\b∉pinA X G)->RX X cls Z H'->RR (.ref D) C (.error (.ref a)) s')
 (hR:∀D C s' H' m,Inv X G Z H' s'->s'.heap.Ns C m->s.heap.objs.size<C->(∀(Z':St) (M:Ad) (h':Heap),Inv X G Z' H' M->BX C M.heap h'->Inv X G Z' H' { M with heap:=h' })->Q (.ref D) H'->RR (.ref D) C (.ok .next) s') :
 Ao (Au X.prog X.w) X.A (newList []) (λacc x8=>Ao (Au X.prog X.w) X.A (newFunctionEnv scope X.env.globals (eY X.env.cells scope.names []) [] X.env.qual none .none (some X.env)) (λz4 x9=>
  D8 (Au X.prog X.w) X.A (.compStart (.ListComp elt [⟨tg,q9,z1,0⟩] scope z9) 0 (.ref it) acc { z4 with scope:=FU scope X.env }) (RR acc z4.locals) x9) E x8) E s:=by
 obtain⟨W,⟨m0,w0⟩,v0⟩:=hw;have hf:∀b∈fp,b<s.heap.objs.size:=λb hb=>by obtain⟨o,e,_⟩:=T.obj 0 _ st b hb;exact Al e
 refine Bq (wpAny_newFunctionEnv CS.nocell (by intro y hy;simp at hy) (λq0 w9 z0=>?_) CS.kind);have q3:(s.heap.push (cH [] 0)).objs.size=s.heap.objs.size+1:=BC _ _;have u0:q0.Ns (s.heap.objs.size+1) λ_=>none:=by have:=w9;rw[show({ s with heap:=s.heap.push (cH [] 0) }:Ad).heap.objs.size=s.heap.objs.size+1 from q3] at this;exact this
 have hk:∀b o,(s.heap.push (cH [] 0)).get? b=some o->q0.get? b=some o:=λb o e=>z0.extBut b o (A9 (by have:=Al e;rw[q3] at this;show b<(s.heap.push (cH [] 0)).objs.size;rw[q3];exact this)) (Ab _ e);have I0:=aIb (N':=N') CS I f hf (tk:=s.toks+([]:List (Str×Value)).length) u0 hk;have noC:∀{b:Addr},b<s.heap.objs.size->b≠s.heap.objs.size+1:=λ{b} hb=>A9 (C3 hb);have x3:H s.heap.objs.size=none:=I.fresh;have hh:∀n,(n,AL)∈scope.names->∃c,X.env.cells.lookup n=some c:=λn hn=>I.ok.has n (CS.free n hn);have v4:q0.get? s.heap.objs.size=some (cH [] 0):=hk _ _ (A0 _ rfl);have x7:∀b∈frs X.stack,b<s.heap.objs.size:=λb hb=>by obtain⟨_,o,ho,_⟩:=I.stack.mem hb;exact Al ho
 have z5:∀(pl:List (Addr×Obj)),(∀p∈pl,p.1=s.heap.objs.size)->∀{H':Hp},(∀b∈fp,H' b=none)->∀b∈fp,iG (bI X scope N' (s.heap.objs.size+1) { s with heap:=s.heap.push (cH [] 0) } H (s.heap.objs.size::fp)) pl H' b:=by
  intro pl z7 H' hn b hb;refine⟨hn b hb,noC (hf b hb),λz=>?_,.inl (Af _ hb),λx c e=>(f b hb).2.2.2.2.1 x c (bY hh e),λp hp z=>?_⟩;rcases A8.mp (I.stkSub b z) with q|q;exact(f b hb).2.1 q;exact(f b hb).2.2.1 q;have u1:p∈pl:=by simpa[bI] using hp
  rw[z7 p u1] at z;exact absurd (hf b hb) (by rw[<-z];exact AU _)
 have w5:∀{Z':St} {H':Hp} {s':Ad} {L:List Value} {n:Nat} {pl:List (Addr×Obj)},Inv (bI X scope N' (s.heap.objs.size+1) { s with heap:=s.heap.push (cH [] 0) } H (s.heap.objs.size::fp)) pl Z' H' s' ->
  s'.heap.get? s.heap.objs.size=some (cH L n)->H' s.heap.objs.size=none->Inv (bI X scope N' (s.heap.objs.size+1) { s with heap:=s.heap.push (cH [] 0) } H (s.heap.objs.size::fp)) [(s.heap.objs.size,cH L n)] Z' H' s':=by
  intro Z' H' s' L n pl J0 e nn;refine J0.pins_of λp hp=>?_;have:p=(s.heap.objs.size,cH L n):=by simpa using hp
  subst this;refine⟨e,nn,A9 (Bk _),λz=>absurd (x7 _ z) (AU _),λv z=>by cases z⟩
 have nb:∀{b:Addr} {o:Obj},s.heap.get? b=some o->b∉fp->b∉s.heap.objs.size::fp:=λ{b o} e hb z=>by rcases A8.mp z with z|z;exact absurd (Al e) (by rw[z];exact AU _);exact hb z
 have z3:∀{H':Hp},H' (s.heap.objs.size+1)=none->∀(Z':St) (M:Ad) (h':Heap),Inv X G Z' H' M->BX (s.heap.objs.size+1) M.heap h'->Inv X G Z' H' { M with heap:=h' }:=λ{H'} hn Z' M h' I6 u2=>by
  have:=I6.turned (t':=M.toks) (h':=h') (it:=s.heap.objs.size+1) (λb o hb e=>u2.extBut b o hb e) hn
   (B9 (C3 I.lt)) (.inr (Fu I.sz)) (λx c e=>A9 (C3 (I.cellLt e))) λp hp z=>?_
  exact this;have:=Al (I.pin p hp).1;rw[z] at this;exact absurd this (BI.mpr (Hl _))
 have x5:∀{pl:List (Addr×Obj)} {E:Value->Ad->Prop},(∀b∈s.heap.objs.size::fp,b∈pl.map (·.1)) ->
  Rs ((bI X scope N' (s.heap.objs.size+1) { s with heap:=s.heap.push (cH [] 0) } H (s.heap.objs.size::fp)).inTry pl λx s'=>Ao (Au X.prog X.w) X.A (BG x (Eu scope (eY X.env.cells scope.names []) (s.heap.objs.size+1) X.env)) (λ_ M=>RR (.ref s.heap.objs.size) (s.heap.objs.size+1) (.error x) M) E s') λc _ H=>WX c Z H:=by
  intro pl E z7 pins' Z' H' s' a cls I' fl hW;obtain⟨q5,hW⟩:=v7 _ _ _ hW;have q4:=I'.outTry;obtain⟨T,rc,nw⟩:=fl;have q1:∀b,(b=a\/T=some b)->¬ (Old (s.heap.push (cH [] 0)) b/\b∉s.heap.objs.size::fp)/\H' b=none/\b∉pl.map (·.1):=λb z=>⟨(nw b z).1,(nw b z).2.1,λy=>(nw b z).2.2 (by
   obtain⟨p,hp,e⟩:=Aw.mp y;exact Aw.mpr ⟨p,AC _ (Aq _ hp),e⟩)⟩
  have v9:X.env.frame=some X.env.locals:=by
   rcases I.ok.stk with z|⟨_,z⟩
   rw[q5] at z;exact absurd (congrArg CQ z) (by simp);exact z
  show Ao (Au X.prog X.w) X.A (BG (.ref a) (Eu scope (eY X.env.cells scope.names []) (s.heap.objs.size+1) X.env)) _ _ s';rw[kO (env:=X.env) (env':=Eu scope (eY X.env.cells scope.names []) (s.heap.objs.size+1) X.env) rfl];refine wQ (base:=X.base) (outer:=X.outer) (by rw[<-q5];exact q4.ok.frames) (by rw[<-q5];exact q4.stack) v9 rc λh1 T1 l1 x1 r1=>?_;have I1:=q4.note x1 (λb hb=>by rw[<-q5] at hb;exact hb) (λb hb=>.inl (by rw[<-q5];exact hb)) rc (λb z=>⟨(q1 b z).1,(q1 b z).2.1,by
   show b∉(([]:List (Addr×Obj))++pl).map (·.1);rw[Dn];exact(q1 b z).2.2⟩)
  have u4:=I1.base;have u:Un (frs X.stack) fp H H' s.heap h1:={
   keep:=λb o e nn hb hx=>u4.keep b o (Ab _ e) nn hb (nb e hx)
   slot:=λb o e nn hb hx=>u4.slot b o (Ab _ e) nn hb (nb e hx)
   free:=λb o e nn hx=>u4.free b o (Ab _ e) nn (nb e hx)
   there:=λb o e hx=>u4.there b o (Ab _ e) (nb e hx)
   tups:=u4.tups
   frzs:=u4.frzs
   tbls:=u4.tbls }
  have I5:Inv X G Z H' { s' with heap:=h1 }:=I.call' I1.os u I1.hok I1.bare λb hb=>⟨(f b hb).2.2.2.1,(f b hb).2.1,(f b hb).2.2.2.2.1,(f b hb).2.2.2.2.2⟩
  obtain⟨m4,z6,_⟩:=I1.loc;have new:∀b,(b=a\/T=some b)->¬ Old s.heap b:=λb z ⟨o,q⟩=>(q1 b z).1 ⟨⟨o,Ab _ q⟩,λy=>(q1 b z).2.2 (z7 b y)⟩;refine hE s.heap.objs.size (s.heap.objs.size+1) { s' with heap:=h1 } H' m4 a cls T1 I5 z6 (Bk _) (z3 I1.free) r1 (λb z=>?_) hW;have w4:¬ Old s.heap b/\H' b=none:=by rcases z with z|z;exact⟨new b (.inl z),(q1 b (.inl z)).2.1⟩;cases z;rcases l1 with l1|l1;exact⟨λq=>absurd (Av q.lt (AH (DP (Av (show s.heap.objs.size<(s.heap.push (cH [] 0)).objs.size by rw[q3];exact Bk _) q4.sz)) l1)) (AU _),q4.hok.fresh l1⟩;exact⟨new _ (.inr l1),(q1 _ (.inr l1)).2.1⟩
  exact⟨λy=>w4.1 (pS I b y.1 y.2),w4.2,λy=>w4.1 (eV I b y)⟩
 have start:D8 (Au X.prog X.w) X.A (.compLoop (.ListComp elt [⟨tg,q9,z1,0⟩] scope z9) 0 (.ref it) (.ref s.heap.objs.size) (Eu scope (eY X.env.cells scope.names []) (s.heap.objs.size+1) X.env))
  (RR (.ref s.heap.objs.size) (s.heap.objs.size+1)) { s with heap:=q0,toks:=s.toks+([]:List (Str×Value)).length }:=by
  refine fT (λn s'=>∃i ys L U Z1 H',Inv (bI X scope N' (s.heap.objs.size+1) { s with heap:=s.heap.push (cH [] 0) } H (s.heap.objs.size::fp)) [(s.heap.objs.size,cH L U)] Z1 H' s' /\
   tn i s'.heap/\(∀b∈fp,H' b=none)/\aQ ys L/\W i n ys Z1 H') ?_ m0 ⟨0,[],[],0,_,H,w5 I0 v4 x3,T.keep _ _ _ st λb _ o e=>hk b o (Ab _ e),λb hb=>(f b hb).1,.nil,w0⟩
  rintro n s3 ⟨i,ys,L,U,Z1,H3,I3,x6,x2,w6,w3⟩;obtain⟨u7,u8,_⟩:=I3.pin (s.heap.objs.size,cH L U) (by simp[bI]);have z8:∀p∈[(s.heap.objs.size,cH L U)],p.1=s.heap.objs.size:=λp hp=>by
   have:p=(s.heap.objs.size,cH L U):=by simpa using hp
   rw[this]
  rcases v0 i n ys Z1 H3 w3 with⟨stop,hz,qn⟩|⟨go,hz,step⟩
  refine thn (T.done (bI X scope N' (s.heap.objs.size+1) { s with heap:=s.heap.push (cH [] 0) } H (s.heap.objs.size::fp)) rfl rfl rfl hc i _ s3 _ H3 _ I3 (z5 _ z8 x2) x6 stop) λr s4 ⟨hr,I4⟩=>?_;subst hr;obtain⟨v5,x4,_⟩:=I4.pin (s.heap.objs.size,cH L U) (by simp[bI]);have u4:=I4.base;have u6:∀{b:Addr} {o:Obj},s.heap.get? b=some o->b≠s.heap.objs.size:=λ{b o} e=>A9 (Al e);have x0:∀{b:Addr} {o:HO},H b=some o->b≠s.heap.objs.size:=λ{b o} e=>aU e x3;have u:Un (frs X.stack) fp H (upd H3 s.heap.objs.size (.lst ys)) s.heap s4.heap:={
   keep:=λb o e nn hb hx=>u4.keep b o (Ab _ e) nn hb (nb e hx)
   slot:=λb o e nn hb hx=>u4.slot b o (Ab _ e) nn hb (nb e hx)
   free:=λb o e nn hx=>by rw[aJ (u6 e)];exact u4.free b o (Ab _ e) nn (nb e hx)
   there:=λb o e hx=>u4.there b o (Ab _ e) (nb e hx)
   tups:=λb xs e=>by rw[aJ (x0 e)];exact u4.tups b xs e
   frzs:=λb o u e=>by rw[aJ (x0 e)];exact u4.frzs b o u e
   tbls:=λb ps e=>by rw[aJ (x0 e)];exact u4.tbls b ps e }
  have hl:=w6.length;have hok:HOk X.prog X.w (upd H3 s.heap.objs.size (.lst ys)) s4.heap:=HOk.track I4.hok x4 ⟨hz,L,U,w6,v5⟩;have I5:Inv X G Z (upd H3 s.heap.objs.size (.lst ys)) s4:=I.call' I4.os u hok I4.bare λb hb=>⟨(f b hb).2.2.2.1,(f b hb).2.1,(f b hb).2.2.2.2.1,(f b hb).2.2.2.2.2⟩
  obtain⟨m4,z6,_⟩:=I4.loc;exact hR s.heap.objs.size (s.heap.objs.size+1) s4 _ m4 I5 z6 (Bk _) (z3 (by rw[aJ (B9 (Bk _))];exact I4.free)) (qn _ x4);refine thn (T.item (bI X scope N' (s.heap.objs.size+1) { s with heap:=s.heap.push (cH [] 0) } H (s.heap.objs.size::fp)) rfl rfl rfl hc i _ s3 _ H3 _ I3 (z5 _ z8 x2) x6 go) λr s4 ⟨u,hr,h4⟩=>?_;subst hr;refine thn h4 λ_ s5 ⟨x,H5,I5,r5,y5,z2,v3⟩=>?_;obtain⟨hg,ht,he⟩:=v8 (s.heap.objs.size+1) { s with heap:=s.heap.push (cH [] 0) } H (s.heap.objs.size::fp);have v2:=I5.pinned (z5 _ z8 v3) (T.obj _ _ z2);have keep:∀{Z7:St} {H7:Hp} {s7:Ad},Inv (bI X scope N' (s.heap.objs.size+1) { s with heap:=s.heap.push (cH [] 0) } H (s.heap.objs.size::fp)) ([(s.heap.objs.size,cH L U)]++jB fp s5.heap) Z7 H7 s7 ->
   tn (i+1) s7.heap/\(∀b∈fp,H7 b=none)/\s7.heap.get? s.heap.objs.size=some (cH L U)/\H7 s.heap.objs.size=none:=by intro Z7 H7 s7 I7;obtain⟨v6,u5,_⟩:=I7.pin (s.heap.objs.size,cH L U) (by simp[bI]);refine⟨T.keep _ _ _ z2 λb hb o e=>(I7.pin (b,o) (Aq _ (Aq _ (dR hb e)))).1,λb hb=>?_,v6,u5⟩;obtain⟨o,e,d⟩:=T.obj _ _ z2 b hb;exact(I7.pin (b,o) (Aq _ (Aq _ (dR hb e)))).2.1
  refine thn (hg _ s5 _ H5 x u _ v2 r5 (step x H5 y5)) λ_ s6 ⟨Z6,H6,I6,q6⟩=>?_;refine thn (ht _ s6 Z6 H6 _ I6 q6) λb s7 ⟨H7,I7,q7⟩=>?_;cases b with
  | false=>rw[if_neg bN] at q7 ⊢;obtain⟨m',hm,w7⟩:=q7;obtain⟨t7,f7,d7,n7⟩:=keep I7;exact⟨m',hm,i+1,ys,L,U,Z6,H7,w5 I7 d7 n7,t7,f7,w6,w7⟩|true=>
   rw[if_pos rfl] at q7 ⊢;refine B6 (he ([(s.heap.objs.size,cH L U)]++jB fp s5.heap) _ _ DA (x5 λb hb=>?_) [] s7 Z6 H7 _ I7.inTry q7) (λyv s8 ⟨y,H8,I8,r8,q8⟩=>?_) λ_ _ z=>z;rcases A8.mp hb with z|z;rw[z];simp;obtain⟨o,e,d⟩:=T.obj _ _ z2 b z;exact Aw.mpr ⟨(b,o),Aq _ (dR z e),rfl⟩;have I8:=I8.outTry;obtain⟨m',hm,w8⟩:=q8;obtain⟨t8,f8,d8,n8⟩:=keep I8;have hl:=w6.length;have u3:L.toArray.size<=sizeLine:=by rw[Ak];omega
   refine EQ ES ⟨_,d8,rfl⟩ E7 (Ep _ _) (Fo s.heap.objs.size L.toArray U yv u3) ⟨d8,?_⟩;have q:=F7 d8 (λa=>a.push yv);have e':L.toArray.push yv=(L++[yv]).toArray:=by simp
   rw[e'] at q;have I9:=(I8.unpinned (G:=[(s.heap.objs.size,cH L U)])).pins_of (pins':=[]) (λp hp=>absurd hp (by simp));have v1:=I9.turned (t':=s8.toks) (it:=s.heap.objs.size) (h':=s8.heap.update s.heap.objs.size (Dx λa=>a.push yv)) (λb o hb e=>(Am s8.heap _ (Bp hb)).trans e) n8
    (A9 (Bk _)) (.inl Aj) (λx c e=>A9 (I.cellLt (bY hh e))) (λp hp=>absurd (show p∈([]:List (Addr×Obj)) from by simpa[bI] using hp) (by simp))
   refine⟨m',hm,i+1,ys++[y],L++[yv],_,Z6,H8,w5 v1 q n8,?_,f8,w6.append (.cons r8 .nil),w8⟩;refine T.keep _ _ _ t8 λb hb o e=>(Am s8.heap _ ?_).trans e;intro z;exact absurd (hf b hb) (by rw[<-z];exact AU _)
 have q2:∀C,C=s.heap.objs.size+1->D8 (Au X.prog X.w) X.A (.compLoop (.ListComp elt [⟨tg,q9,z1,0⟩] scope z9) 0 (.ref it) (.ref s.heap.objs.size) (Eu scope (eY X.env.cells scope.names []) C X.env))
  (RR (.ref s.heap.objs.size) C) { s with heap:=q0,toks:=s.toks+([]:List (Str×Value)).length }:=by rintro C rfl;exact start
 exact codeAny_compStart_list (q2 _ q3) (T.self X.A 0 _ _ _ (T.keep _ _ _ st λb _ o e=>hk b o (Ab _ e)) (q2 _ q3))
end
section
variable {X:Cx} {scope:Ck} {k:Nat} {caps:List Nat} {N':List Str} {tg iter elt:Ag} {ifs:List Ag} {pos:Cf} {wi:TI} {g:TG} {tt:TT} {te:(Value->St->Hp->Prop)->TE} {WX:Value->St->Hp->Prop}
theorem sL{G:List (Addr×Obj)}{Z:St}{H':Hp}{L:Ad}{C a T:Addr}{cls:Value}{m:Str->Option Value}{Q:Value->Ad->Prop}{acc:Value}{use:Option (Value->Ht Unit)}(I:Inv X G Z H' L)(hn:L.heap.Ns C m)
 (W:∀(Z':St) (U:Ad) (h':Heap),Inv X G Z' H' U->BX C U.heap h'->Inv X G Z' H' { U with heap:=h' }) (r:Rec L.heap a cls (some T)) (nw:∀b,(b=a\/some T=some b)->¬ (Old X.s₀.heap b/\b∉X.ex)/\H' b=none/\b∉pinA X G) (hx:RX X cls Z H') :
 Hm (Au X.prog X.w) X.A X.xe use Q acc C (.error (.ref a)) L:=by
 have q1:∃m,L.heap.Ns C m/\∀h',BX C L.heap h'->∀M:En,M.locals=C->Ao (Au X.prog X.w) X.A (GU "comprehension.variables-let-go" (.ref a) M:Ht Value) (λ_ _=>False) X.xe { L with heap:=h' }:=by
  refine⟨m,hn,λh' hs M _=>?_⟩;have I1:=W Z L h' I hs;have ne:∀b o,L.heap.get? b=some o->(∃vs,o.data=.fields vs)->b≠C:=λb o q ⟨vs,d⟩ z=>by obtain⟨oC,es,ep,ho,hd,_⟩:=hn;rw[z,ho] at q;cases q;rw[hd] at d;cases d
  have r1:Rec h' a cls (some T):=by obtain⟨oe,vs,he,hc,q4,hd,q3,h1,q2,oT,ts,hT,q0,fl,h3⟩:=r;exact⟨oe,vs,(hs.2 a (ne a oe he ⟨vs,hd⟩)).trans he,hc,q4,hd,q3,h1,q2,oT,ts,(hs.2 T (ne T oT hT ⟨ts,q0⟩)).trans hT,q0,fl,h3⟩
  unfold GU;obtain⟨oe,vs,he,_,_,hd,_,h1,_⟩:=id r1;refine Aa (AD (s:={ L with heap:=h' }) he hd h1 ?_);rw[if_neg (show ¬ ((AA T==AG)=true) from by simp)];refine Aa (aAT (s:={ L with heap:=h' }) r1 λh2 x2 r2=>?_);refine FJ ?_;exact hx G _ a (Inv.note (s:={ L with heap:=h' }) (fr:=[]) I1 x2 (λb hb=>by cases hb) (λb hb=>.inr rfl) r1 nw) ⟨some T,r2,nw⟩
 cases use with
 | none=>exact q1|some u=>exact q1
theorem pX(U:bX X scope k caps N')(hc:X.calm=true)(hi:PI X tg iter wi)
 (q1:∀C s₀ H₀ ex,PG (bI X scope N' C s₀ H₀ ex) tg g/\PTs (bI X scope N' C s₀ H₀ ex) ifs tt/\∀pl E W,BE (Au X.prog X.w) X.A (bI X scope N' C s₀ H₀ ex).env E->Rs ((bI X scope N' C s₀ H₀ ex).inTry pl E) W->PE ((bI X scope N' C s₀ H₀ ex).inTry pl E) elt (te W)) (q0:∀c Z H,WX c Z H->X.stack=X.env::X.outer/\RX X c Z H) (hs:∀x,Bx iter X.env x=pure x) :
 PE X (.ListComp elt [⟨tg,iter,ifs,0⟩] scope pos) (aAV WX k caps wi g tt te):=by intro G s Z H Q I h;rw[eval_ListComp];refine DD (use:=none) rfl hs (fK λn M=>I.ok.has n (U.free n M)) U.kind U.loc (thn (hi G s Z H _ I h) λxv s1 h1=>thn h1 λq4 s2 h2=>?_);obtain⟨it,fp,tn,J0,H2,e,I2,T,q3,f2,hw⟩:=h2;subst e;exact sK (RR:=λacc C=>Hm (Au X.prog X.w) X.A X.xe none (EP X G Z Q) acc C) (Q:=Q) U hc I2 T q3 f2 q1 q0 hw (λD C s' H' m a cls T I M _ L r nw hx=>sL I M L r nw hx) λD C s' H' m J0 M _ L q=>⟨m,M,λh' q2=>⟨.ref D,H',L Z s' h' J0 q2,rfl,q⟩⟩
theorem lW{i:Nat}{x:Str}{L U:Cf}(CS:bX X scope k caps N')(hc:X.calm=true)(hi:PI X tg iter wi)
 (q1:∀C s₀ H₀ ex,PG (bI X scope N' C s₀ H₀ ex) tg g/\PTs (bI X scope N' C s₀ H₀ ex) ifs tt/\∀pl E W,BE (Au X.prog X.w) X.A (bI X scope N' C s₀ H₀ ex).env E->Rs ((bI X scope N' C s₀ H₀ ex).inTry pl E) W->PE ((bI X scope N' C s₀ H₀ ex).inTry pl E) elt (te W)) (q0:∀c Z H,WX c Z H->X.stack=X.env::X.outer/\RX X c Z H) (hs:∀x,Bx iter X.env x=pure x)
 (hN:X.N.Nodup) (q2:X.N[i]? = some x) (hx:Loc X.env.scope x) (hf:X.fn x=true\/X.env.scope.names.lookup x=some .local) :
 PS X (.Assign [.Name x L] (.ListComp elt [⟨tg,iter,ifs,0⟩] scope pos) U) (aFb (aAV WX k caps wi g tt te) (nQ i)):=by
 have hb:∃b,F3 (.ListComp elt [⟨tg,iter,ifs,0⟩] scope pos) (some (.Name x L)) U.line X.env=pure b:=⟨_,rfl⟩
 obtain⟨b,hb⟩:=hb;cases b with
 | false=>exact lK hN q2 hx (pX CS hc hi q1 q0 hs) hb hf|true=>intro G s Z H D I h;rw[exec_Assign_Name_used x L _ U hb];refine Aa (CH (Aa ?_));show Ao _ _ (comprehension (.ListComp elt [⟨tg,iter,ifs,0⟩] scope pos) scope X.env (firstIterPos [⟨tg,iter,ifs,0⟩] pos) (newList []) (firstAsync [⟨tg,iter,ifs,0⟩]) (firstIter [⟨tg,iter,ifs,0⟩] X.env) (some (DQ (.Name x L) X.env)) >>= λ_=>pure ()) _ _ s;refine Aa (DD (use:=some (DQ (.Name x L) X.env)) rfl hs (fK λn hn=>I.ok.has n (CS.free n hn)) CS.kind CS.loc (thn (hi G s Z H _ I h) λxv s1 h1=>thn h1 λq7 s2 h2=>?_));obtain⟨it,fp,tn,J0,H2,e,I2,T,q6,f2,hw⟩:=h2;subst e;refine sK (Q:=λv H'=>D.nx (Z.set i (some v)) H') (RR:=λacc C=>Hm (Au X.prog X.w) X.A X.xe (some (DQ (.Name x L) X.env)) (λ_ s'=>Ao (Au X.prog X.w) X.A (pure ()) (λ_ s'=>Ao (Au X.prog X.w) X.A (pure Flow.next) (SP X G D) X.xe s') X.xe s') acc C) CS hc I2 T q6 f2 q1 q0 hw (λD C s' H' m a cls T I hn _ M r nw hx=>sL I hn M r nw hx) λD' C s' H' m J0 hn lt M q=>?_;show Ao _ _ (DQ (.Name x L) X.env (.ref D')) _ _ s';refine Ff (nP (v:=V.ref D') J0 hN q2 hx rfl (λq5 J' q4=>?_) hf);obtain⟨a,sb,ha⟩:=q4;refine⟨m,hn.sameBut sb ?_,λh' q3=>?_⟩;rcases ha with z|z;rw[z];exact B9 (Fv I2.lt lt);exact B9 (Fv (I2.cellLt z) lt);exact Ar (Ar ⟨_,H',M _ q5 h' J' q3,q⟩)
end
end L2
noncomputable section
set_option maxRecDepth 100000
namespace L2
open PySem PySem.Spec PyProof.Rows PySem.W
section
variable {prog:A5} {w:AM} {A:AY} {E:Value->Ad->Prop} {K:Ai} {h:Heap} {g:Array Fd} {d:HC} {t:Nat} {os:Eb} {a C:Addr} {o:Obj}
theorem aAX{tk:HS}{Q:PySem.Fin->Ad->Prop}(X:K.In h)(I:InstAt h a o C none)(g3:DE K (.ref C) "__class__" = some (some (.builtin "object.__class__")))(hm:HG K C (.type "object")=some true)(U:Q (.done (.ret (.ref C))) ⟨h,g,d,t,os⟩) :
 Ao (Au prog w) A (DR.«object.__getattribute__» ⟨[.ref a,.str "__class__" tk],[]⟩) Q E ⟨h,g,d,t,os⟩:=by
 have M:=I.at_;have L:=I.cls;have q:(⟨h,g,d,t,os⟩:Ad).TypeIs (.builtin "object.__class__") "getset_descriptor" := El;have f5:=El;have f6:=F.slot_gs_get.lookup;have f7:=F.slot_gs_set.lookup
 repeat (any_goals (first|assumption|(with_reducible refine AZ M ?_;rw[L])|with_reducible refine(Fw X g3).at ?_|wp_step))
 refine class_get (s:=⟨h,g,d,t,os⟩) X I hm ?_
 repeat (any_goals (first|assumption|wp_step))
theorem aAY{M:EC}{q:Value}{Q:Unit->Ad->Prop}(X:K.In h)(I:InstAt h a o C none)(hb:HH K (.ref C) (.type "BaseException")=some true)(hq:Q () ⟨h,g,d,t,os⟩) :
 Ao M A (FA "BaseException.__getattribute__" ⟨[.ref a,q],[]⟩) Q E ⟨h,g,d,t,os⟩:=by
 have W:builtinKind "BaseException.__getattribute__" = some .slot:=by decide +kernel
 have L:splitId "BaseException.__getattribute__" = some ("BaseException", "__getattribute__"):=by decide +kernel
 have ha:=F.args_bexc_ga (.ref a) q;have U:Looks M h (isInstance (.ref a) (.type "BaseException")) true:=(I.type (M:=M)).andThen (looks_subIn X hb);simp only[FA,W,L];refine Aa (U.at ?_)
 repeat (first|wp_step)
 exact hq
theorem aDk{tk:HS}{R:Hy->Ad->Prop}(X:K.In h)(I:InstAt h a o C none)(hb:HH K (.ref C) (.type "BaseException")=some true)(g3:DE K (.ref C) "__class__" = some (some (.builtin "object.__class__")))(hm:HG K C (.type "object")=some true)(q:R (.ok (.ret (.ref C))) ⟨h,g,d,t,os⟩) :
 D8 (Au prog w) A (.call (.builtin "BaseException.__getattribute__") ⟨[.ref a,.str "__class__" tk],[]⟩) R ⟨h,g,d,t,os⟩:=
 codeAny_call_builtin Em.ga.plain F.entry_bexc_ga (aAY X I hb (aAX X I g3 hm q))
theorem aIc{tk:HS}{L q:Bool}{Q:Value->Ad->Prop}(X:K.In h)(I:InstAt h a o C none)(hb:HH K (.ref C) (.type "BaseException")=some true)(g1:DE K (.ref C) "__getattribute__" = some (some (.builtin "BaseException.__getattribute__")))(g2:DE K (.ref C) "__getattr__" = some none)
 (g3:DE K (.ref C) "__class__" = some (some (.builtin "object.__class__"))) (hm:HG K C (.type "object")=some true) (hq:Q (.ref C) ⟨h,g,d,t,os⟩) :
 Ao (Au prog w) A (getAttrBy (.ref a) (.str "__class__" tk) L q) Q E ⟨h,g,d,t,os⟩:=by
 have W:=I.at_;have U:=I.cls;have f3:=Em.ga.bind (.ref a);have q0:(q&&onTheHeap (C0 "BaseException.__getattribute__"))=false:=by cases q <;> rfl
 have M:(C0 "BaseException.__getattribute__" == C0 "object.__getattribute__")=false:=by decide +kernel
 have q1:(onTheHeap (AA C)&&C0 "BaseException.__getattribute__" == C0 "object.__getattribute__")=false:=by rw[M];rfl
 repeat (any_goals (first|assumption|(with_reducible refine AZ W ?_;rw[U])|with_reducible refine(Fw X g1).at ?_|with_reducible refine(Fw X g2).at ?_|wp_step))
 refine aDk X I hb g3 hm ?_
 repeat (any_goals (first|assumption|wp_step))
theorem aDl{Q:Option Value->Ad->Prop}(X:K.In h)(I:InstAt h a o C none)(hb:HH K (.ref C) (.type "BaseException")=some true)(g1:DE K (.ref C) "__getattribute__" = some (some (.builtin "BaseException.__getattribute__")))(g2:DE K (.ref C) "__getattr__" = some none)
 (g3:DE K (.ref C) "__class__" = some (some (.builtin "object.__class__"))) (hm:HG K C (.type "object")=some true) (q:Q (some (.ref C)) ⟨h,g,d,t+1,os⟩):Ao (Au prog w) A (getAttr? (.ref a) "__class__") Q E ⟨h,g,d,t,os⟩:=by
 unfold getAttr? getAttrBy?
 repeat (any_goals (first|assumption|with_reducible apply aIc X I hb g1 g2 g3 hm|wp_step))
end
structure XC (K:Ai) (C:Addr):Prop where
 isc:(clsIn K C).isSome=true
 hb:HH K (.ref C) (.type "BaseException")=some true
 g1:DE K (.ref C) "__getattribute__" = some (some (.builtin "BaseException.__getattribute__"))
 g2:DE K (.ref C) "__getattr__" = some none
 g3:DE K (.ref C) "__class__" = some (some (.builtin "object.__class__"))
 hm:HG K C (.type "object")=some true
theorem sM{K:Ai}{a C:Addr}(c:XC K C):KitX K (.ref a) (.ref C) (λh=>∃o,InstAt h a o C none) where
 ty:=λ_ _ _ ⟨_,I⟩=>I.type
 it:=λ_ _ X _=>by obtain⟨U,L⟩:=Br.mp c.isc;unfold clsIn at L;split at L;rename_i c' d' M q1 W;intro A' Q' E' s' k q;unfold isType loadHead;exact Aa (wpAny_loadPart (k _ _ (X _ _ W)) (Ar q));cases L
 ne:=λh tp dd q2 n sl X q0=>by obtain⟨U,L⟩:=Br.mp c.isc;refine Bool.eq_false_iff.mpr λq=>?_;have e:C=tp:=Value.ref.inj (beq_iff_eq.mp q);subst e;unfold clsIn at L;split at L;rename_i c' d' M q1 W;have z:=(X _ _ W).symm.trans q0;cases z;cases L
 ca:=λ{prog w A E Q s} X ⟨o,I⟩ k=>by obtain⟨h,g,d,t,os⟩:=s;exact aDl X I c.hb c.g1 c.g2 c.g3 c.hm k
end L2
end
namespace Hp
open PySem PySem.Spec PyProof.Rows L2
noncomputable def Rr(K:Fg)(H H':Hp)(Y:Addr->Prop)(r:Rt)(u:V):Prop:=
 if r.2.1=true then ∃a xs ds,u=.ref a/\r.1=.lst ds/\H a=none/\H' a=some (.lst xs)/\Reps K H' (λb=>b=a\/Y b\/(r.2.2=false/\H b≠none)) ds xs
 else Rep K H' (λb=>Y b\/(r.2.2=false/\H b≠none)) r.1 u
noncomputable def xE(K:Fg)(H:Hp)(E:XK):D->Prop
 | .err c fs=>∀(C1:Addr) (H':Hp),Db K AF c=some (some (.ref C1))->Tk K H'->aG H H'->E (exD C1 fs) none H'|_=>False
noncomputable def spF(K:Fg)(P:Pg)(n:Nat)(f:Nat):Sp:=λvs H Q E=>∃(ds:List D) (Y:Addr->Prop),(∀a,Y a->H a≠none)/\Reps K H Y ds vs/\RE (xE K H E) (call P n f ds) λr=>∀u H',Tk K H'->aG H H'->Rr K H H' Y r u->Q u H'
abbrev NX:D->Prop:=λ_=>False
noncomputable def spL(K:Fg)(P:Pg)(n:Nat)(f:Nat):Sp:=λvs H Q _=>jY P f=true/\∃(cs ds:List D) (p:Addr) (xs us:List V) (Y:Addr->Prop),vs=.ref p::us/\(∀a,Y a->H a≠none)/\H p=some (.lst xs) /\
 Reps K H (λb=>b=p\/Y b) cs xs/\Reps K H (λb=>b=p\/Y b) ds us/\RE NX (call P n f (.err ⟨#[]⟩ cs::ds)) λr=>∃d cs',aAK r.1=some (d,cs')/\∀(u:V) (H':Hp) (R2:Addr->Prop) (xs':List V),Tk K H'->Kp (λb=>b=p) H H'->R2 p->(∀b,R2 b->b=p\/H b=none)->H' p=some (.lst xs') ->
  Reps K H' (λb=>R2 b\/Y b) cs' xs'->(if r.2.1=true then ∃a ys es,u=.ref a/\d=.lst es/\H a=none/\R2 a/\H' a=some (.lst ys)/\Reps K H' (λb=>R2 b\/Y b\/(r.2.2=false/\H b≠none)) es ys
   else Rep K H' (λb=>R2 b\/Y b\/(r.2.2=false/\H b≠none)) d u)->Q u H'
noncomputable def spA(K:Fg)(P:Pg)(n:Nat)(f:Nat):Sp:=λvs H Q E=>spF K P n f vs H Q E\/spL K P n f vs H Q E
noncomputable def bltNames:List Str:=["len", "list", "tuple", "min", "max", "abs", "int", "str", "sum", "all", "any", "sorted", "bool", "range", "zip", "enumerate", "reversed", "set", "isinstance", "dict", "repr", "ValueError"]
structure oI (K:Fg) (mg:Str->Option Value) (cls:List Str) (c:Str) (ab:List Cl) (C:Addr):Prop where
 bd:mg c=some (.ref C)
 ns:Db K AF c=some (some (.ref C))
 ex:Be K C bmV "ValueError.__new__" = true
 xc:XC K C
 ve:C6 K (.ref C) (.type "ValueError")=some (ab.contains .tValueError)
 ow:∀x∈cls,∃C2,mg x=some (.ref C2)/\C6 K (.ref C) (.ref C2)=some (ab.contains (.own x))/\(ab.contains (.own x)=true->kF K C C2=true/\Be K C2 bmV "ValueError.__new__" = true)
structure Md (X:Cx) (P:Pg) (Γ:Ct) (n:Nat):Prop where
 fn:∀(f:Nat) (x:Str),Γ.fns[f]? = some x->∃fa fd ps,X.mg x=some (.ref fa)/\Da X.K (.ref fa)=true/\iH X.K fd ps []/\nJ X.prog X.w X.K X.mg X.base (CX1 X.prog X.w) n fa fd ps (spA X.K P n f)
 blt:∀x∈bltNames,X.mg x=none
 cns:∀(x:Str) (d:D),Γ.cns.lookup x=some d->∃u v,X.mg x=some u/\bC v u/\∀H ex,Rep X.K H ex d v
 tab:∀(i:Nat) (x:Str),Γ.tbs[i]? = some x->∃a t,X.mg x=some (.ref a)/\P.tabs[i]? = some t/\oG X.prog X.w X.K a t
 exc:∀(c:Str) (ab:List Cl),P.above.lookup c=some ab->∃C,oI X.K X.mg Γ.cls c ab C
 rsd:∀c∈Γ.rsd,∃ab,P.above.lookup c=some ab
 cls:∀x∈Γ.cls,∃C2,X.mg x=some (.ref C2)
structure Mc (X:Cx) (P:Pg) (Γ:Ct) (n:Nat):Prop where
 md:Md X P Γ n
 N:X.N=Γ.N
 nd:X.N.Nodup
 sc:X.env.scope.names=Γ.sc
 calm:X.calm=true
 room:jC n X.A
 own:BE (Au X.prog X.w) X.A X.env X.xe
 st:∀x:Str,rZ Γ x=true->X.fn x=true\/X.env.scope.names.lookup x=some .local
 fk:X.env.scope.kind=.function
 stk:Γ.fn=true->X.stack=X.env::X.outer
section
variable {X:Cx} {P:Pg} {Γ:Ct} {n:Nat}
theorem Mc.inTry(M:Mc X P Γ n){G:List (Addr×Obj)}{E:Value->Ad->Prop}(h:BE (Au X.prog X.w) X.A X.env E):Mc (X.inTry G E) P Γ n:=
 ⟨⟨M.md.fn,M.md.blt,M.md.cns,M.md.tab,M.md.exc,M.md.rsd,M.md.cls⟩,M.N,M.nd,M.sc,M.calm,M.room,h,M.st,M.fk,M.stk⟩
theorem Mc.units(M:Mc X P Γ n):X.A.units+200<GD:=by have:=M.room.un;omega
theorem Mc.vis(M:Mc X P Γ n){x:Str}(h:aAL Γ x=true):Vis X.env.scope x:=by
 unfold aAL at h;unfold Vis;rw[M.sc];cases q:Γ.sc.lookup x with
 | none=>rw[q] at h;cases h|some k=>rw[q] at h;cases k <;> first|exact .inl rfl|exact .inr (.inl rfl)|exact .inr (.inr rfl)|cases h
theorem Mc.loc(M:Mc X P Γ n){x:Str}(h:rZ Γ x=true):L2.Loc X.env.scope x:=by
 unfold rZ at h;unfold L2.Loc;rw[M.sc];cases q:Γ.sc.lookup x with
 | none=>rw[q] at h;cases h|some k=>rw[q] at h;cases k <;> first|exact .inl rfl|exact .inr rfl|cases h
theorem Mc.gl(M:Mc X P Γ n){x:Str}(h:bR Γ x=true):Gl X x:=by
 unfold bR at h;unfold Gl;show X.env.scope.names.lookup x=_;rw[M.sc];cases q:Γ.sc.lookup x with
 | none=>rw[q] at h;cases h|some k=>rw[q] at h;cases k <;> first|rfl|cases h
theorem aF{x:Str}(h:aZ x=true):(x==("__debug__" : Str))=false:=by unfold aZ at h;simp only[bA,Dc] at h;exact h.1
theorem eL{x:Str}(h:aZ x=true):(x==("__classdict__" : Str))=false:=by unfold aZ at h;simp only[bA,Dc] at h;exact h.2
theorem aFC:∀{d d':D},eqK d d'=true->d=d':=by intro d d' h;cases d <;> cases d' <;> simp[eqK] at h <;> first|rfl|(subst h;rfl)
noncomputable def aK:Ag->Bool
 | .Starred _ _=>false|.Slice _ _ _ _=>false|.Set _ _ _=>false|_=>true
theorem sN{α:Type}{o:Option α}{f:α->Bool}(h:oB o f=true):∃a,o=some a/\f a=true:=by
 cases o with
 | none=>cases h|some a=>exact⟨a,rfl,h⟩
theorem aC{α:Type}{q:α->Prop}{o:Option { a:α // q a }}{f:α->Bool}(h:oS o f=true):∃a,q a/\f a=true:=by
 cases o with
 | none=>cases h|some a=>exact⟨a.1,a.2,h⟩
theorem dic_of{ks vs:Es}{e:Ag}(h:aM Γ (.dic ks vs) e=true):(ks=.nil/\vs=.nil/\∃p,e=.Dict [] [] p)\/∃a b,(ks=.cons a .nil/\vs=.cons b .nil)/\∃r:Ag×Ag,(∃p,e=.Dict [some r.1] [r.2] p)/\aM Γ a r.1=true/\aM Γ b r.2=true:=by
 rcases ks with _|⟨a,_|⟨_,_⟩⟩
 rcases vs with _|⟨_,_⟩
 obtain⟨_,⟨p,rfl⟩,_⟩:=aC h;exact .inl ⟨rfl,rfl,p,rfl⟩;cases h;rcases vs with _|⟨b,_|⟨_,_⟩⟩
 cases h;obtain⟨r,⟨p,rfl⟩,g⟩:=aC h;obtain⟨q,I⟩:=(bA _ _).mp g;exact .inr ⟨a,b,⟨rfl,rfl⟩,r,⟨p,rfl⟩,q,I⟩;cases h;cases h
theorem aH{c:E}{e:Ag}(h:aM Γ c e=true):aK e=true:=by
 cases c with
 | c d=>rcases(Cw _ _).mp (show(oS (asC e) (eqC d)||oS (asN e) λx=>bR Γ x&&aZ x&&oB (Γ.cns.lookup x) (eqK d))=true from h) with h|h;obtain⟨_,⟨_,_,rfl⟩,_⟩:=aC h;rfl;obtain⟨_,⟨_,rfl⟩,_⟩:=aC h;rfl
 | v i=>obtain⟨_,⟨_,rfl⟩,_⟩:=aC h;rfl|op o a b=>obtain⟨_,⟨_,rfl⟩,_⟩:=aC h;rfl|neg a=>obtain⟨_,⟨_,rfl⟩,_⟩:=aC h;rfl|nt a=>obtain⟨_,⟨_,rfl⟩,_⟩:=aC h;rfl|an a b=>obtain⟨_,rfl,_⟩:=aC h;rfl|orr a b=>obtain⟨_,rfl,_⟩:=aC h;rfl|ife t a b=>obtain⟨_,⟨_,rfl⟩,_⟩:=aC h;rfl|cmp o a b=>obtain⟨_,⟨_,rfl⟩,_⟩:=aC h;rfl|cmp2 q I a b c=>obtain⟨_,⟨_,rfl⟩,_⟩:=aC h;rfl|idx a b=>obtain⟨_,⟨_,rfl⟩,_⟩:=aC h;rfl|sli a up k=>obtain⟨_,⟨_,rfl⟩,_⟩:=aC h;rfl|tup es=>obtain⟨_,⟨_,_,rfl⟩,_⟩:=aC h;rfl|lst es=>obtain⟨_,⟨_,rfl⟩,_⟩:=aC h;rfl|call f es=>obtain⟨_,⟨_,_,rfl⟩,_⟩:=aC h;rfl|bi b es=>obtain⟨_,⟨_,_,rfl⟩,_⟩:=aC h;rfl|isi a cs=>obtain⟨_,⟨_,_,rfl⟩,_⟩:=aC h;rfl|comp k caps t it cond elt=>obtain⟨_,⟨_,rfl⟩,_⟩:=aC h;rfl|tget i a=>obtain⟨_,⟨_,_,rfl,_⟩,_⟩:=aC h;rfl|row i a=>obtain⟨_,⟨_,rfl⟩,_⟩:=aC h;rfl|hid i a=>have h:=(bA _ _).mp h;cases e <;> first|rfl|exact absurd h.1 bN
 | lix i k=>obtain⟨_,⟨_,rfl⟩,_⟩:=aC h;rfl|dic ks vs=>rcases dic_of h with⟨_,_,_,rfl⟩|⟨_,_,_,_,⟨_,rfl⟩,_⟩ <;> rfl
 | isx _ _=>obtain⟨_,⟨_,_,rfl⟩,_⟩:=aC h;rfl
theorem aA{e:Ag}{es:List Ag}{env:En}(h:aK e=true):AI (e::es) env=(false,C4 e env)::AI es env:=by cases e <;> first|rfl|cases h
theorem fU:∀{cs:Es} {es:List Ag},chkEs Γ cs es=true->es.all aK=true
 | .nil,[],_=>rfl|.nil,_::_,h=>by cases h|.cons _ _,[],h=>by cases h|.cons c cs,e::es,h=>by simp only[chkEs,bA] at h;rw[Dh,aH h.1,fU h.2];rfl
theorem cI{q:Cf}{env:En}:∀{es:List Ag},es.all aK=true->(CW q (AI es env)).any (·.1)=false
 | [],_=>rfl|e::es,h=>by rw[Dh,bA] at h;rw[aA h.1];show(false||(CW q (AI es env)).any (·.1))=false;rw[cI h.2];rfl
theorem dU{e:Ag}(h:aK e=true):wG e:=by intro o i;cases e <;> first|rfl|cases h
theorem cX{e:Ag}{env:En}(h:aK e=true):∀x,Bx e env x=pure x:=by intro x;cases e <;> first|rfl|cases h
theorem fV{op:CmpOp}{e:Ag}(h:aK e=true):ED op e=false:=by cases e <;> first|rfl|cases h
variable {RT Y J:Addr->Prop} {Z:Sg} {pos:Cf}
abbrev WE(X:Cx)(P:Pg)(n:Nat)(RT Y J:Addr->Prop)(Z:Sg)(c:E):TE:=wE X P (call P n) RT Y J Z c
abbrev WT(X:Cx)(P:Pg)(n:Nat)(RT Y J:Addr->Prop)(Z:Sg)(c:E):TT:=wT X P (call P n) RT Y J Z c
abbrev WA(X:Cx)(P:Pg)(n:Nat)(RT Y J:Addr->Prop)(Z:Sg)(c:Es):TA:=wA X P (call P n) RT Y J Z c
theorem RE.bind'{α q:Type}{x:R α}{f:α->R q}{p:q->Prop}{w:D->Prop}(h:RE w (x >>= f) p):RE w x λa=>RE w (f a) p:=by rwa [RE.bind] at h
theorem wE.one{a:E}{ZV:L2.St}{H:Hp}{p:Vl->Prop}{Q:V->Hp->Prop}(S:Sx X.K RT Y J Z ZV H)(h:RE (wx X ZV H) (ev P (call P n) Z a) p)
 (f:∀x u H',p x->Tk X.K H'->Sx X.K RT Y J Z ZV H'->Ro X.K RT Y J Z ZV H H' x u->Q u H'):WE X P n RT Y J Z a ZV H Q:=
 ⟨S,h.mono λx q u H' t r=>f x u H' q t (S.grow r.1 t) r⟩
theorem aKC{o:Operator}{a b:E}{W eb:Ag}(ha:PE X W (WE X P n RT Y J Z a))(hb:PE X eb (WE X P n RT Y J Z b)):PE X (.BinOp W o eb pos) (WE X P n RT Y J Z (.op o a b)):=by
 intro G s ZV H Q I hw;obtain⟨S,h⟩:=hw;have h:=RE.bind' (show RE _ (ev P (call P n) Z a >>= λx=>ev P (call P n) Z b >>= λy=>opD o x y) _ from h);refine Hn (thn (ha G s ZV H (λux H1=>WE X P n RT Y J Z b ZV H1 λuy q=>∃x y,Sx X.K RT Y J Z ZV q/\aG H q/\Rv X.K RT Y J Z ZV q x ux/\Rv X.K RT Y J Z ZV q y uy/\(x.fr=true->∃a xs,ux=.ref a/\q a=some (.lst xs))/\RE (λ_=>True) (opD o x y) (Wn X RT Y J Z ZV H Q)) I
  (wE.one S h λx u H1 M t1 S1 r1=>wE.one S1 ((RE.bind' M).at r1.1) λy u' q U t2 S2 L=>⟨x,y,S2,r1.1.trans L.1,(r1.rv S).grow L.1,L.rv S1,λhf=>?_,U.weak λ_ _=>trivial⟩)) λv s1 ⟨x',H1,I1,rx,q1⟩=>thn (hb G s1 ZV H1 _ I1 q1) λu s2 ⟨y',q,I2,ry,q2⟩=>?_)
 have:=r1.2;rw[if_pos hf] at this;obtain⟨a',xs,ds,e1,_,_,e4,_⟩:=this;exact⟨a',xs,e1,L.1 _ _ e4⟩;obtain⟨x,y,S2,sm,M,U,hf,h⟩:=q2;exact sC I2 S2 rx ry M U hf (h.mono λv hv u H' t r=>hv u H' t (r.from sm))
theorem aId{a:E}{I:Ag}(M:PE X I (WE X P n RT Y J Z a)):PE X (.UnaryOp .USub I pos) (WE X P n RT Y J Z (.neg a)):=by refine(aHB aFi M).imp λZV H Q t ⟨S,h⟩=>?_;have h:=RE.bind' (show RE _ (ev P (call P n) Z a >>= λx=>(match x.d with|.int i=>R.ok (Vl.cl (.int (-i)))|_=>.bad)) _ from h);refine wE.one S h λx u H1 q U S1 r1=>?_;split at q;rename_i i L;exact⟨i,(r1.rv S).int L,λt'=>q _ _ t' (Ro.cl r1.1 rfl)⟩;exact q.elim
theorem aAZ{H:Hp}{ZV:L2.St}{x:Vl}{u:V}{k:Bool}(I:Rv X.K RT Y J Z ZV H x u)(h:aAI x.d=some k):aCP X.K u H k:=by
 unfold aAI at h;split at h;rename_i d;rw[I.non d];exact(Ah h).symm;rename_i b d;rw[I.bl d];exact(Ah h).symm;rename_i i d;rw[I.int d];exact(Ah h).symm;rename_i z d;by_cases L:z.length<=lim;rw[if_pos L] at h;rw[I.str d];refine⟨dS L,?_⟩;rw[<-Ah h];cases M:z.length with
 | zero=>rfl|succ m=>simp;omega
 rw[if_neg L] at h;cases h;rename_i ds d;obtain⟨a,xs,e,q,r⟩:=I.tup d;rw[e];refine .inr (.inl ⟨xs,q,?_⟩);rw[<-Ah h];have:=r.length;cases ds <;> cases xs <;> first|rfl|(simp at this)
 rename_i ds d;obtain⟨a,xs,e,q,_,r⟩:=I.lst d;rw[e];refine .inl ⟨xs,q,?_⟩;rw[<-Ah h];have:=r.length;cases ds <;> cases xs <;> first|rfl|(simp at this)
 cases h
theorem RE.tru{x:Vl}{p:Bool->Prop}{w:D->Prop}(h:RE w (eK x) p):∃k,aAI x.d=some k/\p k:=by
 unfold eK at h;cases q:aAI x.d with
 | none=>rw[q] at h;exact h.elim|some k=>rw[q] at h;exact⟨k,rfl,h⟩
theorem aIe{a:E}{M:Ag}(ha:PE X M (WE X P n RT Y J Z a)):PE X (.UnaryOp .Not M pos) (WE X P n RT Y J Z (.nt a)):=by intro G s ZV H Q I hw;obtain⟨S,h⟩:=hw;have h:=RE.bind' (show RE _ (ev P (call P n) Z a >>= λx=>eK x >>= λk=>R.ok (Vl.cl (.bl (!k)))) _ from h);refine UnaryOp_ (thn (ha G s ZV H (λu H1=>∃k,aCP X.K u H1 k/\Q (.bl (!k)) H1) I (wE.one S h λx u H1 hx t1 S1 r1=>?_)) λv s1 ⟨u,H1,W,ru,k,L,q⟩=>?_);obtain⟨k,L,hp⟩:=RE.tru (RE.bind' hx);exact⟨k,aAZ (r1.rv S) L,(show Wn X RT Y J Z ZV H Q (Vl.cl (.bl (!k))) from hp) _ _ t1 (Ro.cl r1.1 rfl)⟩;refine not_of (thn (aAB G s1 ZV H1 u v (λk' H'=>k'=k/\H'=H1) W ru ⟨k,L,rfl,rfl⟩) λb s2 ⟨U,I2,e1,e2⟩=>?_);subst e1 e2;exact⟨.bl (!b),U,I2,rfl,q⟩
theorem lX{c:E}{e:Ag}(I:PE X e (WE X P n RT Y J Z c))(M:∀q,isTrue e X.env q=(do let v<-q;HD e.pos;Fh [v] (truthy v)))
 (L:∀w p,RE w (tst P (call P n) Z c) p->RE w (ev P (call P n) Z c) λx=>RE w (eK x) p):PT X e (WT X P n RT Y J Z c):=by refine(aAC I M).imp λZV H Q t ⟨S,h⟩=>?_;refine wE.one S (L _ _ h) λx u H1 hx t1 S1 r1=>?_;obtain⟨k,U,W⟩:=RE.tru hx;exact⟨k,aAZ (r1.rv S) U,λt'=>W _ t' r1.1⟩
theorem aIf{a b:E}{L M:Ag}{r:List Ag}(U:PE X L (WE X P n RT Y J Z a))(hb:PE X (.BoolOp .And (M::r) pos) (WE X P n RT Y J Z b)):PE X (.BoolOp .And (L::M::r) pos) (WE X P n RT Y J Z (.an a b)):=by refine(aEY U hb).imp λZV H Q t ⟨S,h⟩=>?_;have h:=RE.bind' (show RE _ (ev P (call P n) Z a >>= λx=>(match x.d with|.bl true=>ev P (call P n) Z b|.bl false=>R.ok (Vl.cl (.bl false))|_=>.bad)) _ from h);refine wE.one S h λx u H1 q t1 S1 r1=>?_;split at q;rename_i I;refine⟨true,(r1.rv S).bl I,?_⟩;rw[if_pos rfl];exact⟨S1,(q.at r1.1).mono λv W u H' t r=>λ_=>W u H' t (r.from r1.1)⟩;rename_i I;refine⟨false,(r1.rv S).bl I,?_⟩;rw[if_neg bN];exact λt'=>q _ _ t' (Ro.cl r1.1 rfl);exact q.elim
theorem aEh{a b:E}{L M:Ag}{r:List Ag}(U:PE X L (WE X P n RT Y J Z a))(hb:PE X (.BoolOp .Or (M::r) pos) (WE X P n RT Y J Z b)):PE X (.BoolOp .Or (L::M::r) pos) (WE X P n RT Y J Z (.orr a b)):=by refine(aHr U hb).imp λZV H Q t ⟨S,h⟩=>?_;have h:=RE.bind' (show RE _ (ev P (call P n) Z a >>= λx=>(match x.d with|.bl true=>R.ok (Vl.cl (.bl true))|.bl false=>ev P (call P n) Z b|_=>.bad)) _ from h);refine wE.one S h λx u H1 q t1 S1 r1=>?_;split at q;rename_i I;refine⟨true,(r1.rv S).bl I,?_⟩;rw[if_pos rfl];exact λt'=>q _ _ t' (Ro.cl r1.1 rfl);rename_i I;refine⟨false,(r1.rv S).bl I,?_⟩;rw[if_neg bN];exact⟨S1,(q.at r1.1).mono λv W u H' t r=>λ_=>W u H' t (r.from r1.1)⟩;exact q.elim
theorem aIg{t a b:E}{U L M:Ag}(ht:PT X U (WT X P n RT Y J Z t))(ha:PE X L (WE X P n RT Y J Z a))(hb:PE X M (WE X P n RT Y J Z b)):PE X (.IfExp U L M pos) (WE X P n RT Y J Z (.ife t a b)):=by
 refine(aAv ht ha hb).imp λZV H Q t0 ⟨S,h⟩=>?_;have h:=RE.bind' (show RE _ (tst P (call P n) Z t >>= λx=>if x=true then ev P (call P n) Z a else ev P (call P n) Z b) _ from h);refine⟨S,h.mono λk q H1 W s1=>?_⟩;cases k with
 | true=>rw[if_pos rfl] at q ⊢;exact⟨S.grow s1 W,(q.at s1).mono λv I u H' t r=>λ_=>I u H' t (r.from s1)⟩|false=>rw[if_neg bN] at q ⊢;exact⟨S.grow s1 W,(q.at s1).mono λv I u H' t r=>λ_=>I u H' t (r.from s1)⟩
noncomputable def w2(X:Cx)(P:Pg)(n:Nat)(RT Y J:Addr->Prop)(Z:Sg)(ZV:L2.St)(H:Hp)(p:Vl->Vl->Prop)(ux uy:V)(H2:Hp):Prop:=
 ∃x y,Sx X.K RT Y J Z ZV H2/\aG H H2/\Rv X.K RT Y J Z ZV H2 x ux/\Rv X.K RT Y J Z ZV H2 y uy/\p x y
theorem eB(M:Mc X P Γ n)(o:CmpOp):OpR X (BV o) (λL U H Q=>∃(Z:Sg) (ZV:L2.St) (x y:Vl) (k:Bool),Rv X.K RT Y J Z ZV H x L/\Rv X.K RT Y J Z ZV H y U/\bT o x.d y.d=some k/\Q (.bl k) H):=by intro G s ZV H L U v u Q I rx ry h;obtain⟨Z',W,x,y,k,hx,hy,hk,q⟩:=h;exact zR I M.units rx ry hx hy hk q
theorem aIh(M:Mc X P Γ n){o:CmpOp}{a b:E}{U I:Ag}(W:PE X U (WE X P n RT Y J Z a))(hb:PE X I (WE X P n RT Y J Z b))(q:aK I=true):PE X (.Compare U [o] [I] pos) (WE X P n RT Y J Z (.cmp o a b)):=by refine(vY (eB (RT:=RT) (Y:=Y) (J:=J) M o) W hb (fV q)).imp λZV H Q t ⟨S,h⟩=>?_;have h:=RE.bind' (show RE _ (ev P (call P n) Z a >>= λx=>ev P (call P n) Z b >>= λy=>(match bT o x.d y.d with|some k=>R.ok (Vl.cl (.bl k))|none=>.bad)) _ from h);refine wE.two S (h.mono λx L=>RE.bind' L) λx y ux uy H2 q t2 s2 S2 L hy=>?_;split at q;rename_i k hk;exact⟨Z,ZV,x,y,k,L,hy,hk,λt'=>q _ _ t' (Ro.cl s2 rfl)⟩;exact q.elim
theorem aBa(M:Mc X P Γ n){o:CmpOp}{a b:E}{U I:Ag}(W:PE X U (WE X P n RT Y J Z a))(hb:PE X I (WE X P n RT Y J Z b))(q:aK I=true):PT X (.Compare U [o] [I] pos) (WT X P n RT Y J Z (.cmp o a b)):=by refine(vZ (eB (RT:=RT) (Y:=Y) (J:=J) M o) W hb (fV q)).imp λZV H Q t ⟨S,h⟩=>?_;have h:=RE.bind' (show RE _ (ev P (call P n) Z a >>= λx=>ev P (call P n) Z b >>= λy=>(match bT o x.d y.d with|some k=>R.ok k|none=>.bad)) _ from h);refine wE.two S (h.mono λx L=>RE.bind' L) λx y ux uy H2 q t2 s2 S2 L hy=>?_;split at q;rename_i k hk;exact⟨Z,ZV,x,y,k,L,hy,hk,k,rfl,λt'=>q _ t' s2⟩;exact q.elim
theorem aIi{a b:E}{M q:Ag}(U:PE X M (WE X P n RT Y J Z a))(hb:PE X q (WE X P n RT Y J Z b))(I:aK q=true):PE X (.Subscript M q pos) (WE X P n RT Y J Z (.idx a b)):=by refine(rT lQ U hb (dU I)).imp λZV H Q t ⟨S,h⟩=>?_;have h:=RE.bind' (show RE _ (ev P (call P n) Z a >>= λx=>ev P (call P n) Z b >>= λy=>bW x y) _ from h);refine wE.two S (h.mono λx L=>RE.bind' L) λx y ux uy H2 I t2 s2 S2 L hy=>?_;exact oH t2 L hy (I.mono λv W u H' t r=>W u H' t (r.from s2))
theorem wX:PA X [] (WA X P n RT Y J Z .nil):=dG.imp λZV H Q t ⟨S,h⟩ t'=>h [] H t' (aG.refl H) rfl
theorem jF{c:E}{cs:Es}{e:Ag}{es:List Ag}(I:PE X e (WE X P n RT Y J Z c))(M:PA X es (WA X P n RT Y J Z cs))(L:aK e=true):PA X (e::es) (WA X P n RT Y J Z (.cons c cs)):=by
 refine(cD I M (aA L)).imp λZV H Q t ⟨S,h⟩=>?_;have h:=RE.bind' (show RE _ (ev P (call P n) Z c >>= λx=>evs P (call P n) Z cs >>= λxs=>R.ok (x::xs)) _ from h);refine wE.one S h λx u H1 W t1 S1 r1=>⟨S1,((RE.bind' W).at r1.1).mono λvs U us q t2 s2 r2 t'=>?_⟩
 exact U (u::us) q t' (r1.1.trans s2) ⟨u,us,rfl,(r1.rv S).grow s2,r2⟩
theorem pY:∀{cs:Es} {es:List Ag} {vs:List Vl},chkEs Γ cs es=true->evs P (call P n) Z cs=.ok vs->vs.length=es.length
 | .nil,[],vs,_,h=>by cases(show R.ok []=R.ok vs from h);rfl|.nil,_::_,_,h,_=>by cases h|.cons _ _,[],_,h,_=>by cases h|.cons c cs,e::es,vs,L,h=>by
  simp only[chkEs,bA] at L;have h:(ev P (call P n) Z c >>= λx=>evs P (call P n) Z cs >>= λxs=>R.ok (x::xs))=R.ok vs:=h;cases q:ev P (call P n) Z c with
  | ok x=>
   cases I:evs P (call P n) Z cs with
   | ok xs=>rw[q] at h;have h:(evs P (call P n) Z cs >>= λxs=>R.ok (x::xs))=R.ok vs:=h;rw[I] at h;cases(show R.ok (x::xs)=R.ok vs from h);rw[lC,lC,pY L.2 I]|exc z=>rw[q] at h;have h:(evs P (call P n) Z cs >>= λxs=>R.ok (x::xs))=R.ok vs:=h;rw[I] at h;cases h|bad=>rw[q] at h;have h:(evs P (call P n) Z cs >>= λxs=>R.ok (x::xs))=R.ok vs:=h;rw[I] at h;cases h
  | exc z=>rw[q] at h;cases h|bad=>rw[q] at h;cases h
theorem RE.with{α:Type}{x:R α}{p:α->Prop}{w:D->Prop}(h:RE w x p):RE w x λa=>x=.ok a/\p a:=by
 cases x with
 | ok a=>exact⟨rfl,h⟩|exc e=>exact h|bad=>exact h
theorem aIj{cs:Es}{es:List Ag}{k:Nat}(q:PA X es (WA X P n RT Y J Z cs))(I:chkEs Γ cs es=true)(W:es.length<=1000):PE X (.Tuple es k pos) (WE X P n RT Y J Z (.tup cs)):=by
 refine(pJ q).imp λZV H Q t ⟨S,h⟩=>?_;have h:=RE.bind' (show RE _ (evs P (call P n) Z cs >>= λvs=>R.ok (wJ vs)) _ from h);refine⟨S,h.with.mono λvs ⟨e,U⟩ us H1 t1 s1 r1=>?_⟩;have L:us.length<=sizeLine:=by rw[<-r1.length,pY I e,AW];omega
 exact⟨L,λp M t'=>(show Wn X RT Y J Z ZV H Q (wJ vs) from U) _ _ t' ((Ro.tup M rfl rfl r1.all).from s1)⟩
theorem aIk{cs:Es}{es:List Ag}(q:PA X es (WA X P n RT Y J Z cs))(I:chkEs Γ cs es=true)(hl:es.length<=1000):PE X (.List es pos) (WE X P n RT Y J Z (.lst cs)):=by
 refine(aAD q).imp λZV H Q t ⟨S,h⟩=>?_;have h:=RE.bind' (show RE _ (evs P (call P n) Z cs >>= λvs=>R.ok (rX vs)) _ from h);refine⟨S,h.with.mono λvs ⟨e,U⟩ us H1 W s1 r1=>?_⟩;have L:us.length<=sizeLine:=by rw[<-r1.length,pY I e,AW];omega
 exact⟨L,λp M t'=>(show Wn X RT Y J Z ZV H Q (rX vs) from U) _ _ t' ((Ro.fresh M t' rfl rfl (S.grow s1 W) r1.all).from s1)⟩
theorem wY:∀b:Bi,aAM b=true->B8 (hX b)=some (aEg b):=by intro b hb;cases b <;> first|kernel_rfl|cases hb
theorem cY:∀b:Bi,hX b∈bltNames:=by intro b;cases b <;> decide +kernel
theorem dQ:∀b:Bi,hX b ≠ "__name__" := by intro b;cases b <;> decide +kernel
theorem aKD(M:Mc X P Γ n){b:Bi}{cs:Es}{x:Str}{p:Cf}{e:Ag}{es:List Ag}(hb:aAM b=true)(hx:hX b=x)(U:bR Γ x=true)(W:aZ x=true)(L:PA X (e::es) (WA X P n RT Y J Z cs))(hp:(e::es).all aK=true) :
 PE X (.Call (.Name x p) (e::es) [] pos) (WE X P n RT Y J Z (.bi b cs)):=by
 subst hx;have q:aK e=true/\es.all aK=true:=by simpa using hp
 have body:∀(f:PE X (.Call (.Name (hX b) p) (e::es) [] pos) (tCB (rBi X b) (WA X P n RT Y J Z cs))),PE X (.Call (.Name (hX b) p) (e::es) [] pos) (WE X P n RT Y J Z (.bi b cs)):=λf=>f.imp λZV H Q t ⟨S,h⟩=>by have h:=RE.bind' (show RE _ (evs P (call P n) Z cs >>= λvs=>biD b vs) _ from h);refine⟨S,h.mono λvs hv us H1 t1 s1 r1=>?_⟩;exact sF hb (S.grow s1 t1) r1 (hv.mono λv hv u H' t r=>hv u H' t (r.from s1))
 refine body ?_;have r:=wV M.calm M.room.gd M.units b hb;have I:=wY b hb;cases b with
 | len=>exact rQ r (M.gl U) (M.md.blt _ (cY _)) I L (dQ _) (aF W) (aA q.1) (cI q.2)|min=>exact rQ r (M.gl U) (M.md.blt _ (cY _)) I L (dQ _) (aF W) (aA q.1) (cI q.2)|list=>exact gI r (M.gl U) (M.md.blt _ (cY _)) I L (dQ _) (aF W) (aA q.1) (cI q.2)|tuple=>exact gI r (M.gl U) (M.md.blt _ (cY _)) I L (dQ _) (aF W) (aA q.1) (cI q.2)|int=>exact gI r (M.gl U) (M.md.blt _ (cY _)) I L (dQ _) (aF W) (aA q.1) (cI q.2)
theorem aDm{ZV:L2.St}{H H1 H':Hp}{vs:List Vl}{r:Rt}{u:V}(S1:Sx X.K RT Y J Z ZV H1)(s1:aG H H1)(s':aG H1 H')(h:Rr X.K H1 H' (λb=>H1 b≠none/\exV RT Y J Z ZV (anyPa vs) (unionAl vs) b) r u) :
 Ro X.K RT Y J Z ZV H H' (eT vs r) u:=by
 obtain⟨d,fr,pa⟩:=r;have q:∀b,exV RT Y J Z ZV (eT vs (d,fr,pa)).pa (eT vs (d,fr,pa)).al b->(H1 b≠none/\exV RT Y J Z ZV (anyPa vs) (unionAl vs) b)\/(pa=false/\H1 b≠none):=by
  intro b z;have tk:=exV.trk S1 z;cases pa with
  | true=>exact .inl ⟨tk,z⟩|false=>exact .inr ⟨rfl,tk⟩
 have I:(eT vs (d,fr,pa)).fr=fr:=by unfold eT;split <;> rfl
 have L:(eT vs (d,fr,pa)).d=d:=by unfold eT;split <;> rfl
 refine⟨s1.trans s',?_⟩;rw[I];unfold Rr at h;cases fr with
 | true=>rw[if_pos rfl] at h ⊢;obtain⟨a,xs,ds,M,U,W,e4,rr⟩:=h;exact⟨a,xs,ds,M,by rw[L];exact U,s1.free W,e4,rr.weak λb z=>z.elim (λz=>.inl z) λz=>.inr (q b z)⟩|false=>rw[if_neg bN] at h ⊢;unfold Rv;rw[L];exact Rep.weak h q
theorem aBb{f:Nat}{cs:Es}{ZV:L2.St}{H:Hp}{Q:VK}(S:Sx X.K RT Y J Z ZV H)(h:RE (wx X ZV H) (ev P (call P n) Z (.call f cs)) (Wn X RT Y J Z ZV H Q)) :
 WA X P n RT Y J Z cs ZV H λus H1=>spA X.K P n f (us++[]) H1 (λv H'=>Tk X.K H'->Q v H') (λc _ H'=>RX X c ZV H'):=by
 have h:=RE.bind' (show RE _ (evs P (call P n) Z cs >>= λvs=>call P n f (vs.map (·.d)) >>= λr=>R.ok (eT vs r)) _ from h);refine⟨S,h.mono λvs W us H1 M s1 r1=>?_⟩;have S1:=S.grow s1 M;refine .inl ⟨vs.map (·.d),λb=>H1 b≠none/\exV RT Y J Z ZV (anyPa vs) (unionAl vs) b,λa z=>z.1,by rw[BH];exact r1.all.weak λa z=>z.2,((RE.bind' W).weak λx L=>?_).mono λr U u H' t' I rr _=>?_⟩;cases x with
 | err c fs=>exact λcls H' q t' I=>L H' t' (s1.trans I) cls q|_=>exact(L H1 M s1).elim
 exact(show Wn X RT Y J Z ZV H Q (eT vs r) from U) u H' t' (aDm S1 s1 I rr)
theorem aFD(M:Mc X P Γ n){f:Nat}{cs:Es}{x:Str}{p:Cf}{es:List Ag}(hf:Γ.fns[f]? = some x)(hg:bR Γ x=true)(ho:aZ x=true)(ha:PA X es (WA X P n RT Y J Z cs))(hp:es.all aK=true)(hc:chkEs Γ cs es=true) :
 PE X (.Call (.Name x p) es [] pos) (WE X P n RT Y J Z (.call f cs)):=by
 obtain⟨fa,fd,ps,h1,h2,h3,h4⟩:=M.md.fn f x hf;cases es with
 | cons e es=>
  have L:aK e=true/\es.all aK=true:=by simpa using hp
  intro G s ZV H Q I h;have U:=aBb h.1 h.2;refine Bu (eR I (M.gl hg) h1 ?_ (aF ho));refine EW (h₀:=X.base) I.ok.mod.kin h2 (thn (ha pos G s ZV H _ I U) λus s1 ⟨vs,H1,W,r,q⟩=>⟨W.kIn,?_⟩) (aA L.1) (cI L.2);exact thn (pU h4 M.room h3 .nil (sB X) W r q) λu s2 z=>EP.tk z
 | nil=>
  cases cs with
  | cons _ _=>cases hc|nil=>intro G s ZV H Q I h;have U:=(aBb h.1 h.2).2 [] H I.tk (aG.refl H) rfl;refine Bu (eR I (M.gl hg) h1 ?_ (aF ho));exact PySem.W.callWith_K0 I.kIn h2 (thn (pU (us:=[]) h4 M.room h3 .nil (sB X) I .nil U) λu s2 z=>EP.tk z)
theorem aFE(M:Mc X P Γ n){i:Nat}{a:E}{m x:Str}{p L:Cf}{I:Ag}(hm:m=("get" : Str))(hx:Γ.tbs[i]? = some x)(hg:bR Γ x=true)(ho:aZ x=true)(hl:(L.endLine==pos.line)=true)
 (ha:PE X I (WE X P n RT Y J Z a)) (hp:aK I=true):PE X (.Call (.Attribute (.Name x p) m L) [I] [] pos) (WE X P n RT Y J Z (.tget i a)):=by
 subst hm;obtain⟨b,t,U,W,h3⟩:=M.md.tab i x hx;refine(aDb h3 (M.gl hg) U (aF ho) ha hl (aA hp)).imp λZV H Q tk ⟨S,h⟩=>?_;have h:=RE.bind' (show RE _ (ev P (call P n) Z a >>= λx=>(match x.d,P.tabs[i]? with|.str k,some t=>R.ok (Vl.cl ((t.lookup k).getD .non))|_,_=>.bad)) _ from h);refine wE.one S h λy u H1 q t1 S1 r1=>?_;rw[W] at q;cases hd:y.d with
 | str k=>
  rw[hd] at q;have hu:u=.str k:=by have z:=r1.rv S;unfold Rv at z;rw[hd] at z;exact z
  exact⟨k,hu,λv hv t'=>(show Wn X RT Y J Z ZV H Q (Vl.cl ((t.lookup k).getD .non)) from q) v H1 t' (Ro.val r1.1 (hv H1))⟩
 | _=>rw[hd] at q;exact q.elim
theorem zW{c:Cl}{q:Value}{x:Str}(I:sG c=some q)(L:uV Γ c=some x):B8 x=some q/\x∈bltNames/\x ≠ "__name__" := by cases c <;> cases I <;> cases L <;> exact⟨by kernel_rfl,by decide +kernel,by decide +kernel⟩
theorem aIl(M:Mc X P Γ n){a:E}{c:Cl}{cv:Value}{f x:Str}{pf py:Cf}{U:Ag}(hf:f=("isinstance" : Str))(hg:bR Γ f=true)(hc:sG c=some cv)(hx:uV Γ c=some x)(W:bR Γ x=true)(q0:aZ x=true)
 (ha:PE X U (WE X P n RT Y J Z a)) (hp:aK U=true):PE X (.Call (.Name f pf) [U,.Name x py] [] pos) (WE X P n RT Y J Z (.isi a [c])):=by subst hf;intro G s ZV H Q I hw;obtain⟨S,h⟩:=hw;have h:=RE.bind' (show RE _ (ev P (call P n) Z a >>= λx=>(match isI [c] P x.d with|some k=>R.ok (Vl.cl (.bl k))|none=>.bad)) _ from h);obtain⟨b1,b2,b3⟩:=zW hc hx;refine Bu (eS I (M.gl hg) (M.md.blt _ (by decide +kernel)) (show B8 "isinstance" = some (.builtin "isinstance") by kernel_rfl) ?_ (by decide +kernel) (by decide +kernel));refine Ch ?_ (aA hp) rfl;rw[aA hp];show Ao _ _ (Fe ((false,C4 U X.env)::CW pos (AI [.Name x py] X.env))) _ _ s;refine Cq (thn (ha G s ZV H (λu H1=>∃y k,Rv X.K RT Y J Z ZV H1 y u/\isI [c] P y.d=some k/\Q (.bl k) H1) I (wE.one S h λy u H1 L t1 S1 r1=>?_)) λv s1 ⟨u,H1,I1,ru,y,k,L,hk,q⟩=>?_);split at L;rename_i k hk;exact⟨y,k,r1.rv S,hk,(show Wn X RT Y J Z ZV H Q (Vl.cl (.bl k)) from L) _ _ t1 (Ro.cl r1.1 rfl)⟩;exact L.elim;show Ao _ _ (Fe ((false,C4 (.Name x py) X.env)::CW pos (AI [] X.env))) _ _ s1;refine Cq (eS I1 (M.gl W) (M.md.blt _ b2) b1 (D7 ?_) b3 (aF q0));exact zU P I1 ru L hc hk q
noncomputable def aBc(X:Cx)(cls:List Str):Cl->V->Prop
 | .own x,v=>x∈cls/\∃C2,X.mg x=some (.ref C2)/\v=.ref C2|.tValueError,v=>v=.ty "ValueError"|_,_=>False
noncomputable def wZ(X:Cx)(cls:List Str):List Cl->List V->Prop
 | [],vs=>vs=[]
 | c::cs,vs=>∃v r,vs=v::r/\aBc X cls c v/\wZ X cls cs r
noncomputable def ClV(X:Cx)(cls:List Str)(cs:List Cl)(v:V)(H:Hp):Prop:=(∃c,cs=[c]/\aBc X cls c v)\/∃p vs,v=.ref p/\SqT X.K H p vs/\wZ X cls cs vs
theorem aBd{c:Str}{ab:List Cl}{C:Addr}(E:oI X.K X.mg Γ.cls c ab C){z:Cl}{v:V}{u:Value}(h:aBc X Γ.cls z v)(r:bC v u):C6 X.K (.ref C) u=some (ab.contains z):=by
 cases z with
 | own x=>obtain⟨hm,C2,L,rfl⟩:=h;obtain⟨I,q,M,_⟩:=E.ow x hm;rw[L] at q;cases q;cases r;exact M|tValueError=>have h:v=.ty "ValueError" := h;subst h;cases r;exact E.ve|_=>exact h.elim
theorem aBe{c:Str}{ab:List Cl}{C:Addr}(E:oI X.K X.mg Γ.cls c ab C):∀{cs:List Cl} {vs:List V} {us:List Value},wZ X Γ.cls cs vs->aQ vs us->Gi X.K (.ref C) us=some (cs.any λz=>ab.contains z)
 | [],vs,us,h,r=>by have h:vs=[]:=h;subst h;cases r;rfl|z::cs,vs,us,h,r=>by
  obtain⟨v,rr,e,I,L⟩:=h;subst e;cases r with
  | cons q t=>
   have k:=aBd E I q;have M:=aBe E L t;rw[List.any_cons];unfold Gi;rw[k];cases hb:ab.contains z with
   | true=>rfl|false=>exact M
theorem aBf(M:Mc X P Γ n){a:E}{cs:List Cl}{f:Str}{pf:Cf}{ea y:Ag}{tc:TE}(hf:f=("isinstance" : Str))(hg:bR Γ f=true)(ha:PE X ea (WE X P n RT Y J Z a))(hp:aK ea=true)(hy:PE X y tc)(q1:aK y=true)
 (q4:∀ZV H Q,(∀v H',aG H H'->ClV X Γ.cls cs v H'->Q v H')->tc ZV H Q):PE X (.Call (.Name f pf) [ea,y] [] pos) (WE X P n RT Y J Z (.isx a cs)):=by
 subst hf;intro G s ZV H Q I hw;obtain⟨S,h⟩:=hw;have h:=RE.bind' (show RE _ (ev P (call P n) Z a >>= λx=>(match isX cs P x.d with|some k=>R.ok (Vl.cl (.bl k))|none=>.bad)) _ from h);refine Bu (eS I (M.gl hg) (M.md.blt _ (by decide +kernel)) (show B8 "isinstance" = some (.builtin "isinstance") by kernel_rfl) ?_ (by decide +kernel) (by decide +kernel));refine Ch ?_ (aA hp) (by rw[aA q1];rfl);rw[aA hp];show Ao _ _ (Fe ((false,C4 ea X.env)::CW pos (AI [y] X.env))) _ _ s;refine Cq (thn (ha G s ZV H (λu H1=>∃z k,Rv X.K RT Y J Z ZV H1 z u/\isX cs P z.d=some k/\∀L,Tk X.K L->aG H1 L->Q (.bl k) L) I (wE.one S h λz u H1 W t1 S1 r1=>?_)) λv s1 ⟨u,H1,I1,ru,z,k,W,U,q⟩=>?_);split at W;rename_i k U;exact⟨z,k,r1.rv S,U,λL t2 s2=>(show Wn X RT Y J Z ZV H Q (Vl.cl (.bl k)) from W) _ _ t2 (Ro.cl (r1.1.trans s2) rfl)⟩;exact W.elim;rw[aA q1];show Ao _ _ (Fe ((false,C4 y X.env)::CW pos (AI [] X.env))) _ _ s1;refine Cq (thn (hy G s1 ZV H1 (λv L=>aG H1 L/\ClV X Γ.cls cs v L) I1 (q4 ZV H1 _ λv L s2 c=>⟨s2,c⟩)) λcv s2 ⟨v2,L,I2,r2,sm,hc⟩=>D7 ?_);have q0:∀tk,EP X G ZV Q (.bool k) { s2 with toks:=tk }:=λtk=>⟨.bl k,L,I2.tok tk,rfl,q L I2.tk sm⟩
 have W:=W.grow sm;unfold isX at U;split at U;rename_i c fs hd;unfold Rv at W;rw[hd] at W;obtain⟨b,C1,e1,hH,q3⟩:=W;subst e1;cases ru;split at U;rename_i ab q2;obtain⟨C,E⟩:=M.md.exc c ab q2;have e:C=C1:=by have:=E.ns.symm.trans q3.1;simpa using this
 subst e;have U:=Ah U;obtain⟨hI,_⟩:=(show cG X.prog X.w L s2.heap b (excO b C) from I2.hok b _ hH)
 rcases hc with⟨c1,rfl,hc⟩|⟨p,vs,rfl,hq,hc⟩
 refine BJ (sM E.xc) I2.kIn hI ?_ (λz=>nomatch z) q0;rw[aBd E hc r2,<-U];simp;obtain⟨q5,v3,t3,_⟩:=I2.tuple hq;obtain⟨o,h1,h2,nn,h3⟩:=t3;obtain⟨oc,od,q6,osl⟩:=o;dsimp only at h2 h3;subst h2 h3;cases r2;refine PySem.W.kia_tup (sM E.xc) I2.kIn hI h1 ?_ (λz=>nomatch z) q0;rw[aBe E hc v3,<-U];cases U;cases U
noncomputable def tCs(vs:List V):TA:=λ_ H Q=>Q vs H
theorem sO{c:Cl}{y:Ag}(h:wL Γ c y=true):∃x p,c=.own x/\y=.Name x p/\bR Γ x=true/\aZ x=true/\x∈Γ.cls:=by unfold wL at h;split at h;rename_i x z p;simp only[bA] at h;obtain⟨⟨⟨q,I⟩,L⟩,M⟩:=h;have e:z=x:=eq_of_beq q;subst e;exact⟨z,p,rfl,rfl,I,L,by simpa using M⟩;cases h
theorem aBg(M:Mc X P Γ n):∀{cs:List Cl} {es:List Ag},wM Γ cs es=true->∃vs,PA X es (tCs vs)/\wZ X Γ.cls cs vs/\vs.length=es.length
 | [],[],_=>⟨[],dG,rfl,rfl⟩
 | [],_::_,h=>by cases h|_::_,[],h=>by cases h|z::cs,y::ys,h=>by unfold wM at h;obtain⟨I,L⟩:=(bA _ _).mp h;obtain⟨vs,i1,i2,U⟩:=aBg M L;obtain⟨x,p,rfl,rfl,g1,g2,g3⟩:=sO I;obtain⟨C2,q⟩:=M.md.cls x g3;exact⟨.ref C2::vs,cD (gH (v:=.ref C2) (M.gl g1) q rfl (aF g2)) i1 (aA rfl),⟨_,_,rfl,⟨g3,C2,q,rfl⟩,i2⟩,by rw[lC,lC,U]⟩
end
section
variable {X:Cx} {P:Pg} {n:Nat} {RT Y J:Addr->Prop} {Z:Sg} {pos:Cf}
theorem aBh{G:List (Addr×Obj)}{ZV:L2.St}{H:Hp}{s:Ad}(I:L2.Inv X G ZV H s):Dd<s.heap.objs.size:=by have h:AF<s.heap.objs.size:=(I.mod.glob.keeps I.bk).lt;exact Fv (by decide) h
theorem zX{a b:E}{p:Vl->Prop}{w:D->Prop}(h:RE w (ev P (call P n) Z (.dic (.cons a .nil) (.cons b .nil))) p) :
 RE w (ev P (call P n) Z a) λx=>RE w (ev P (call P n) Z b) λy=>∃k,x.d=.int k/\noL y.d=true/\p (.cl (.dic [(.int k,y.d)])):=by
 have h:RE w ((ev P (call P n) Z a >>= λx=>R.ok [x]) >>= λks=>(ev P (call P n) Z b >>= λy=>R.ok [y]) >>= λvs=>
  (match (ks.map (λ(v:Vl)=>v.d):List D),(vs.map (λ(v:Vl)=>v.d):List D) with
   | [.int k],[d]=>R.iff (noL d) (R.ok (Vl.cl (.dic [(.int k,d)])))|[],[]=>R.ok (Vl.cl (.dic []))|_,_=>R.bad)) p:=h
 cases q:ev P (call P n) Z a with
 | exc z=>rw[q] at h;exact h|bad=>rw[q] at h;exact h.elim|ok x=>
  rw[q] at h;cases I:ev P (call P n) Z b with
  | exc z=>rw[I] at h;exact h|bad=>rw[I] at h;exact h.elim|ok y=>
   rw[I] at h;have h:RE w (match [x.d],[y.d] with
    | [.int k],[d]=>R.iff (noL d) (R.ok (Vl.cl (.dic [(.int k,d)])))|[],[]=>R.ok (Vl.cl (.dic []))|_,_=>R.bad) p:=h
   show ∃k,x.d=.int k/\noL y.d=true/\p (.cl (.dic [(.int k,y.d)]));cases dx:x.d with
   | int k=>rw[dx] at h;have h:RE w (R.iff (noL y.d) (R.ok (Vl.cl (.dic [(.int k,y.d)])))) p:=h;obtain⟨c,h⟩:=h.iff;exact⟨k,rfl,c,h⟩|_=>rw[dx] at h;exact h.elim
theorem aIm{a b:E}{ea eb:Ag}(M:PE X ea (WE X P n RT Y J Z a))(hb:PE X eb (WE X P n RT Y J Z b)) :
 PE X (.Dict [some ea] [eb] pos) (WE X P n RT Y J Z (.dic (.cons a .nil) (.cons b .nil))):=by
 intro G s ZV H Q I hw;obtain⟨S,h⟩:=hw;have h1:=zX h;have hp:H s.heap.objs.size=none:=I.fresh;have I1:L2.Inv X G ZV (upd H s.heap.objs.size (.dK [])) { s with heap:=s.heap.push { cls:=.type "dict",data:=.dict #[] } }:=
  I.laid (a:=s.heap.objs.size) (o:=.dK []) (h':=s.heap.push { cls:=.type "dict",data:=.dict #[] }) (t':=s.toks) (λ_ _ q=>Ab _ q) (An _)
   ⟨Cm _,beq_eq_false_iff_ne.mpr (Bp (A9 (aBh I))),[],.nil,FP s.heap⟩
 have sm:aG H (upd H s.heap.objs.size (.dK [])):=aG.new hp;have S1:=S.grow sm I1.tk;refine wpAny_Dict_walk (knd:=dN X.prog X.w) rfl rfl (λz=>nomatch z) (by decide:1<=15) (pairTrees_cons_walk ?_);refine thn (M G _ ZV _ (λux H1=>WE X P n RT Y J Z b ZV H1 λW L=>∃k d,ux=.int k/\noL d=true/\Rep X.K L (λ_=>False) d W/\aG (upd H s.heap.objs.size (.dK [])) L/\Wn X RT Y J Z ZV H Q (.cl (.dic [(.int k,d)]))) I1
  (wE.one S1 (h1.at sm) λx u H1 hx t1 S2 r1=>wE.one S2 (hx.at (sm.trans r1.1)) λy u' L hy t2 S3 r2=>?_)) λkv s1 ⟨ux,H1,I2,rx,q1⟩=>thn (hb G s1 ZV H1 _ I2 q1) λvv s2 ⟨W,L,I3,ry,q2⟩=>pairTrees_nil_walk ?_
 obtain⟨k,dx,dy,hW⟩:=hy;exact⟨k,y.d,(r1.rv S1).int dx,dy,Rep.free _ _ dy (r2.rv S2),r1.1.trans r2.1,hW⟩;obtain⟨k,d,e1,nd,rd,U,hW⟩:=q2;subst e1;obtain⟨t1,rfl⟩:=rx;have e0:L s.heap.objs.size=some (.dK []):=U _ _ aO;obtain⟨_,hs,q3,r0,d0⟩:=(show cG X.prog X.w L s2.heap s.heap.objs.size (.dK []) from I3.hok _ _ e0)
 cases r0;refine⟨[(.inl k,vv)],⟨zC k t1,rfl,CN⟩,d0,λh' hd q0=>?_⟩;have I4:L2.Inv X G ZV (upd L s.heap.objs.size (.dK [(.inl k,W)])) { s2 with heap:=h',toks:=s2.toks+1 }:=
  I3.write (x:=s.heap.objs.size) (e:=s.heap.objs.size) (by rw[e0];exact CN) (.inl rfl) (λb u hb e=>(q0.2 b hb).trans e) (let ⟨o,_,_,ho,_⟩:=hd;⟨o,ho⟩)
   ⟨by rw[AW];exact(by decide:1<=16777216),hs,[(.inl k,vv)],.cons ⟨rfl,ry⟩ .nil,hd⟩
 refine⟨.ref s.heap.objs.size,_,I4,rfl,hW _ _ I4.tk (Ro.cl (λb o e=>?_) ⟨s.heap.objs.size,_,rfl,aO,.inl k,W,[],rfl,rfl,Rep.freeT (λa xs q=>?_) d W nd rd,rfl⟩)⟩;have hb:b≠s.heap.objs.size:=λz=>by rw[z,hp] at e;cases e
 rw[aJ hb];exact U b o (sm b o e);by_cases M:a=s.heap.objs.size;subst M;rcases q with(q|⟨o,q⟩)|q;rw[e0] at q;cases q;rw[e0] at q;cases q;exact .inr q;rcases q with(q|⟨o,q⟩)|q;exact .inl (.inl (by rw[aJ M];exact q));exact .inl (.inr ⟨o,by rw[aJ M];exact q⟩);exact .inr q
theorem aFF:PE X (.Dict [] [] pos) (WE X P n RT Y J Z (.dic .nil .nil)):=by
 intro G s ZV H Q I U;obtain⟨S,h⟩:=U;have h:Wn X RT Y J Z ZV H Q (.cl (.dic [])):=h;have M:H s.heap.objs.size=none:=I.fresh;have L:L2.Inv X G ZV (upd H s.heap.objs.size (.dK [])) { s with heap:=s.heap.push { cls:=.type "dict",data:=.dict #[] } }:=
  I.laid (a:=s.heap.objs.size) (o:=.dK []) (h':=s.heap.push { cls:=.type "dict",data:=.dict #[] }) (t':=s.toks) (λ_ _ q=>Ab _ q) (An _)
   ⟨Cm _,beq_eq_false_iff_ne.mpr (Bp (A9 (aBh I))),[],.nil,FP s.heap⟩
 exact wpAny_Dict_empty ⟨.ref s.heap.objs.size,_,L,rfl,h _ _ L.tk (Ro.cl (aG.new M) ⟨s.heap.objs.size,_,rfl,aO,rfl⟩)⟩
end
section
variable {X:Cx} {P:Pg} {Γ:Ct} {n:Nat} {RT Y J:Addr->Prop} {Z:Sg} {pos:Cf}
theorem lY{o o':CmpOp}{I q:Ag}(L:aK q=true):GC [o,o'] [I,q]=false:=fV L
theorem aFG(M:Mc X P Γ n){o o':CmpOp}{a b c:E}{ea eb L:Ag}(ha:PE X ea (WE X P n RT Y J Z a))(hb:PE X eb (WE X P n RT Y J Z b))(hc:PE X L (WE X P n RT Y J Z c))(hq:aK L=true) :
 PE X (.Compare ea [o,o'] [eb,L] pos) (WE X P n RT Y J Z (.cmp2 o o' a b c)):=by
 refine(aAz (eB (RT:=RT) (Y:=Y) (J:=J) M o) (eB (RT:=RT) (Y:=Y) (J:=J) M o') ha hb hc (lY hq)).imp λZV H Q t ⟨S,h⟩=>?_;have h:=RE.bind' (show RE _ (ev P (call P n) Z a >>= λx=>ev P (call P n) Z b >>= λy=>(match bT o x.d y.d with
  | some true=>ev P (call P n) Z c >>= λz=>(match bT o' y.d z.d with|some k=>R.ok (Vl.cl (.bl k))|none=>.bad)
  | some false=>R.ok (Vl.cl (.bl false))|none=>.bad)) _ from h)
 refine wE.two S (h.mono λx I=>RE.bind' I) λx y ux uy H2 q t2 s2 S2 I hy=>?_;split at q;rename_i U;refine⟨Z,ZV,x,y,true,I,hy,U,true,rfl,?_⟩;rw[if_pos rfl];refine wE.one S2 ((RE.bind' q).at s2) λz u H3 hz t3 S3 r3=>?_;split at hz;rename_i k' W;exact⟨Z,ZV,y,z,k',hy.grow r3.1,r3.rv S2,W,λt'=>hz _ _ t' (Ro.cl (s2.trans r3.1) rfl)⟩;exact hz.elim;rename_i U;refine⟨Z,ZV,x,y,false,I,hy,U,false,rfl,?_⟩;rw[if_neg bN];exact λt'=>q _ _ t' (Ro.cl s2 rfl);exact q.elim
theorem aFH(M:Mc X P Γ n){o o':CmpOp}{a b c:E}{ea eb L:Ag}(ha:PE X ea (WE X P n RT Y J Z a))(hb:PE X eb (WE X P n RT Y J Z b))(hc:PE X L (WE X P n RT Y J Z c))(hq:aK L=true) :
 PT X (.Compare ea [o,o'] [eb,L] pos) (WT X P n RT Y J Z (.cmp2 o o' a b c)):=by
 refine(aAA (eB (RT:=RT) (Y:=Y) (J:=J) M o) (eB (RT:=RT) (Y:=Y) (J:=J) M o') ha hb hc (lY hq)).imp λZV H Q t ⟨S,h⟩=>?_;have h:=RE.bind' (show RE _ (ev P (call P n) Z a >>= λx=>ev P (call P n) Z b >>= λy=>(match bT o x.d y.d with
  | some true=>ev P (call P n) Z c >>= λz=>(match bT o' y.d z.d with|some k=>R.ok k|none=>.bad)
  | some false=>R.ok false|none=>.bad)) _ from h)
 refine wE.two S (h.mono λx I=>RE.bind' I) λx y ux uy H2 q t2 s2 S2 I hy=>?_;split at q;rename_i U;refine⟨Z,ZV,x,y,true,I,hy,U,true,rfl,?_⟩;rw[if_pos rfl];refine wE.one S2 ((RE.bind' q).at s2) λz u H3 hz t3 S3 r3=>?_;split at hz;rename_i k' W;exact⟨Z,ZV,y,z,k',hy.grow r3.1,r3.rv S2,W,k',rfl,λt'=>hz _ t' (s2.trans r3.1)⟩;exact hz.elim;rename_i U;refine⟨Z,ZV,x,y,false,I,hy,U,false,rfl,?_⟩;rw[if_neg bN];exact⟨false,rfl,λt'=>q _ t' s2⟩;exact q.elim
theorem iM{a:E}{q:Ag}(I:PT X q (WT X P n RT Y J Z a)):PT X (.UnaryOp .Not q pos) (WT X P n RT Y J Z (.nt a)):=by refine(aEX I).imp λZV H Q t ⟨S,h⟩=>?_;have h:=RE.bind' (show RE _ (tst P (call P n) Z a >>= λx=>R.ok (!x)) _ from h);exact⟨S,h.mono λk L H1 M s1 t'=>(show ∀H',Tk X.K H'->aG H H'->Q (!k) H' from L) _ t' s1⟩
theorem aBi{e:Ag}{t t':TT}(h:PW X e t)(f:∀ZV H Q,Tk X.K H->t' ZV H Q->t ZV H λv H'=>Tk X.K H'->Q v H'):PW X e t':=λwh G s ZV H Q I M=>thn (h wh G s ZV H _ I (f ZV H Q I.tk M)) λk U ⟨H',L,q⟩=>⟨H',L,q L.tk⟩
theorem aIn{a b:E}{I L:Ag}{r:List Ag}(M:PT X I (WT X P n RT Y J Z a))(hb:PW X (.BoolOp .And (L::r) pos) (WT X P n RT Y J Z b)):PW X (.BoolOp .And (I::L::r) pos) (WT X P n RT Y J Z (.an a b)):=by
 refine aBi (aEW M hb) λZV H Q t ⟨S,h⟩=>?_;have h:=RE.bind' (show RE _ (tst P (call P n) Z a >>= λx=>if x=true then tst P (call P n) Z b else R.ok false) _ from h);refine⟨S,h.mono λk q H1 t1 s1=>?_⟩;cases k with
 | true=>rw[if_pos rfl] at q ⊢;exact⟨S.grow s1 t1,(q.at s1).mono λv U H' t W _=>U H' t (s1.trans W)⟩|false=>rw[if_neg bN] at q ⊢;exact λt'=>(show ∀H',Tk X.K H'->aG H H'->Q false H' from q) _ t' s1
theorem aEi{a b:E}{I L:Ag}{r:List Ag}(M:PT X I (WT X P n RT Y J Z a))(hb:PW X (.BoolOp .Or (L::r) pos) (WT X P n RT Y J Z b)):PW X (.BoolOp .Or (I::L::r) pos) (WT X P n RT Y J Z (.orr a b)):=by
 refine aBi (aHp M hb) λZV H Q t ⟨S,h⟩=>?_;have h:=RE.bind' (show RE _ (tst P (call P n) Z a >>= λx=>if x=true then R.ok true else tst P (call P n) Z b) _ from h);refine⟨S,h.mono λk q H1 t1 s1=>?_⟩;cases k with
 | true=>rw[if_pos rfl] at q ⊢;exact λt'=>(show ∀H',Tk X.K H'->aG H H'->Q true H' from q) _ t' s1|false=>rw[if_neg bN] at q ⊢;exact⟨S.grow s1 t1,(q.at s1).mono λv U H' t W _=>U H' t (s1.trans W)⟩
theorem RE.eqc{α:Type}{x:R α}{p:α->Prop}{w:D->Prop}(h:RE w x p)(n:∀z,x≠.exc z):∃a,x=.ok a/\p a:=by
 cases x with
 | ok a=>exact⟨a,rfl,h⟩|exc e=>exact absurd rfl (n e)|bad=>exact h.elim
theorem aEj{a:E}{up:Bool}{k:Nat}{q:Ag}{L I:Option Ag}{p2:Cf}(M:PE X q (WE X P n RT Y J Z a))(W:PO X L λ_ H Q=>Q (if up then none else some (k:Int)) H)(U:PO X I λ_ H Q=>Q (if up then some (k:Int) else none) H) :
 PE X (.Subscript q (.Slice L I none p2) pos) (WE X P n RT Y J Z (.sli a up k)):=by refine(aAF (aFB (X:=X)) M W U).imp λZV H Q t ⟨S,h⟩=>?_;have h:=RE.bind' (show RE _ (ev P (call P n) Z a >>= λx=>rW x (if up then none else some (k:Int)) (if up then some (k:Int) else none)) _ from h);exact wE.one S h λx u H1 hx t1 S1 r1=>zT S1 t1 (r1.rv S) (hx.mono λv hv u H' t r=>hv u H' t (r.from r1.1))
end
end Hp
namespace L2
open PySem PySem.Spec PyProof.Rows
section
variable {X:Cx} {G:List (Addr×Obj)} {Z:St} {H:Hp} {s:Ad} {h':Heap}
theorem Inv.turnsNew{L:List Addr}{T:Addr}{o:HO}{t':Nat}(I:Inv X G Z H s)(f:∀b∈L,iG X G H b)(k:∀b o,b∉L->s.heap.get? b=some o->h'.get? b=some o)(there:∀b∈L,∃o,h'.get? b=some o)
 (hT:s.heap.objs.size<=T) (new:cG X.prog X.w (upd H T o) h' T o):Inv X G Z (upd H T o) { s with heap:=h',toks:=t' }:=by
 have W:∀b u,H b=some u->b∉L:=λb u e z=>by rw[(f b z).1] at e;cases e
 have U:H T=none:=I.hok.fresh hT;have q0:∀b o,s.heap.get? b=some o->b≠T:=λb o e=>A9 (Av (Al e) hT);refine I.step (g':=s.gens) (d':=s.drawn) (ch:=L) (λb hb=>?_) (λb o _ _ M e _=>k b o M e) (λb o _ _ M e _=>⟨o.slots,k b o M e⟩) (λb o _ e n=>by rw[aJ (q0 b o e)];exact n)
  (λb o M e=>⟨o,k b o M e⟩) (λb xs e=>by rw[aJ (aU e U)];exact e) (λb o u e=>by rw[aJ (aU e U)];exact e) (λb ps e=>⟨#[],by rw[aJ (aU e U),e];simp⟩) (λm hm=>?_) (λb u e=>?_) I.bare
 obtain⟨_,f1,f2,f3,f4,f5⟩:=f b hb;exact⟨f3,f1,f4,f5⟩;obtain⟨o,es,ep,ho,r⟩:=hm;exact⟨o,es,ep,k _ o (λz=>(f _ z).2.1 rfl) ho,r⟩;by_cases hb:b=T;subst hb;rw[aO] at e;cases e;exact new;rw[aJ hb] at e;refine(I.hok b u e).stay (λc v M q=>k c v ?_ q) (λc q=>by rw[aJ (aU q U)];exact q) λc xs q=>by rw[aJ (aU q U)];exact q
 rcases M with z|z;rw[z];exact W b u e;exact W c _ z
theorem Inv.turns{L:List Addr}{t':Nat}(I:Inv X G Z H s)(f:∀b∈L,iG X G H b)(k:∀b o,b∉L->s.heap.get? b=some o->h'.get? b=some o):Inv X G Z H { s with heap:=h',toks:=t' }:=by
 have U:∀b u,H b=some u->b∉L:=λb u e z=>by rw[(f b z).1] at e;cases e
 refine I.step (g':=s.gens) (d':=s.drawn) (ch:=L) (λb hb=>?_) (λb o _ _ M e _=>k b o M e) (λb o _ _ M e _=>⟨o.slots,k b o M e⟩) (λb o _ e n=>n)
  (λb o M e=>⟨o,k b o M e⟩) (λb xs e=>e) (λb o u e=>e) (λb ps e=>⟨#[],by rw[e];simp⟩) (λm hm=>?_) (λb u e=>?_) I.bare
 obtain⟨_,f1,f2,f3,f4,f5⟩:=f b hb;exact⟨f3,f1,f4,f5⟩;obtain⟨o,es,W,ho,r⟩:=hm;exact⟨o,es,W,k _ o (λz=>(f _ z).2.1 rfl) ho,r⟩;refine(I.hok b u e).stay (λc v M q=>k c v ?_ q) (λc q=>q) λc xs q=>q;rcases M with z|z;rw[z];exact U b u e;exact U c _ z
theorem Inv.newK(I:Inv X G Z H s):X.K.lookup s.heap.objs.size=none:=by
 cases q:X.K.lookup s.heap.objs.size with
 | none=>rfl|some o=>exact absurd (Al (I.bk _ o (I.ok.mod.kin _ o q))) (AU _)
noncomputable def Sq(k:Bool)(K:Ai)(H:Hp)(a:Addr)(xs:List V):Prop:=match k with|true=>SqL K H a xs|false=>SqT K H a xs
noncomputable def eG(k:Bool)(h:Heap)(a:Addr)(its:Array Value):Prop:=match k with|true=>h.IsList a its|false=>h.IsTuple a its
noncomputable def cT(k:Bool)(h:Heap)(it a:Addr)(i:Nat):Prop:=match k with|true=>h.IsListIter it a i|false=>h.IsTupleIter it a i
theorem eG.at{k:Bool}{h:Heap}{a:Addr}{I:Array Value}(q:eG k h a I)(e:∀o,h.get? a=some o->h'.get? a=some o):eG k h' a I:=by
 cases k with
 | true=>exact Heap.IsList.at q e|false=>exact Heap.IsTuple.at q e
theorem cT.at{k:Bool}{h:Heap}{a it:Addr}{i:Nat}(q:cT k h it a i)(e:∀o,h.get? it=some o->h'.get? it=some o):cT k h' it a i:=by
 cases k with
 | true=>exact Heap.IsListIter.at q e|false=>exact Heap.IsTupleIter.at q e
theorem cT.obj{k:Bool}{h:Heap}{a it:Addr}{i:Nat}(q:cT k h it a i):∃o,h.get? it=some o/\∀v,o.data≠.cell v:=by
 cases k with
 | true=>obtain⟨o,e,c,d⟩:=q;exact⟨o,e,λv z=>by rw[d] at z;cases z⟩|false=>obtain⟨o,e,c,d⟩:=q;exact⟨o,e,λv z=>by rw[d] at z;cases z⟩
theorem Inv.sq{k:Bool}{a:Addr}{xs:List V}(I:Inv X G Z H s)(h:Sq k X.K H a xs):∃q:List Value,aQ xs q/\eG k s.heap a q.toArray/\xs.length<=sizeLine:=by
 cases k with
 | true=>obtain⟨q,r,p,z⟩:=I.list h;exact⟨q,r,p.isList,z⟩|false=>obtain⟨q,r,p,z⟩:=I.tuple h;exact⟨q,r,p,z⟩
theorem Inv.sq_inj{k:Bool}{a:Addr}{xs q:List V}(I:Inv X G Z H s)(h:Sq k X.K H a xs)(h':Sq k X.K H a q):xs=q:=by
 cases k with
 | true=>exact I.list_inj h h'|false=>exact I.tuple_inj h h'
theorem Sq.there{k:Bool}{K:Ai}{a:Addr}{xs:List V}(h:Sq k K H a xs):H a≠none\/∃o,K.lookup a=some o:=by
 cases k with
 | true=>
  rcases h with(h|⟨o,h⟩)|⟨o,I,n,q,_⟩
  exact .inl (by rw[h];simp);exact .inl (by rw[h];simp);exact .inr ⟨_,q⟩
 | false=>
  rcases h with(h|⟨o,h⟩)|⟨o,I,n,q,_⟩
  exact .inl (by rw[h];simp);exact .inl (by rw[h];simp);exact .inr ⟨_,q⟩
theorem Inv.sqNe{k:Bool}{a b:Addr}{xs:List V}(I:Inv X G Z H s)(h:Sq k X.K H a xs)(f:iG X G H b):a≠b:=by
 intro e;subst e;rcases h.there with z|⟨o,z⟩
 exact z f.1;have hb:=I.ok.mod.kin a o z;rcases f.2.2.2.1 with q|q;exact I.ok.noex a o hb q;exact absurd (Av (Al hb) (AH I.ok.bsz q)) (AU _)
end
section
variable {prog:A5} {w:AM} {A:AY} {E:Value->Ad->Prop} {s:Ad}
theorem iN{it l:Addr}{i:Nat}{items}{x:Value}{Q:Value->Ad->Prop}(q:s.heap.IsTupleIter it l i)
 (hl:s.heap.IsTuple l items) (hx:items[i]? = some x)
 (U:∀h',h'.IsTupleIter it l (i+1)->BX it s.heap h'->Q x { s with heap:=h' }) :
 Ao (Au prog w) A (AE (.ref it)) Q E s:=by
 obtain⟨o,I,W,hd⟩:=id q;obtain⟨ol,M,_,nl,L⟩:=hl;unfold AE;refine Aa (Bw (name:=CZ "__next__") q.typeIs BP
  (Ci BP q.typeIs Ds ?_ (Dp _)))
 show Ao _ _ (FK (.ref it) 0 >>= _) _ _ s;refine Aa (AD I hd (x:=.ref l) rfl ?_);show Ao _ _ (if (AA l==AG)=true then _ else _) _ _ s;rw[if_neg (show ¬ ((AA l==AG)=true) from bN)];show Ao _ _ (FK (.ref it) 1 >>= _) _ _ s;refine Aa (AD I hd (x:=.int i 0) rfl ?_);show Ao _ _ (GH (.ref l) >>= _) _ _ s;refine Aa (BQ M L ?_);simp only[Fx,hx];refine Aa (BB I hd (by simp) (Ar ⟨x,rfl,Ar (U _ ?_ (E9 ..))⟩));exact⟨_,AK _ I (AQ (AB hd _)),(D9 ..).trans W,by
  rw[AB hd];simp[Ca]⟩
theorem jG{it l:Addr}{i:Nat}{items}{Q:Value->Ad->Prop}(U:A.handled=none)
 (q:s.heap.IsTupleIter it l i) (hl:s.heap.IsTuple l items) (hx:items[i]? = none)
 (W:∀h' e,Ho it s.heap h'->(∃o,h'.get? e=some o/\o.cls=.type "StopIteration")->E (.ref e) { s with heap:=h' }) :
 Ao (Au prog w) A (AE (.ref it)) Q E s:=by
 obtain⟨o,L,hc,hd⟩:=id q;obtain⟨ol,M,_,nl,I⟩:=hl;unfold AE;refine Aa (Bw (name:=CZ "__next__") q.typeIs BP
  (Ci BP q.typeIs Ds ?_ (Dp _)))
 show Ao _ _ (FK (.ref it) 0 >>= _) _ _ s;refine Aa (AD L hd (x:=.ref l) rfl ?_);show Ao _ _ (if (AA l==AG)=true then _ else _) _ _ s;rw[if_neg (show ¬ ((AA l==AG)=true) from bN)];show Ao _ _ (FK (.ref it) 1 >>= _) _ _ s;refine Aa (AD L hd (x:=.int i 0) rfl ?_);show Ao _ _ (GH (.ref l) >>= _) _ _ s;refine Aa (BQ M I ?_);simp only[Fx,hx];refine Aa (EU (Aa (BB L hd (by simp) ?_)));show Ao _ _ (newExc (.type "StopIteration") [] >>= _) _ _ _;refine Aa ?_;simp only[newExc,newTuple];refine Aa (Bq ?_ (by size_fits));refine Aa (m:=Gj _ _) (wpAny_of_eq (a:=AG) (by first|rfl|(simp only[Gj];rfl)) ?_);refine Bq ?_ (by size_fits);simp only[raiseNew];refine Aa (G6 ?_)
 first|rw[show A.in1.handled=none from U]|rw[U]
 refine Aa (Ar (FJ ?_));exact W _ _ (((E9 ..).extBut.push _).push _) ⟨_,A0 _ rfl,rfl⟩
theorem fW{k:Bool}{it l:Addr}{i:Nat}{items:Array Value}{x:Value}{Q:Value->Ad->Prop}(q:cT k s.heap it l i)(L:eG k s.heap l items)(M:items[i]? = some x)
 (I:∀h',cT k h' it l (i+1)->BX it s.heap h'->Q x { s with heap:=h' }):Ao (Au prog w) A (AE (.ref it)) Q E s:=by
 cases k with
 | true=>exact wpAny_nextOf_list_item q L M I|false=>exact iN q L M I
theorem mB{k:Bool}{it l:Addr}{i:Nat}{items:Array Value}{Q:Value->Ad->Prop}(L:A.handled=none)(q:cT k s.heap it l i)(M:eG k s.heap l items)(U:items[i]? = none)
 (I:∀h' e,Ho it s.heap h'->(∃o,h'.get? e=some o/\o.cls=.type "StopIteration")->E (.ref e) { s with heap:=h' }):Ao (Au prog w) A (AE (.ref it)) Q E s:=by
 cases k with
 | true=>exact wpAny_nextOf_list_end L q M U I|false=>exact jG L q M U I
theorem zY{ka kb:Bool}{z TI TO i1 i2 l1 l2:Addr}{k1 k2:Nat}{xs ys:Array Value}{x y a b:Value}{Q:Value->Ad->Prop}(D:Fy z TI TO i1 i2 l1 l2)
 (hz:Dz s.heap z TI TO .none) (x0:BM s.heap TI (.ref i1) (.ref i2)) (x1:BM s.heap TO a b)
 (h1:cT ka s.heap i1 l1 k1) (h2:cT kb s.heap i2 l2 k2) (x3:eG ka s.heap l1 xs) (x4:eG kb s.heap l2 ys) (hx:xs[k1]? = some x) (hy:ys[k2]? = some y)
 (hQ:∀h',Dz h' z TI TO (Ca s.heap.objs.size)->BM h' TO x y->cT ka h' i1 l1 (k1+1)->cT kb h' i2 l2 (k2+1)->BM h' s.heap.objs.size x y->h'.objs.size=s.heap.objs.size+1 ->
  (∀c o,c≠z->c≠TO->c≠i1->c≠i2->s.heap.get? c=some o->h'.get? c=some o)->Q (.ref s.heap.objs.size) { s with heap:=h' }) :
 Ao (Au prog w) A (DR.«zip.__next__» ⟨[.ref z],[]⟩) (λz9 s'=>∃v,z9=.done (.ret v)/\Q v s') E s:=by
 show Ao _ _ (FK (.ref z) 2 >>= _) _ _ _;refine Aa (AD hz rfl (x:=.bool false) rfl ?_);show Ao _ _ (FK (.ref z) 3 >>= _) _ _ _;refine Aa (AD hz rfl (x:=.ref TI) rfl ?_);refine Aa (BQ x0 rfl ?_);show Ao _ _ (Bs (.ref z) >>= _) _ _ _;refine Aa ?_;unfold Bs;refine Aa (AD hz rfl (x:=.none) rfl (Ar ?_));simp only[if_true];refine Aa (EU ?_);refine Aa (AD hz rfl (x:=.ref TO) rfl ?_);refine Aa (BR hz (by simp) λz4 q6 I=>?_);replace q6:Dz z4 z TI TO .ellipsis:=q6;refine Aa ?_;simp only[FB,FQ,Eg,Ew];refine Aa (Aa (Dj ?_));show Ao _ _ (AE (.ref i1) >>= _) _ _ _;refine Aa (fW (h1.at λo e=>I.extBut _ _ D.i1z e) (x3.at λo e=>I.extBut _ _ D.l1z e) hx λz5 w6 M=>Ar ?_);have q8:BM z5 TO a b:=M.extBut _ _ D.TOi1 (I.extBut _ _ D.TOz x1);refine Aa (BQ q8 rfl ?_);refine Aa (Dk q8 λz6 q1 U=>?_);replace q1:BM z6 TO x b:=q1;refine Aa (FL (Ar ?_));refine Aa (Aa (Dj ?_));show Ao _ _ (AE (.ref i2) >>= _) _ _ _;refine Aa (fW (h2.at λo e=>U.extBut _ _ D.TOi2.symm (M.extBut _ _ D.i12.symm (I.extBut _ _ D.i2z e)))
  (x4.at λo e=>U.extBut _ _ D.l2TO (M.extBut _ _ D.l2i1 (I.extBut _ _ D.l2z e))) hy λz7 w8 W=>Ar ?_)
 have q9:BM z7 TO x b:=W.extBut _ _ D.TOi2 q1;refine Aa (BQ q9 rfl ?_);refine Aa (Dk q9 λq L q0=>?_);replace L:BM q TO x y:=L;refine Aa (FL (Ar (Ar ?_)));refine Aa (BQ L rfl ?_);refine Aa (wpAny_newTuple ?_);have z2:q.objs.size=s.heap.objs.size:=by rw[q0.1,W.1,U.1,M.1,I.1]
 have w4:Dz q z TI TO .ellipsis:=q0.extBut _ _ D.TOz.symm (W.extBut _ _ D.i2z.symm (U.extBut _ _ D.TOz.symm (M.extBut _ _ D.i1z.symm q6)));have z0:∀c o,c≠z->c≠TO->c≠i1->c≠i2->s.heap.get? c=some o->q.get? c=some o:=λc o c1 c2 c3 c4 e=>q0.extBut _ _ c2 (W.extBut _ _ c4 (U.extBut _ _ c2 (M.extBut _ _ c3 (I.extBut _ _ c1 e))));have w7:cT ka q i1 l1 (k1+1):=w6.at λo e=>q0.extBut _ _ D.TOi1.symm (W.extBut _ _ D.i12 (U.extBut _ _ D.TOi1.symm e));have w9:cT kb q i2 l2 (k2+1):=w8.at λo e=>q0.extBut _ _ D.TOi2.symm e;have w5:z<q.objs.size:=Al w4;have x2:TO<q.objs.size:=Al L;show Ao _ _ (CF (.ref z) (.ref q.objs.size) >>= _) _ _ _;refine Aa ?_;unfold CF;have z1:Dz (q.push { cls:=.type "tuple",data:=.seq #[x,y] }) z TI TO .ellipsis:=Ab _ w4;refine Aa (BR z1 (by simp) λz8 q7 q4=>?_);replace q7:Dz z8 z TI TO (Ca q.objs.size):=q7;refine BR q7 (by simp) λq3 q2 q5=>?_;replace q2:Dz q3 z TI TO (Ca q.objs.size):=q2;have up:∀c o,c≠z->q.get? c=some o->q3.get? c=some o:=λc o c1 e=>q5.extBut _ _ c1 (q4.extBut _ _ c1 (Ab _ e));have w3:BM q3 q.objs.size x y:=q5.extBut _ _ (B9 w5) (q4.extBut _ _ (B9 w5) (A0 _ rfl));have z3:q3.objs.size=q.objs.size+1:=by rw[q5.1,q4.1,BC]
 rw[z2] at q2 w3 z3;refine Ar ⟨_,rfl,?_⟩;show Q (.ref q.objs.size) _;rw[z2];exact hQ q3 q2 (up _ _ D.TOz L) (w7.at λo e=>up _ o D.i1z e) (w9.at λo e=>up _ o D.i2z e) w3 z3 λc o c1 c2 c3 c4 e=>up c o c1 (z0 c o c1 c2 c3 c4 e)
theorem aBj{ka kb:Bool}{z TI TO i1 i2 l1 l2:Addr}{k1 k2:Nat}{xs ys:Array Value}{a b:Value}{Q:Fin->Ad->Prop}(hh:A.handled=none)(D:Fy z TI TO i1 i2 l1 l2)
 (hz:Dz s.heap z TI TO .none) (w8:BM s.heap TI (.ref i1) (.ref i2)) (w9:BM s.heap TO a b)
 (h1:cT ka s.heap i1 l1 k1) (h2:cT kb s.heap i2 l2 k2) (q9:eG ka s.heap l1 xs) (z0:eG kb s.heap l2 ys) (q8:xs[k1]? = none\/ys[k2]? = none)
 (hE:∀h' e,(∀c o,c≠z->c≠TO->c≠i1->c≠i2->s.heap.get? c=some o->h'.get? c=some o)->(∃o,h'.get? e=some o/\o.cls=.type "StopIteration")->E (.ref e) { s with heap:=h' }) :
 Ao (Au prog w) A (DR.«zip.__next__» ⟨[.ref z],[]⟩) Q E s:=by
 show Ao _ _ (FK (.ref z) 2 >>= _) _ _ _;refine Aa (AD hz rfl (x:=.bool false) rfl ?_);show Ao _ _ (FK (.ref z) 3 >>= _) _ _ _;refine Aa (AD hz rfl (x:=.ref TI) rfl ?_);refine Aa (BQ w8 rfl ?_);show Ao _ _ (Bs (.ref z) >>= _) _ _ _;refine Aa ?_;unfold Bs;refine Aa (AD hz rfl (x:=.none) rfl (Ar ?_));simp only[if_true];refine Aa (EU ?_);refine Aa (AD hz rfl (x:=.ref TO) rfl ?_);refine Aa (BR hz (by simp) λw3 M q=>?_);replace M:Dz w3 z TI TO .ellipsis:=M;refine Aa ?_;simp only[FB,FQ,Eg,Ew];refine Aa (Aa (Dj ?_));show Ao _ _ (AE (.ref i1) >>= _) _ _ _;cases hx:xs[k1]? with
 | none=>
  refine Aa (mB hh (h1.at λo e=>q.extBut _ _ D.i1z e) (q9.at λo e=>q.extBut _ _ D.l1z e) hx λq5 e I he=>?_);obtain⟨oe,U,q0⟩:=he;have q3:Dz q5 z TI TO .ellipsis:=I _ _ D.i1z.symm M;have q7:e≠z:=λx=>by subst x;rw[q3] at U;cases U;simp at q0
  refine BR q3 (by simp) λq6 _ L=>hE q6 e (λc o c1 _ c3 _ x=>L.extBut _ _ c1 (I _ _ c3 (q.extBut _ _ c1 x))) ⟨oe,L.extBut _ _ q7 U,q0⟩
 | some x=>
  have hy:ys[k2]? = none:=by rcases q8 with h|h;rw[hx] at h;cases h;exact h
  refine Aa (fW (h1.at λo e=>q.extBut _ _ D.i1z e) (q9.at λo e=>q.extBut _ _ D.l1z e) hx λq5 w7 I=>Ar ?_);have W:BM q5 TO a b:=I.extBut _ _ D.TOi1 (q.extBut _ _ D.TOz w9);refine Aa (BQ W rfl ?_);refine Aa (Dk W λq6 w6 L=>?_);refine Aa (FL (Ar ?_));refine Aa (Aa (Dj ?_));show Ao _ _ (AE (.ref i2) >>= _) _ _ _;refine Aa (mB hh (h2.at λo e=>L.extBut _ _ D.TOi2.symm (I.extBut _ _ D.i12.symm (q.extBut _ _ D.i2z e)))
   (z0.at λo e=>L.extBut _ _ D.l2TO (I.extBut _ _ D.l2i1 (q.extBut _ _ D.l2z e))) hy λw4 e q1 he=>?_)
  obtain⟨oe,U,q0⟩:=he;have q4:Dz w4 z TI TO .ellipsis:=q1 _ _ D.i2z.symm (L.extBut _ _ D.TOz.symm (I.extBut _ _ D.i1z.symm M));have q7:e≠z:=λx=>by subst x;rw[q4] at U;cases U;simp at q0
  refine BR q4 (by simp) λw5 _ q2=>hE w5 e (λc o c1 c2 c3 c4 x=>q2.extBut _ _ c1 (q1 _ _ c4 (L.extBut _ _ c2 (I.extBut _ _ c3 (q.extBut _ _ c1 x))))) ⟨oe,q2.extBut _ _ q7 U,q0⟩
theorem kP{W kb:Bool}{z TI TO i1 i2 q l2:Addr}{k1 k2:Nat}{xs ys:Array Value}{x y a b:Value}{Q:Option Value->Ad->Prop}(D:Fy z TI TO i1 i2 q l2)
 (hz:Dz s.heap z TI TO .none) (I:BM s.heap TI (.ref i1) (.ref i2)) (L:BM s.heap TO a b)
 (h1:cT W s.heap i1 q k1) (h2:cT kb s.heap i2 l2 k2) (M:eG W s.heap q xs) (U:eG kb s.heap l2 ys) (hx:xs[k1]? = some x) (hy:ys[k2]? = some y)
 (hQ:∀h',Dz h' z TI TO (Ca s.heap.objs.size)->BM h' TO x y->cT W h' i1 q (k1+1)->cT kb h' i2 l2 (k2+1)->BM h' s.heap.objs.size x y->h'.objs.size=s.heap.objs.size+1 ->
  (∀c o,c≠z->c≠TO->c≠i1->c≠i2->s.heap.get? c=some o->h'.get? c=some o)->Q (some (.ref s.heap.objs.size)) { s with heap:=h' }) :
 Ao (Au prog w) A (F4 (.ref z)) Q E s:=by
 have hT:s.TypeIs (.ref z) "zip" := ⟨_,hz,rfl⟩
 unfold F4;exact Aa (G7 (Bw (name:=CZ "__next__") hT Dq
  (Ci Dq hT FC
   (zY D hz I L h1 h2 M U hx hy λh' a1 a2 a3 a4 a5 a6 a7=>Ar (hQ h' a1 a2 a3 a4 a5 a6 a7)) (Fz _))))
theorem mD{ka kb:Bool}{z TI TO i1 i2 W l2:Addr}{k1 k2:Nat}{xs ys:Array Value}{a b:Value}{Q:Option Value->Ad->Prop}(hh:A.handled=none)(D:Fy z TI TO i1 i2 W l2)
 (hz:Dz s.heap z TI TO .none) (I:BM s.heap TI (.ref i1) (.ref i2)) (L:BM s.heap TO a b)
 (h1:cT ka s.heap i1 W k1) (h2:cT kb s.heap i2 l2 k2) (M:eG ka s.heap W xs) (U:eG kb s.heap l2 ys) (q:xs[k1]? = none\/ys[k2]? = none)
 (hQ:∀h',(∀c o,c≠z->c≠TO->c≠i1->c≠i2->s.heap.get? c=some o->h'.get? c=some o)->Q none { s with heap:=h' }):Ao (Au prog w) A (F4 (.ref z)) Q E s:=by
 have hT:s.TypeIs (.ref z) "zip" := ⟨_,hz,rfl⟩
 unfold F4;refine Aa (G7 (Bw (name:=CZ "__next__") hT Dq
  (Ci Dq hT FC (aBj hh D hz I L h1 h2 M U q λh' e hk he=>?_) (Fz _))))
 obtain⟨o,ho,hc⟩:=he;refine Aa (FD (T:= "StopIteration") (b:=true) ⟨o,ho,hc⟩ isSubtype_stop ?_);exact Ar (hQ _ hk)
end
noncomputable def oJ(k:Bool)(l:Addr):Obj:=match k with
 | true=>{ cls:=.type "list_iterator",data:=.fields #[.ref l,.int 0 0] }
 | false=>{ cls:=.type "tuple_iterator",data:=.fields #[.ref l,.int 0 0] }
abbrev zH1(k:Bool)(h:Heap)(l1:Addr):Heap:=h.push (oJ k l1)
abbrev zH2(ka kb:Bool)(h:Heap)(l1 l2:Addr):Heap:=(zH1 ka h l1).push (oJ kb l2)
abbrev zH3(ka kb:Bool)(h:Heap)(l1 l2:Addr):Heap:=(zH2 ka kb h l1 l2).push { cls:=.type "tuple",data:=.seq #[.ref h.objs.size,.ref (zH1 ka h l1).objs.size] }
abbrev zH4(ka kb:Bool)(h:Heap)(l1 l2:Addr):Heap:=(zH3 ka kb h l1 l2).push { cls:=.type "tuple",data:=.seq #[.none,.none] }
abbrev zH5(ka kb:Bool)(h:Heap)(l1 l2:Addr):Heap:=(zH4 ka kb h l1 l2).push { cls:=.type "zip",data:=.fields #[.none,.bool false,.bool false,.ref (zH2 ka kb h l1 l2).objs.size,.ref (zH3 ka kb h l1 l2).objs.size] }
theorem oK{prog:A5}{w:AM}{A:AY}{E:Value->Ad->Prop}{s:Ad}{k:Bool}{l:Addr}{items:Array Value}{Q:Value->Ad->Prop}(I:eG k s.heap l items)
 (q:Q (.ref s.heap.objs.size) { s with heap:=s.heap.push (oJ k l) }):Ao (Au prog w) A (GJ (.ref l)) Q E s:=by
 cases k with
 | true=>exact D6 I q|false=>exact EX I q
theorem vD(I L:Bool)(q l2:Addr)(xs ys:Array Value) :
 Meets (DR.«zip.__new__» ⟨[.type "zip",.ref q,.ref l2],[]⟩) (λ_ R s=>eG I s.heap q xs/\eG L s.heap l2 ys /\
  R (.ok (.ret (.ref (zH4 I L s.heap q l2).objs.size))) { s with heap:=zH5 I L s.heap q l2 }):=
 .of_wp λprog w A R s h=>by
  obtain⟨hp,g,d,tk,os⟩:=s;obtain⟨W,q0,h⟩:=h;have q1:=sub_zip;have M:eG I (Shared.heap ⟨hp,g,d,tk,os⟩) q xs:=W;have U:eG L (Shared.heap ⟨hp.push (oJ I q),g,d,tk,os⟩) l2 ys:=q0.at λo e=>Ab _ e
  wp_walk using oK M,oK U
  exact⟨_,rfl,h⟩
theorem sP{k:Bool}{h:Heap}{it a:Addr}(e:h.get? it=some (oJ k a)):cT k h it a 0:=by
 cases k with
 | true=>exact⟨_,e,rfl,rfl⟩|false=>exact⟨_,e,rfl,rfl⟩
theorem zZ{prog:A5}{w:AM}{A:AY}{E:Value->Ad->Prop}{s:Ad}{I L:Bool}{q l2:Addr}{xs ys:Array Value}{Q:Value->Ad->Prop}(U:eG I s.heap q xs)(W:eG L s.heap l2 ys)
 (h:∀h',Dz h' (s.heap.objs.size+4) (s.heap.objs.size+2) (s.heap.objs.size+3) .none->BM h' (s.heap.objs.size+2) (.ref s.heap.objs.size) (.ref (s.heap.objs.size+1)) ->
  BM h' (s.heap.objs.size+3) .none .none->cT I h' s.heap.objs.size q 0->cT L h' (s.heap.objs.size+1) l2 0->h'.objs.size=s.heap.objs.size+5 ->
  (∀c o,s.heap.get? c=some o->h'.get? c=some o)->Q (.ref (s.heap.objs.size+4)) { s with heap:=h' }) :
 Ao (Au prog w) A (call (.type "zip") [.ref q,.ref l2]) Q E s:=by
 refine callType_new F.called_zip (by decide) (F.typeCall_zip_2 _ _) (F.newCall_zip_2 _ _) (λobj=>F.args_object_init_3 obj _ _) F.entry_zip_new
  (vD I L q l2 xs ys) ⟨U,W,?_⟩
 have z1:(zH1 I s.heap q).objs.size=s.heap.objs.size+1:=BC ..;have z2:(zH2 I L s.heap q l2).objs.size=s.heap.objs.size+2:=by rw[BC,z1]
 have z3:(zH3 I L s.heap q l2).objs.size=s.heap.objs.size+3:=by rw[BC,z2]
 have z4:(zH4 I L s.heap q l2).objs.size=s.heap.objs.size+4:=by rw[BC,z3]
 have z5:(zH5 I L s.heap q l2).objs.size=s.heap.objs.size+5:=by rw[BC,z4]
 have nf:∀k l,(oJ k l).isFreed=false:=by intro k l;cases k <;> rfl
 have M:(zH5 I L s.heap q l2).get? (zH4 I L s.heap q l2).objs.size=some _:=A0 _ rfl;have g4:(zH5 I L s.heap q l2).get? (zH3 I L s.heap q l2).objs.size=some _:=Ab _ (A0 _ rfl);have g3:(zH5 I L s.heap q l2).get? (zH2 I L s.heap q l2).objs.size=some _:=Ab _ (Ab _ (A0 _ rfl));have g2:(zH5 I L s.heap q l2).get? (zH1 I s.heap q).objs.size=some _:=Ab _ (Ab _ (Ab _ (A0 _ (nf _ _))));have g1:(zH5 I L s.heap q l2).get? s.heap.objs.size=some _:=Ab _ (Ab _ (Ab _ (Ab _ (A0 _ (nf _ _)))));show _/\_;rw[z2,z3,z4] at M;rw[z1,z2] at g3;rw[z3] at g4;rw[z1] at g2;rw[z4];exact⟨⟨_,M,rfl⟩,h _ M g3 g4 (sP g1) (sP g2) z5 λc o x=>
  Ab _ (Ab _ (Ab _ (Ab _ (Ab _ x))))⟩
noncomputable def Itz(K:Ai)(ka kb:Bool)(a b:Addr):It:=
 ⟨λi H=>∃xs ys x y,Sq ka K H a xs/\Sq kb K H b ys/\xs[i]? = some x/\ys[i]? = some y,
  λi H v H'=>∃p x y,v=.ref p/\H p=none/\K.lookup p=none/\H'=upd H p (.tup [x,y])/\∀xs ys,Sq ka K H a xs->Sq kb K H b ys->xs[i]? = some x/\ys[i]? = some y,
  λi H=>∃xs ys,Sq ka K H a xs/\Sq kb K H b ys/\(xs.length<=i\/ys.length<=i)⟩
structure aDn (z TI TO i1 i2:Addr):Prop where
 TIz:TI≠z
 TOz:TO≠z
 i1z:i1≠z
 i2z:i2≠z
 TITO:TI≠TO
 TIi1:TI≠i1
 TIi2:TI≠i2
 TOi1:TO≠i1
 TOi2:TO≠i2
 i12:i1≠i2
theorem aDn.apart{X:Cx}{G:List (Addr×Obj)}{Z:St}{H:Hp}{s:Ad}{L M:Bool}{a b z TI TO i1 i2:Addr}{xs U:List V}(F:aDn z TI TO i1 i2)(I:Inv X G Z H s)(f:∀c∈[z,TI,TO,i1,i2],iG X G H c)
 (q:Sq L X.K H a xs) (hb:Sq M X.K H b U):Fy z TI TO i1 i2 a b:=
 ⟨F.TIz,F.TOz,F.i1z,F.i2z,F.TITO,F.TIi1,F.TIi2,F.TOi1,F.TOi2,F.i12,I.sqNe q (f z (by simp)),I.sqNe q (f TO (by simp)),I.sqNe q (f i1 (by simp)),I.sqNe q (f i2 (by simp)),
  I.sqNe hb (f z (by simp)),I.sqNe hb (f TO (by simp)),I.sqNe hb (f i1 (by simp)),I.sqNe hb (f i2 (by simp))⟩
theorem aBk{P:A5}{w:AM}{K:Ai}{ka kb:Bool}{q1:List Ag}{tk:Nat}{tp:Cf}{z TI TO i1 i2 a b:Addr}(F:aDn z TI TO i1 i2) :
 uL P w K (.Tuple q1 tk tp) (Itz K ka kb a b) [z,TI,TO,i1,i2] z (λi h=>Dz h z TI TO .none/\BM h TI (.ref i1) (.ref i2)/\(∃u v,BM h TO u v)/\cT ka h i1 a i/\cT kb h i2 b i) where
 mem:=by simp
 obj:=λi h st c hc=>by
  obtain⟨hz,M,⟨u,v,U⟩,h1,h2⟩:=st;have L:c=z\/c=TI\/c=TO\/c=i1\/c=i2:=by simpa using hc
  rcases L with rfl|rfl|rfl|rfl|rfl;exact⟨_,hz,λv z=>by cases(show He _=F5 v from z)⟩;exact⟨_,M,λv z=>by cases(show Gg _ _=F5 v from z)⟩;exact⟨_,U,λv z=>by cases(show Gg _ _=F5 v from z)⟩;exact h1.obj;exact h2.obj
 keep:=λi h h' st k=>by obtain⟨hz,M,⟨u,v,U⟩,h1,h2⟩:=st;exact⟨k z (by simp) _ hz,k TI (by simp) _ M,⟨u,v,k TO (by simp) _ U⟩,h1.at λo e=>k i1 (by simp) o e,h2.at λo e=>k i2 (by simp) o e⟩
 item:=by
  intro X hP hw hK hc i G s Z H E I hf st hg;subst hP hw hK;obtain⟨hz,M,⟨u,v,U⟩,h1,h2⟩:=st;obtain⟨xs,ys,x,y,ha,hb,hx,hy⟩:=hg;obtain⟨as,ra,pa,_⟩:=I.sq ha;obtain⟨bs,rb,pb,_⟩:=I.sq hb;obtain⟨ux,q8,rx⟩:=ra.get hx;obtain⟨uy,q9,ry⟩:=rb.get hy;have D:=F.apart I hf ha hb;refine kP D hz M U h1 h2 pa pb (x:=ux) (y:=uy) (by simpa using q8) (by simpa using q9) λh' a1 a2 a3 a4 a5 a6 hk=>?_;refine⟨_,rfl,wpAny_letOwnedTupleGo_zip (s:={ s with heap:=h' }) a1 λW q4 q0=>?_⟩;have q2:s.heap.objs.size≠z:=B9 (Al hz);have q7:∀c o,c∉[z,TI,TO,i1,i2]->s.heap.get? c=some o->W.get? c=some o:=λc o hc e=>by
   have L:c≠z/\c≠TI/\c≠TO/\c≠i1/\c≠i2:=by simpa using hc
   exact q0.extBut _ _ L.1 (hk c o L.1 L.2.2.1 L.2.2.2.1 L.2.2.2.2 e)
  have tI:BM W TI (.ref i1) (.ref i2):=q0.extBut _ _ F.TIz (hk _ _ F.TIz F.TITO F.TIi1 F.TIi2 M);have tO:BM W TO ux uy:=q0.extBut _ _ F.TOz a2;have t1:cT ka W i1 a (i+1):=a3.at λo e=>q0.extBut _ _ F.i1z e;have t2:cT kb W i2 b (i+1):=a4.at λo e=>q0.extBut _ _ F.i2z e;have tT:BM W s.heap.objs.size ux uy:=q0.extBut _ _ q2 a5;have hn:H s.heap.objs.size=none:=I.fresh;have I1:Inv X G Z (upd H s.heap.objs.size (.tup [x,y])) { s with heap:=W }:=by
   refine I.turnsNew (t':=s.toks) hf q7 (λc hc=>?_) (An _) ⟨by show 2<=sizeLine;rw[AW];decide,[ux,uy],.cons rx (.cons ry .nil),_,tT,rfl,_,rfl⟩;have L:c=z\/c=TI\/c=TO\/c=i1\/c=i2:=by simpa using hc
   rcases L with rfl|rfl|rfl|rfl|rfl;exact⟨_,q4⟩;exact⟨_,tI⟩;exact⟨_,tO⟩;obtain⟨o,e,_⟩:=t1.obj;exact⟨o,e⟩;obtain⟨o,e,_⟩:=t2.obj;exact⟨o,e⟩
  refine⟨.ref s.heap.objs.size,_,I1,rfl,⟨_,x,y,rfl,hn,I.newK,rfl,λw3 w4 q5 q6=>?_⟩,⟨q4,tI,⟨_,_,tO⟩,t1,t2⟩,λc hc=>?_⟩;rw[I.sq_inj q5 ha,I.sq_inj q6 hb];exact⟨hx,hy⟩;rw[aJ (A9 ?_)];exact(hf c hc).1;obtain⟨o,e,_⟩:∃o,s.heap.get? c=some o/\True:=by
   have L:c=z\/c=TI\/c=TO\/c=i1\/c=i2:=by simpa using hc
   rcases L with rfl|rfl|rfl|rfl|rfl;exact⟨_,hz,trivial⟩;exact⟨_,M,trivial⟩;exact⟨_,U,trivial⟩;obtain⟨o,e,_⟩:=h1.obj;exact⟨o,e,trivial⟩;obtain⟨o,e,_⟩:=h2.obj;exact⟨o,e,trivial⟩
  exact Al e
 done:=by
  intro X hP hw hK hc i G s Z H E I hf st hg;subst hP hw hK;obtain⟨hz,M,⟨u,v,U⟩,h1,h2⟩:=st;obtain⟨xs,ys,ha,hb,q3⟩:=hg;obtain⟨as,ra,pa,_⟩:=I.sq ha;obtain⟨bs,rb,pb,_⟩:=I.sq hb;have la:=ra.length;have lb:=rb.length;refine mD (I.ok.hd hc) (F.apart I hf ha hb) hz M U h1 h2 pa pb ?_ λh' hk=>⟨rfl,I.turns (t':=s.toks) hf λc o hc e=>?_⟩
  rcases q3 with q|q;exact .inl (by simp;omega);exact .inr (by simp;omega);have L:c≠z/\c≠TI/\c≠TO/\c≠i1/\c≠i2:=by simpa using hc
  exact hk c o L.1 L.2.2.1 L.2.2.2.1 L.2.2.2.2 e
 self:=λ_ _ _ _ _ st h=>FE st.1 h
noncomputable def aKE(K:Ai)(ta:TA):TI:=λZ H R=>ta Z H λvs H1=>∃(ka kb:Bool) (a b:Addr) (xs ys:List V),vs=[.ref a,.ref b]/\Sq ka K H1 a xs/\Sq kb K H1 b ys/\R (Itz K ka kb a b) H1
theorem aBl:B8 "zip" = some (.type "zip"):=by kernel_rfl
theorem aBm(n:Nat):aDn (n+4) (n+2) (n+3) n (n+1) where
 TIz:=by simp
 TOz:=by simp
 i1z:=by simp
 i2z:=by simp
 TITO:=by simp
 TIi1:=by simp
 TIi2:=by simp
 TOi1:=by simp
 TOi2:=by simp
 i12:=by simp
theorem aFI{X:Cx}{a b:Ag}{ta:TA}{p q0:Cf}{M:List Ag}{tk:Nat}{tp:Cf}(hg:Gl X "zip")(hm:X.mg "zip" = none)(ha:PA X [a,b] ta)(hs:AI [a,b] X.env=[(false,C4 a X.env),(false,C4 b X.env)])(W:AI [b] X.env=[(false,C4 b X.env)]) :
 PI X (.Tuple M tk tp) (.Call (.Name "zip" p) [a,b] [] q0) (aKE X.K ta):=by
 intro G s Z H R I h;refine Call_ (eS I hg hm aBl (BK (thn (ha q0 G s Z H _ I h) λus s1 ⟨vs,H1,L,r1,q1⟩=>?_) (by rw[hs,W]) (by rw[W];rfl)));obtain⟨ka,kb,a1,b1,xs,ys,e,q1,q2,q⟩:=q1;subst e;cases r1 with
 | cons r rr=>
  cases rr with
  | cons r' rr=>
   cases rr;cases r;cases r';obtain⟨as,ra,pa,_⟩:=L.sq q1;obtain⟨bs,rb,pb,_⟩:=L.sq q2;refine zZ pa pb λh' hz q3 q4 h1 h2 q6 hk=>FE (s:={ s1 with heap:=h' }) hz ?_;refine⟨s1.heap.objs.size+4,_,_,_,H1,rfl,L.kept (t':=s1.toks) hk,aBk (aBm _),⟨hz,q3,⟨_,_,q4⟩,h1,h2⟩,λc hc=>?_,q⟩;have q5:c=s1.heap.objs.size+4\/c=s1.heap.objs.size+2\/c=s1.heap.objs.size+3\/c=s1.heap.objs.size\/c=s1.heap.objs.size+1:=by simpa using hc
   have U:s1.heap.objs.size<=c:=by rcases q5 with rfl|rfl|rfl|rfl|rfl <;> omega
   exact L.fpOk U (L.hok.fresh U)
noncomputable def Its(x:Str):It:=⟨λi _=>i<x.cps.size,λi H v H'=>H'=H/\∃c,x.cps[i]? = some c/\v=.str ⟨#[c]⟩,λi _=>x.cps.size<=i⟩
theorem sQ{P:A5}{w:AM}{K:Ai}{tg:Ag}{it:Addr}{x:Str}{t:HS}{ty:String}(hn:["enumerate", "zip", "dict_itemiterator", "dict_reverseitemiterator", "odict_iterator", "itertools.zip_longest", "itertools.pairwise"].contains ty=false)
 (W:∀A':AY,A'.handled=none->Walks P w A' it [it] [it] x.cps.size (SignAt x) (λi h=>h.IsStrIter it ty x t i))
 (S:∀(A:AY) (i:Nat) (s:Ad) (Q:Value->Ad->Prop) (E:Value->Ad->Prop),s.heap.IsStrIter it ty x t i->Q (.ref it) s->Ao (Au P w) A (GJ (.ref it)) Q E s):uL P w K tg (Its x) [it] it (λi h=>i<=x.cps.size/\h.IsStrIter it ty x t i) where
 mem:=by simp
 obj:=λi h st b hb=>by
  have e:b=it:=by simpa using hb
  subst e;obtain⟨_,o,e,c,d⟩:=st;exact⟨o,e,λv z=>by rw[d] at z;cases z⟩
 keep:=λi h h' st k=>by obtain⟨hi,o,e,c,d⟩:=st;exact⟨hi,o,k it (by simp) o e,c,d⟩
 item:=by intro X U hw M hc i G s Z H E I hf st L;subst U hw M;obtain⟨f0,f1,f2,f3,f4,f5⟩:=hf it (by simp);refine(W X.A (I.ok.hd hc)).item i s _ _ L st.2 λv h' tk hv q kk=>?_;obtain⟨c,u,q0,rfl⟩:=hv;have I1:Inv X G Z H { s with heap:=h',toks:=tk }:=I.turned (λb o hb e=>kk b o (by simpa using hb) e) f0 f1 f3 f4 f5;obtain⟨o,e,oc,od⟩:=id q;exact⟨_,rfl,lL (s:={ s with heap:=h',toks:=tk }) e oc od hn ⟨.str ⟨#[c]⟩,H,I1,⟨u,rfl⟩,⟨rfl,c,q0,rfl⟩,⟨L,q⟩,λb hb=>(hf b hb).1⟩⟩
 done:=by intro X U hw M hc i G s Z H E I hf st L;subst U hw M;obtain⟨f0,f1,f2,f3,f4,f5⟩:=hf it (by simp);have e:i=x.cps.size:=Nat.le_antisymm st.1 L;subst e;exact(W X.A (I.ok.hd hc)).done s _ _ st.2 λh' tk eb=>⟨rfl,I.turned (λb o hb e=>eb b o (by simpa using hb) e) f0 f1 f3 f4 f5⟩
 self:=λA i s Q E st h=>S A i s Q E st.2 h
theorem aFJ{X:Cx}{tg l:Ag}{tl:TE}(hl:PE X l tl):PI X tg l (λZ H R=>tl Z H λx H1=>(∃a,x=.ref a/\(((∃xs,SqL X.K H1 a xs)/\R (Itl X.K a) H1)\/((∃xs,SqT X.K H1 a xs)/\R (Itt X.K a) H1)))\/∃z,x=.str z/\R (Its z) H1):=by
 intro G s Z H R I h;refine thn (hl G s Z H _ I h) λv s1 ⟨x,H1,L,r1,q1⟩=>?_;rcases q1 with⟨a,e,q⟩|⟨z,e,q⟩
 subst e;cases r1;rcases q with⟨⟨xs,W⟩,q⟩|⟨⟨xs,W⟩,q⟩
 obtain⟨M,rv,p,hz⟩:=L.list W;refine D6 p.isList ?_;refine⟨s1.heap.objs.size,[s1.heap.objs.size],_,_,H1,rfl,L.kept (t':=s1.toks) λb o e=>Ab _ e,nR a _,⟨_,A0 _ rfl,rfl,rfl⟩,λb hb=>?_,q⟩;have e:b=s1.heap.objs.size:=by simpa using hb
 subst e;exact L.fpOk (An _) (L.hok.fresh (An _));obtain⟨M,rv,p,hz⟩:=L.tuple W;refine EX (show s1.heap.IsTuple a M.toArray from p) ?_;refine⟨s1.heap.objs.size,[s1.heap.objs.size],_,_,H1,rfl,L.kept (t':=s1.toks) λb o e=>Ab _ e,uM a _,⟨_,A0 _ rfl,rfl,rfl⟩,λb hb=>?_,q⟩;have e:b=s1.heap.objs.size:=by simpa using hb
 subst e;exact L.fpOk (An _) (L.hok.fresh (An _));subst e;obtain⟨t,rfl⟩:=r1;cases ha:z.cps.all (·<128) with
 | false=>
  refine wpAny_pyIter_wide ha ⟨s1.heap.objs.size,[s1.heap.objs.size],_,_,H1,rfl,L.kept (t':=s1.toks) λb o e=>Ab _ e,sQ (ty:= "str_iterator") (x:=z) (t:=t) (by decide) (λA' U=>Walks.strWide U _ z t) (λA i s Q E st h=>wpAny_pyIter_striter_wide st h),⟨Cm _,_,A0 _ rfl,rfl,rfl⟩,λb hb=>?_,q⟩;have e:b=s1.heap.objs.size:=by simpa using hb
  subst e;exact L.fpOk (An _) (L.hok.fresh (An _))
 | true=>
  refine wpAny_pyIter_ascii ha ⟨s1.heap.objs.size,[s1.heap.objs.size],_,_,H1,rfl,L.kept (t':=s1.toks) λb o e=>Ab _ e,sQ (ty:= "str_ascii_iterator") (x:=z) (t:=t) (by decide) (λA' U=>Walks.strAscii U _ z t) (λA i s Q E st h=>wpAny_pyIter_striter_ascii st h),⟨Cm _,_,A0 _ rfl,rfl,rfl⟩,λb hb=>?_,q⟩;have e:b=s1.heap.objs.size:=by simpa using hb
  subst e;exact L.fpOk (An _) (L.hok.fresh (An _))
end L2
namespace Hp
open PySem PySem.Spec PyProof.Rows L2
theorem Kp.refl(R:Addr->Prop)(H:Hp):Kp R H H:=λ_ _ h _=>h
theorem Kp.same{R:Addr->Prop}{H H':Hp}(s:aG H H'):Kp R H H':=λa o h _=>s a o h
theorem Kp.trans{R:Addr->Prop}{H H1 q:Hp}(a:Kp R H H1)(b:Kp R H1 q):Kp R H q:=λc o h n=>b c o (a c o h n) n
section
variable {K:Fg} {RT Y J R:Addr->Prop} {Z:Sg} {ZV:L2.St} {H H':Hp}
theorem Kp.seqL(k:Kp R H H'){a:Addr}{xs:List V}(n:¬ R a)(h:SqL K H a xs):SqL K H' a xs:=by rcases h with(h|⟨o,h⟩)|h;exact .inl (.inl (k _ _ h n));exact .inl (.inr ⟨o,k _ _ h n⟩);exact .inr h
theorem Kp.seqT(k:Kp R H H')(I:∀a,R a->∃q,H a=some (.lst q)){a:Addr}{xs:List V}(h:SqT K H a xs):SqT K H' a xs:=by rcases h with(h|⟨o,h⟩)|h;refine .inl (.inl (k _ _ h λz=>?_));obtain⟨q,e⟩:=I a z;rw[h] at e;cases e;refine .inl (.inr ⟨o,k _ _ h λz=>?_⟩);obtain⟨q,e⟩:=I a z;rw[h] at e;cases e;exact .inr h
theorem Reps.kp{ex:Addr->Prop}{ds:List D}{xs:List V}(r:Reps K H ex ds xs)(k:Kp R H H')(L:∀a,R a->∃q,H a=some (.lst q))(U:∀a,R a->ex a):Reps K H' ex ds xs:=
 r.keep λa o e M=>k a o e λz=>by obtain⟨q,I⟩:=L a z;rw[e] at I;cases I;exact M q rfl (U a z)
theorem Rep.kp{ex:Addr->Prop}{d:D}{x:V}(r:Rep K H ex d x)(k:Kp R H H')(L:∀a,R a->∃q,H a=some (.lst q))(U:∀a,R a->ex a):Rep K H' ex d x:=
 r.keep λa o e M=>k a o e λz=>by obtain⟨q,I⟩:=L a z;rw[e] at I;cases I;exact M q rfl (U a z)
noncomputable def rtF(RT:Addr->Prop)(Z:Sg)(ZV:L2.St)(al:List Nat)(a:Addr):Prop:=RT a/\¬ alR Z ZV al a
theorem cZ:∀(al:List Nat) (Z:Sg) (i:Nat),(freeze Z al)[i]? = (Z[i]?).map λs=>if i∈al then s.freeze else s
 | [],Z,i=>by cases q:Z[i]? <;> simp[freeze,q]|j::al,Z,i=>by
  rw[freeze,cZ al];cases L:Z[j]? with
  | none=>
   simp only;cases q:Z[i]? with
   | none=>rfl|some s=>
    have M:i≠j:=λe=>by subst e;rw[q] at L;cases L
    simp[M]
  | some W=>simp only;by_cases I:i=j;subst I;have U:i<Z.length:=(Az.mp L).1;rw[As U,L];simp only[Option.map_some,A8,true_or,if_true];split;cases W <;> rfl;rfl;rw[Ac (Bp I)];simp[I]
theorem mE:∀(al:List Nat) (Z:Sg),(freeze Z al).length=Z.length
 | [],Z=>rfl|j::al,Z=>by rw[freeze,mE al];split;rw[Ax];rfl
theorem freeze_sh{al:List Nat}{i:Nat}{pa:Bool}{d:D}(h:(freeze Z al)[i]? = some (.sh pa d)):Z[i]? = some (.sh pa d)\/∃ds,i∈al/\Z[i]? = some (.own pa ds)/\d=.lst ds:=by
 rw[cZ] at h;cases q:Z[i]? with
 | none=>rw[q] at h;cases h|some s=>
  rw[q] at h;have h:(if i∈al then s.freeze else s)=.sh pa d:=Ah h;split at h;rename_i hi;cases s with
  | dead=>cases h|sh pa' d'=>cases h;exact .inl rfl|own pa' ds'=>cases h;exact .inr ⟨ds',hi,rfl,rfl⟩|lent _=>cases h|own2 _=>cases h
  exact .inl (by rw[h])
theorem dA{al:List Nat}{i:Nat}{pa:Bool}{ds:List D}(h:(freeze Z al)[i]? = some (.own pa ds)):Z[i]? = some (.own pa ds)/\i∉al:=by
 rw[cZ] at h;cases q:Z[i]? with
 | none=>rw[q] at h;cases h|some s=>rw[q] at h;have h:(if i∈al then s.freeze else s)=.own pa ds:=Ah h;split at h;cases s <;> cases h;rename_i hi;exact⟨by rw[h],hi⟩
theorem sR{al:List Nat}{i:Nat}{ds:List D}(h:(freeze Z al)[i]? = some (.lent ds)):Z[i]? = some (.lent ds):=by
 rw[cZ] at h;cases q:Z[i]? with
 | none=>rw[q] at h;cases h|some s=>
  rw[q] at h;have h:(if i∈al then s.freeze else s)=.lent ds:=Ah h;split at h;cases s with
  | lent d=>exact congrArg some h|_=>cases h
  rw[h]
theorem sU{al:List Nat}{i:Nat}{ds:List (List D)}(h:(freeze Z al)[i]? = some (.own2 ds)):Z[i]? = some (.own2 ds):=by
 rw[cZ] at h;cases q:Z[i]? with
 | none=>rw[q] at h;cases h|some s=>
  rw[q] at h;have h:(if i∈al then s.freeze else s)=.own2 ds:=Ah h;split at h;cases s with
  | own2 d=>exact congrArg some h|_=>cases h
  rw[h]
theorem Sx.frz(S:Sx K RT Y J Z ZV H)(al:List Nat):Sx K (rtF RT Z ZV al) Y J (freeze Z al) ZV H where
 sh:=λi pa d h=>by
  rcases freeze_sh h with h|⟨ds,hi,ho,e⟩
  obtain⟨v,I,L⟩:=S.sh i pa d h;exact⟨v,I,L.weak λa z=>z.elim (λz=>.inl z.1) .inr⟩;subst e;obtain⟨a,xs,I,L,U,M,h5⟩:=S.own i pa ds ho;refine⟨.ref a,I,a,xs,rfl,SqL.of L,?_,h5.weak λa z=>z.elim (λz=>.inl z.1) .inr⟩;rintro (z|z|⟨_,z⟩);exact z.2 ⟨i,hi,⟨pa,ds,ho⟩,I⟩;exact M (S.yo a z);exact M z
 own:=λi pa ds h=>by obtain⟨h,hi⟩:=dA h;obtain⟨a,xs,I,L,U,M,h5⟩:=S.own i pa ds h;refine⟨a,xs,I,L,⟨U,?_⟩,M,h5.weak λa z=>z.elim (λz=>.inl z.1) .inr⟩;rintro ⟨j,hj,⟨pa',ds',q⟩,W⟩;have:=S.inj i j pa pa' ds ds' a h q I W;subst this;exact hi hj
 trk:=λa z=>S.trk a (z.elim (λz=>.inl z.1) .inr)
 yo:=S.yo
 tk:=S.tk
 rt:=λa z=>S.rt a z.1
 inj:=λi j pa pa' ds ds' a I L U M=>S.inj i j pa pa' ds ds' a (dA I).1 (dA L).1 U M
 len:=by rw[mE];exact S.len
 lx:=S.lx.imp id (λ_ _ e=>⟨sR e,rfl⟩) (λ_ _ _ _ _ _ e=>e) (λa xs e z o=>⟨e,z,λ⟨j,_,⟨pa,ds,q⟩,W⟩=>by
  obtain⟨b,ys,I,L,U,M,h5⟩:=S.own j pa ds q;rw[W] at I;cases I;exact M o⟩) (λ_ _ r=>r.weak λa z=>z.imp (·.1) id) (λ_ _ e=>⟨sU e,rfl⟩) (λ_ _ _ _ _ _ e=>e) (λp xs e z=>⟨e,⟨z.1,λ⟨j,_,⟨pa,ds,q⟩,W⟩=>z.2.2 j pa ds q W⟩,z.2.1,λk pa ds q=>z.2.2 k pa ds (dA q).1⟩) λ_ _ r=>r
theorem Tk.new{p:Addr}{o:HO}(t:Tk K H)(h:K.lookup p=none):Tk K (upd H p o):=λb hb=>by by_cases e:b=p;rw[e];exact h;rw[aJ e] at hb;exact t b hb
noncomputable def Nw(K:Fg)(H:Hp)(a:Addr):Prop:=H a=none/\K.lookup a=none
theorem xF{a:Addr}{xs:List V}(q:SqL K H a xs):¬ Nw K H a:=by
 rintro ⟨n,k⟩;rcases q with(q|⟨o,q⟩)|⟨o,I,m,q,_⟩
 rw[n] at q;cases q;rw[n] at q;cases q;rw[k] at q;cases q
theorem Reps.outN{ex:Addr->Prop}{d:List D}{v:List V}(h:Reps K H ex d v):Reps K H (λb=>ex b\/Nw K H b) d v:=
 Reps.imp (λ_ _ q=>q) (λb xs I q=>⟨λz=>z.elim I (xF q),q⟩) (λ_ _ _ q=>q) d v h
theorem RvN.sub{ex:Addr->Prop}{v:Vl}{d:D}{x:V}(h:Rep K H' (λa=>exV RT Y J Z ZV v.pa v.al a\/ex a) d x):Rep K H' (λa=>exV RT Y J Z ZV (v.sub d).pa (v.sub d).al a\/ex a) (v.sub d).d x:=by unfold Vl.sub;by_cases q:noL d=true;rw[if_pos q];exact Rep.free d x q h;rw[if_neg q];exact h
structure pZ (K:Fg) (RT Y J:Addr->Prop) (Z:Sg) (ZV:L2.St) (H1:Hp) (J0:L2.It) (xs:List Vl) (al:List Nat):Prop where
 sub:∀v∈xs,∀j∈v.al,j∈al
 nofr:∀v∈xs,v.fr=false
 ok:∀(R:Addr->Prop),(∀b,R b->rtF RT Z ZV al b)->∀(i:Nat) (H:Hp),Kp R H1 H->(i<xs.length->J0.go i H)/\(xs.length<=i->J0.stop i H)/\∀x H',J0.yld i H x H'->∀v,xs[i]? = some v->aG H H'/\(Tk K H->Tk K H')/\Rep K H' (λa=>exV RT Y J Z ZV v.pa v.al a\/Nw K H1 a) v.d x
theorem vE{v:Vl}{d:D}:∀j∈(v.sub d).al,j∈v.al:=by unfold Vl.sub Vl.cl;split;intro j q;cases q;intro j q;exact q
theorem qD{v:Vl}{d:D}:(v.sub d).fr=false:=by unfold Vl.sub Vl.cl;split <;> rfl
theorem jH{x:Vl}{ds:List D}{i:Nat}{v:Vl}(h:(items x ds)[i]? = some v):∃d,ds[i]? = some d/\v=x.sub d:=by
 unfold items at h;rw[A6] at h;cases q:ds[i]? with
 | none=>rw[q] at h;cases h|some d=>rw[q] at h;exact⟨d,rfl,(Ah h).symm⟩
theorem jI{al:List Nat}{pa:Bool}{b:Addr}(h:rtF RT Z ZV al b):exV RT Y J Z ZV pa al b:=.inl h
theorem kG:∀(as bs:List D),(jD as bs).length=min as.length bs.length
 | [],_=>by simp[jD]|_::_,[]=>by simp[jD]|_::as,_::bs=>by rw[jD,lC,kG as bs,lC,lC];omega
theorem sV:∀{as bs:List D} {i:Nat} {a b:D},as[i]? = some a->bs[i]? = some b->(jD as bs)[i]? = some (.tup [a,b])
 | [],_,_,_,_,h,_=>by simp at h|_::_,[],_,_,_,_,h=>by simp at h|_::_,_::_,0,_,_,h,h'=>by simp at h h';subst h h';rfl|_::as,_::bs,i+1,a,b,h,h'=>by have:=sV (as:=as) (bs:=bs) (i:=i) (a:=a) (b:=b) (by simpa using h) (by simpa using h');simpa[jD] using this
theorem xG(S:Sx K RT Y J Z ZV H){x:Vl}{ds:List D}{a:Addr}{xs:List V}(q:SqL K H a xs)(n:¬ exV RT Y J Z ZV x.pa x.al a)(r:Reps K H (exV RT Y J Z ZV x.pa x.al) ds xs) :
 pZ K RT Y J Z ZV H (Itl K a) (items x ds) x.al where
 sub:=λv I j hj=>by obtain⟨d,_,e⟩:=Aw.mp I;subst e;exact vE j hj
 nofr:=λv I=>by obtain⟨d,_,e⟩:=Aw.mp I;subst e;exact qD
 ok:=λR M i H1 k=>by
  have W:SqL K H1 a xs:=k.seqL (λz=>n (jI (M a z))) q;have r1:Reps K H1 (λa=>exV RT Y J Z ZV x.pa x.al a\/Nw K H a) ds xs:=r.outN.kp k (λb z=>S.rt b (M b z).1) λb z=>.inl (jI (M b z));have hl:(items x ds).length=xs.length:=by unfold items;rw[lM,r.length]
  refine⟨λhi=>⟨xs,xs[i]'(by omega),W,Ap (by omega)⟩,λhi=>⟨xs,W,by omega⟩,λy H' U v I=>?_⟩;obtain⟨e,U⟩:=U;subst e;obtain⟨d,hd,e⟩:=jH I;subst e;obtain⟨y',L,ry⟩:=r1.get hd;rw[U xs W] at L;cases L;exact⟨aG.refl _,id,RvN.sub ry⟩
theorem aFK(S:Sx K RT Y J Z ZV H){x:Vl}{ds:List D}{a:Addr}{xs:List V}(q:SqT K H a xs)(r:Reps K H (exV RT Y J Z ZV x.pa x.al) ds xs) :
 pZ K RT Y J Z ZV H (Itt K a) (items x ds) x.al where
 sub:=λv I j hj=>by obtain⟨d,_,e⟩:=Aw.mp I;subst e;exact vE j hj
 nofr:=λv I=>by obtain⟨d,_,e⟩:=Aw.mp I;subst e;exact qD
 ok:=λR M i H1 k=>by
  have W:SqT K H1 a xs:=k.seqT (λb z=>S.rt b (M b z).1) q;have r1:Reps K H1 (λa=>exV RT Y J Z ZV x.pa x.al a\/Nw K H a) ds xs:=r.outN.kp k (λb z=>S.rt b (M b z).1) λb z=>.inl (jI (M b z));have hl:(items x ds).length=xs.length:=by unfold items;rw[lM,r.length]
  refine⟨λhi=>⟨xs,xs[i]'(by omega),W,Ap (by omega)⟩,λhi=>⟨xs,W,by omega⟩,λy H' U v I=>?_⟩;obtain⟨e,U⟩:=U;subst e;obtain⟨d,hd,e⟩:=jH I;subst e;obtain⟨y',L,ry⟩:=r1.get hd;rw[U xs W] at L;cases L;exact⟨aG.refl _,id,RvN.sub ry⟩
theorem qF{lo:Int}{m:Nat}{xs:List Vl}(I:xs=((Bt m).map λ(k:Nat)=>Vl.cl (.int (lo+(k:Int))))):pZ K RT Y J Z ZV H (Itr lo m) xs [] where
 sub:=λv q j M=>by subst I;obtain⟨d,_,e⟩:=Aw.mp q;subst e;exact M
 nofr:=λv q=>by subst I;obtain⟨d,_,e⟩:=Aw.mp q;subst e;rfl
 ok:=λR U i H1 k=>by
  have W:xs.length=m:=by rw[I,lM,DB]
  refine⟨λhi=>(show i<m by omega),λhi=>(show m<=i by omega),λy H' L v q=>?_⟩;obtain⟨e,L⟩:=L;subst e L;subst I;rw[A6] at q;have hi:i<m:=by have:=(Az.mp (show((Bt m).map λ(k:Nat)=>Vl.cl (.int (lo+(k:Int))))[i]? = some v by rw[A6];exact q)).1;simpa using this
  rw[List.getElem?_range hi] at q;cases q;exact⟨aG.refl _,id,rfl⟩
theorem aFL{z:Str}{xs:List Vl}(I:xs=(z.cps.toList.map λn=>Vl.cl (.str ⟨#[n]⟩))):pZ K RT Y J Z ZV H (Its z) xs [] where
 sub:=λv q j U=>by subst I;obtain⟨d,_,e⟩:=Aw.mp q;subst e;exact U
 nofr:=λv q=>by subst I;obtain⟨d,_,e⟩:=Aw.mp q;subst e;rfl
 ok:=λR W i H1 k=>by
  have hl:xs.length=z.cps.size:=by rw[I,lM,Cg]
  refine⟨λhi=>(show i<z.cps.size by omega),λhi=>(show z.cps.size<=i by omega),λy H' L v q=>?_⟩;obtain⟨e,c,M,L⟩:=L;subst e L;subst I;rw[A6,Array.getElem?_toList,M] at q;cases q;exact⟨aG.refl _,id,rfl⟩
theorem aFM(S:Sx K RT Y J Z ZV H){ka kb:Bool}{as bs:List D}{a b:Addr}{xs I:List V}{pa:Bool}{al:List Nat}(qa:Sq ka K H a xs)(qb:Sq kb K H b I)(na:ka=true->¬ exV RT Y J Z ZV pa al a)(nb:kb=true->¬ exV RT Y J Z ZV pa al b)
 (ra:Reps K H (exV RT Y J Z ZV pa al) as xs) (rb:Reps K H (exV RT Y J Z ZV pa al) bs I):pZ K RT Y J Z ZV H (Itz K ka kb a b) (items ⟨.non,false,pa,al⟩ (jD as bs)) al where
 sub:=λv W j hj=>by obtain⟨d,_,e⟩:=Aw.mp W;subst e;exact vE j hj
 nofr:=λv W=>by obtain⟨d,_,e⟩:=Aw.mp W;subst e;exact qD
 ok:=λR U i H1 k=>by
  have keep:∀{kk:Bool} {c:Addr} {zs:List V},(kk=true->¬ exV RT Y J Z ZV pa al c)->Sq kk K H c zs->Sq kk K H1 c zs:=by
   intro kk c zs nn q;cases kk with
   | true=>exact k.seqL (λz=>nn rfl (jI (U c z))) q|false=>exact k.seqT (λb z=>S.rt b (U b z).1) q
  have L:=keep na qa;have M:=keep nb qb;have q2:Reps K H1 (λa=>exV RT Y J Z ZV pa al a\/Nw K H a) as xs:=ra.outN.kp k (λb z=>S.rt b (U b z).1) λb z=>.inl (jI (U b z));have q3:Reps K H1 (λa=>exV RT Y J Z ZV pa al a\/Nw K H a) bs I:=rb.outN.kp k (λb z=>S.rt b (U b z).1) λb z=>.inl (jI (U b z));have hl:(items ⟨.non,false,pa,al⟩ (jD as bs)).length=min xs.length I.length:=by unfold items;rw[lM,kG,ra.length,rb.length]
  have ge:∀(h1:i<xs.length) (h2:i<I.length),True:=λ_ _=>trivial;refine⟨λhi=>?_,λhi=>⟨xs,I,L,M,by omega⟩,λy H' hy v W=>?_⟩;have h1:i<xs.length:=by omega
  have h2:i<I.length:=by omega
  exact⟨xs,I,xs[i],I[i],L,M,Ap h1,Ap h2⟩;obtain⟨p,x,y',rfl,hp,hk,rfl,hh⟩:=hy;obtain⟨hx,hy⟩:=hh xs I L M;obtain⟨d,hd,e⟩:=jH W;subst e;obtain⟨d1,q0,q4⟩:=q2.get' hx;obtain⟨d2,q1,q5⟩:=q3.get' hy;rw[sV q0 q1] at hd;cases hd;have sm:aG H1 (upd H1 p (.tup [x,y'])):=aG.new hp;refine⟨sm,λtk=>tk.new hk,RvN.sub (v:=⟨.non,false,pa,al⟩) ?_⟩;exact⟨p,[x,y'],rfl,SqT.of aO,.cons (q4.grow sm) (.cons (q5.grow sm) .nil)⟩
end
section
variable {X:Cx} {P:Pg} {Γ:Ct} {n:Nat} {RT Y J:Addr->Prop} {Z:Sg} {tg:Ag}
noncomputable def wI(X:Cx)(P:Pg)(n:Nat)(RT Y J:Addr->Prop)(Z:Sg)(it:Hp.It):TI:=λZV H R=>Sx X.K RT Y J Z ZV H/\RE (wx X ZV H) (walk P (call P n) Z it) λxs=>∀J0 H1,Tk X.K H1->aG H H1->pZ X.K RT Y J Z ZV H1 J0 xs.1 xs.2->R J0 H1
theorem qG{L:Ag}{t t':TI}(h:PI X tg L t)(f:∀ZV H R,Tk X.K H->t' ZV H R->t ZV H λJ0 H'=>Tk X.K H'->R J0 H'):PI X tg L t':=λG s ZV H R I hw=>thn (h G s ZV H _ I (f ZV H R I.tk hw)) λv s1 W=>thn W λq0 s2 ⟨it,fp,tn,J0,H',e,M,T,st,U,q⟩=>⟨it,fp,tn,J0,H',e,M,T,st,U,q M.tk⟩
theorem aIo{c:E}{e:Ag}(M:PE X e (WE X P n RT Y J Z c)):PI X tg e (wI X P n RT Y J Z (.seq c)):=by
 refine qG (aFJ M) λZV H RR t ⟨S,h⟩=>?_;have h:=RE.bind' (show RE _ (ev P (call P n) Z c >>= λx=>(match x.d with
  | .lst ds=>R.ok (items x ds,x.al)|.tup ds=>R.ok (items x ds,x.al)|.str a=>R.iff (decide (a.length<=lim)) (R.ok (a.cps.toList.map λn=>Vl.cl (.str ⟨#[n]⟩),[]))|_=>.bad)) _ from h)
 refine wE.one S h λx u H1 I W S1 r1=>?_;have rv:=r1.rv S;split at I;rename_i ds L;obtain⟨a,xs,e,q,U,r⟩:=rv.lst L;exact .inl ⟨a,e,.inl ⟨⟨xs,q⟩,λt'=>I _ _ t' r1.1 (xG S1 q U r)⟩⟩;rename_i ds L;obtain⟨a,xs,e,q,r⟩:=rv.tup L;exact .inl ⟨a,e,.inr ⟨⟨xs,q⟩,λt'=>I _ _ t' r1.1 (aFK S1 q r)⟩⟩;rename_i z L;obtain⟨c,I⟩:=I.iff;exact .inr ⟨z,rv.str L,λt'=>I _ _ t' r1.1 (aFL rfl)⟩;exact I.elim
theorem fA(i j:Int):(bQ i j).map Vl.cl=(Bt (j-i).toNat).map λ(k:Nat)=>Vl.cl (.int (i+(k:Int))):=by unfold bQ;rw[Bb];rfl
theorem eM{k:Int}(h:aR k=true):-(2 ^ 62)<=k/\k<2 ^ 62:=by unfold aR at h;simp only[bA,AT] at h;exact h
theorem aFN(M:Mc X P Γ n){b:E}{e:Ag}{f:Str}{p I:Cf}(hf:f=("range" : Str))(hg:bR Γ f=true)(ha:PE X e (WE X P n RT Y J Z b))(W:aK e=true):PI X tg (.Call (.Name f p) [e] [] I) (wI X P n RT Y J Z (.rng (.c (.int 0)) b)):=by
 subst hf;refine qG (jA (M.gl hg) (M.md.blt _ (by decide +kernel)) (jF ha wX W) (aA W)) λZV H RR t ⟨S,h⟩=>?_;have h:RE _ (ev P (call P n) Z b) λy=>RE _ (match (D.int 0),y.d with|.int i,.int j=>R.iff (aR i&&aR j) (R.ok ((bQ i j).map Vl.cl,[]))|_,_=>.bad) _:=
  RE.bind' (show RE _ (ev P (call P n) Z b >>= λy=>(match (D.int 0),y.d with|.int i,.int j=>R.iff (aR i&&aR j) (R.ok ((bQ i j).map Vl.cl,[]))|_,_=>.bad)) _ from h)
 refine⟨S,?_⟩;show RE _ (ev P (call P n) Z b >>= λx=>evs P (call P n) Z .nil >>= λxs=>R.ok (x::xs)) _;rw[RE.bind];refine h.mono λy q=>?_;split at q;rename_i i j e1 e2;cases e1;obtain⟨c,q⟩:=q.iff;rw[bA] at c;have L:=eM c.2;intro us H1 t1 s1 r1;obtain⟨u,r',U,ru,hr⟩:=r1;rw[show r'=[] from hr] at U;subst U;refine⟨j,by rw[ru.int e2],L.1,L.2,λt'=>q _ _ t' s1 (qF ?_)⟩;rw[fA];simp;exact q.elim
theorem aFO(M:Mc X P Γ n){a b:E}{W eb:Ag}{f:Str}{p q0:Cf}(hf:f=("range" : Str))(hg:bR Γ f=true)(ha:PE X W (WE X P n RT Y J Z a))(hb:PE X eb (WE X P n RT Y J Z b))(L:aK W=true)(q:aK eb=true) :
 PI X tg (.Call (.Name f p) [W,eb] [] q0) (wI X P n RT Y J Z (.rng a b)):=by subst hf;refine qG (zE (M.gl hg) (M.md.blt _ (by decide +kernel)) (jF ha (jF hb wX q) L) (by rw[aA L,aA q];rfl) (aA q)) λZV H RR t ⟨S,h⟩=>?_;have h:=RE.bind' (show RE _ (ev P (call P n) Z a >>= λx=>ev P (call P n) Z b >>= λy=>(match x.d,y.d with|.int i,.int j=>R.iff (aR i&&aR j) (R.ok ((bQ i j).map Vl.cl,[]))|_,_=>.bad)) _ from h);refine⟨S,?_⟩;show RE _ (ev P (call P n) Z a >>= λx=>evs P (call P n) Z (.cons b .nil) >>= λxs=>R.ok (x::xs)) _;rw[RE.bind];refine h.mono λx hx=>?_;rw[RE.bind];show RE _ (ev P (call P n) Z b >>= λx=>evs P (call P n) Z .nil >>= λxs=>R.ok (x::xs)) _;rw[RE.bind];refine(RE.bind' hx).mono λy U=>?_;split at U;rename_i i j e1 e2;obtain⟨c,U⟩:=U.iff;rw[bA] at c;have c1:=eM c.1;have c2:=eM c.2;intro us H1 t1 s1 r1;obtain⟨u,r',eu,ru,u2,r2,I,q1,hr⟩:=r1;rw[show r2=[] from hr] at I;subst I;subst eu;refine⟨i,j,by rw[ru.int e1,q1.int e2],⟨c1.1,c1.2,c2.1,c2.2⟩,λt'=>U _ _ t' s1 (qF ?_)⟩;rw[fA];exact U.elim
theorem aBn{ZV:L2.St}{H:Hp}{x:Vl}{u:V}{ds:List D}(L:Rv X.K RT Y J Z ZV H x u)(h:rY x.d=some ds):∃(k:Bool) (a:Addr) (xs:List V),u=.ref a/\Sq k X.K H a xs/\(k=true->¬ exV RT Y J Z ZV x.pa x.al a)/\Reps X.K H (exV RT Y J Z ZV x.pa x.al) ds xs:=by unfold rY at h;split at h;rename_i ds' I;cases h;obtain⟨a,xs,e,q,M,r⟩:=L.lst I;exact⟨true,a,xs,e,q,λ_=>M,r⟩;rename_i ds' I;cases h;obtain⟨a,xs,e,q,r⟩:=L.tup I;exact⟨false,a,xs,e,q,(λz=>absurd z bN),r⟩;cases h
theorem aIp(M:Mc X P Γ n){a b:E}{W eb:Ag}{f:Str}{p q0:Cf}{I:List Ag}{tk:Nat}{tp:Cf}(hf:f=("zip" : Str))(hg:bR Γ f=true)(ha:PE X W (WE X P n RT Y J Z a))(hb:PE X eb (WE X P n RT Y J Z b))(U:aK W=true)(q:aK eb=true) :
 PI X (.Tuple I tk tp) (.Call (.Name f p) [W,eb] [] q0) (wI X P n RT Y J Z (.zip a b)):=by
 subst hf;refine qG (aFI (M.gl hg) (M.md.blt _ (by decide +kernel)) (jF ha (jF hb wX q) U) (by rw[aA U,aA q];rfl) (aA q)) λZV H RR t ⟨S,h⟩=>?_;have h:=RE.bind' (show RE _ (ev P (call P n) Z a >>= λx=>ev P (call P n) Z b >>= λy=>(match rY x.d,rY y.d with
  | some as,some bs=>R.ok (items ⟨.non,false,x.pa||y.pa,x.al++y.al⟩ (jD as bs),x.al++y.al)|_,_=>.bad)) _ from h)
 refine⟨S,?_⟩;show RE _ (ev P (call P n) Z a >>= λx=>evs P (call P n) Z (.cons b .nil) >>= λxs=>R.ok (x::xs)) _;rw[RE.bind];refine h.mono λx hx=>?_;rw[RE.bind];show RE _ (ev P (call P n) Z b >>= λx=>evs P (call P n) Z .nil >>= λxs=>R.ok (x::xs)) _;rw[RE.bind];refine(RE.bind' hx).mono λy hy=>?_;split at hy;rename_i as bs e1 e2;intro us H1 t1 s1 r1;obtain⟨u,r',eu,ru,u2,r2,L,q1,hr⟩:=r1;rw[show r2=[] from hr] at L;subst L;subst eu;obtain⟨ka,a1,xs,rfl,qa,na,ra⟩:=aBn ru e1;obtain⟨kb,b1,ys,rfl,qb,nb,rb⟩:=aBn q1 e2;have S1:=S.grow s1 t1;have w1:∀c,exV RT Y J Z ZV (x.pa||y.pa) (x.al++y.al) c->exV RT Y J Z ZV x.pa x.al c:=λc z=>z.mono (λhp=>by rw[hp];rfl) λj hj=>AC _ hj;have w2:∀c,exV RT Y J Z ZV (x.pa||y.pa) (x.al++y.al) c->exV RT Y J Z ZV y.pa y.al c:=λc z=>z.mono (λhp=>by rw[hp,Bz]) λj hj=>Aq _ hj;exact⟨ka,kb,a1,b1,xs,ys,rfl,qa,qb,λt'=>hy _ _ t' s1 (aFM S1 qa qb (λhk z=>na hk (w1 _ z)) (λhk z=>nb hk (w2 _ z)) (ra.weak w1) (rb.weak w2))⟩;exact hy.elim
end
noncomputable def gs:List Nat->TGs
 | []=>aHv|i::is=>aDZ (nQ i) (gs is)
noncomputable def gT(K:Fg):T->TG
 | .n i=>nQ i|.t is=>aHw K is.length (gs is)
section
variable {K:Fg} {RT Y J:Addr->Prop} {Z:Sg} {ZV:L2.St} {H H':Hp}
theorem set_some{α:Type}{l:List α}{i j:Nat}{x y:α}(e:(l.set i x)[j]? = some y):(i=j/\x=y/\i<l.length)\/(i≠j/\l[j]? = some y):=by by_cases q:i=j;subst q;have I:i<(l.set i x).length:=(Az.mp e).1;rw[Ax] at I;rw[As I] at e;cases e;exact .inl ⟨rfl,rfl,I⟩;rw[Ac q] at e;exact .inr ⟨q,e⟩
theorem Sx.setSh(S:Sx K RT Y J Z ZV H){i:Nat}{pa:Bool}{d:D}{u:V}(h:Rep K H (λa=>RT a\/exB Y J pa a) d u):Sx K RT Y J (Z.set i (.sh pa d)) (ZV.set i (some u)) H where
 sh:=λj pa' d' e=>by
  rcases set_some e with⟨rfl,e,hl⟩|⟨I,e⟩
  cases e;exact⟨u,As (by rw[<-S.len];exact hl),h⟩;obtain⟨v,W,h2⟩:=S.sh j pa' d' e;exact⟨v,by rw[Ac I];exact W,h2⟩
 own:=λj pa' ds e=>by
  rcases set_some e with⟨rfl,e,hl⟩|⟨I,e⟩
  cases e;obtain⟨a,xs,W,h2⟩:=S.own j pa' ds e;exact⟨a,xs,by rw[Ac I];exact W,h2⟩
 trk:=S.trk
 yo:=S.yo
 tk:=S.tk
 rt:=S.rt
 inj:=λj j' pa' L ds ds' a M U e3 e4=>by
  rcases set_some M with⟨_,e,_⟩|⟨n1,M⟩
  cases e;rcases set_some U with⟨_,e,_⟩|⟨n2,U⟩
  cases e;rw[Ac n1] at e3;rw[Ac n2] at e4;exact S.inj j j' pa' L ds ds' a M U e3 e4
 len:=by rw[Ax,Ax];exact S.len
 lx:=S.lx.imp id (λj ds e=>by
  rcases set_some e with⟨_,z,_⟩|⟨I,e⟩
  cases z;exact⟨e,Ac I⟩) (λ_ _ _ _ _ _ e=>e) (λ_ _ e z _=>⟨e,z⟩) (λ_ _ r=>r) (λj ds e=>by
  rcases set_some e with⟨_,z,_⟩|⟨I,e⟩
  cases z;exact⟨e,Ac I⟩) (λ_ _ _ _ _ _ e=>e) (λp xs e z=>⟨e,z.1,z.2.1,λk pa' ds q=>by
  rcases set_some q with⟨_,w,_⟩|⟨I,q⟩
  cases w;rw[Ac I];exact z.2.2 k pa' ds q⟩) λ_ _ r=>r
theorem Rep.out{ex:Addr->Prop}{d:D}{v:V}{a:Addr}(h:Rep K H ex d v)(n:H a=none)(k:K.lookup a=none):Rep K H (λb=>b=a\/ex b) d v:=
 Rep.imp (λ_ _ q=>q) (λb xs L q=>⟨λz=>z.elim (λz=>by
  subst z;rcases q with(q|⟨o,q⟩)|⟨o,I,m,q,_⟩
  rw[n] at q;cases q;rw[n] at q;cases q;rw[k] at q;cases q) L,q⟩) (λ_ _ _ q=>q) d v h
theorem Reps.out{ex:Addr->Prop}{d:List D}{v:List V}{a:Addr}(h:Reps K H ex d v)(n:H a=none)(k:K.lookup a=none):Reps K H (λb=>b=a\/ex b) d v:=
 Reps.imp (λ_ _ q=>q) (λb xs L q=>⟨λz=>z.elim (λz=>by
  subst z;rcases q with(q|⟨o,q⟩)|⟨o,I,m,q,_⟩
  rw[n] at q;cases q;rw[n] at q;cases q;rw[k] at q;cases q) L,q⟩) (λ_ _ _ q=>q) d v h
theorem Sx.storeOwn(S:Sx K RT Y J Z ZV H){i:Nat}{a:Addr}{xs:List V}{ds:List D}{pa:Bool}(s:aG H H')(t:Tk K H')(hn:H a=none)(ha:H' a=some (.lst xs))(r:Reps K H' (λb=>(RT b\/b=a)\/exB Y J pa b) ds xs) :
 Sx K (λb=>RT b\/b=a) Y J (Z.set i (.own pa ds)) (ZV.set i (some (.ref a))) H' where
 sh:=λj pa' d' e=>by
  rcases set_some e with⟨rfl,e,L⟩|⟨I,e⟩
  cases e;obtain⟨v,W,h2⟩:=S.sh j pa' d' e;refine⟨v,by rw[Ac I];exact W,((h2.out hn (t a (by rw[ha];simp))).grow s).weak λb z=>?_⟩;rcases z with(z|z)|z;exact .inr (.inl z);exact .inl z;exact .inr (.inr z)
 own:=λj pa' ds' e=>by
  rcases set_some e with⟨rfl,e,L⟩|⟨I,e⟩
  cases e;exact⟨a,xs,As (by rw[<-S.len];exact L),ha,.inr rfl,λz=>S.trk a (.inr (.inr z)) hn,r⟩;obtain⟨a',q1,W,h2,h3,h4,h5⟩:=S.own j pa' ds' e;refine⟨a',q1,by rw[Ac I];exact W,s _ _ h2,.inl h3,h4,((h5.out hn (t a (by rw[ha];simp))).grow s).weak λb z=>?_⟩;rcases z with(z|z)|z;exact .inr (.inl z);exact .inl z;exact .inr (.inr z)
 trk:=λb z q=>by rcases z with(z|z)|z;exact S.trk b (.inl z) (s.free q);rw[z,ha] at q;cases q;exact S.trk b (.inr z) (s.free q)
 yo:=S.yo
 tk:=t
 rt:=λb z=>by rcases z with z|z;obtain⟨ys,e⟩:=S.rt b z;exact⟨ys,s _ _ e⟩;rw[z];exact⟨xs,ha⟩
 inj:=λj j' pa' q0 q2 q3 c e1 M e3 U=>by
  have fr:∀{j:Nat} {pa:Bool} {ds:List D},Z[j]? = some (.own pa ds)->ZV[j]? = some (some (.ref a))->False:=λ{j pa ds} e q=>by obtain⟨a',q1,W,h2,_⟩:=S.own j pa ds e;rw[q] at W;cases W;rw[hn] at h2;cases h2
  rcases set_some e1 with⟨rfl,e,L⟩|⟨n1,e1⟩
  rcases set_some M with⟨rfl,_,_⟩|⟨n2,M⟩
  rfl;rw[As (by rw[<-S.len];exact L)] at e3;cases e3;rw[Ac n2] at U;exact(fr M U).elim;rw[Ac n1] at e3;rcases set_some M with⟨rfl,e,L⟩|⟨n2,M⟩
  rw[As (by rw[<-S.len];exact L)] at U;cases U;exact(fr e1 e3).elim;rw[Ac n2] at U;exact S.inj j j' pa' q0 q2 q3 c e1 M e3 U
 len:=by rw[Ax,Ax];exact S.len
 lx:=S.lx.imp id (λj ds e=>by
  rcases set_some e with⟨_,z,_⟩|⟨I,e⟩
  cases z;exact⟨e,Ac I⟩) (λ_ _ _ _ _ _ e=>e) (λb ys e z _=>⟨s _ _ e,.inl z⟩) (λds ys r=>((r.out hn (t a (by rw[ha];simp))).grow s).weak λb z=>by
  rcases z with(z|z)|z;exact .inr (.inl z);exact .inl z;exact .inr (.inr z)) (λj ds e=>by
  rcases set_some e with⟨_,z,_⟩|⟨I,e⟩
  cases z;exact⟨e,Ac I⟩) (λ_ _ _ _ _ _ e=>e) (λp ys e z=>⟨s _ _ e,.inl z.1,z.2.1,λk pa' ds q v=>by
  rcases set_some q with⟨rfl,w,L⟩|⟨I,q⟩
  rw[As (by rw[<-S.len];exact L)] at v;cases v;rw[hn] at e;cases e;rw[Ac I] at v;exact z.2.2 k pa' ds q v⟩) λ_ _ r=>aG.seqT s r
theorem eN{v:Vl}(h:v.fr=false):v.slot=.sh v.pa v.d:=by unfold Vl.slot;rw[h]
theorem xH{v:Vl}{ds:List D}(h:v.fr=true)(hd:v.d=.lst ds):v.slot=.own v.pa ds:=by unfold Vl.slot;rw[h,hd]
theorem Sx.store(S:Sx K RT Y J Z ZV H){v:Vl}{u:V}(I:Ro K RT Y J Z ZV H H' v u)(t:Tk K H')(i:Nat) :
 ∃q,Sx K q Y J ((freeze Z v.al).set i v.slot) (ZV.set i (some u)) H'/\∀b,q b->RT b\/H b=none:=by by_cases hf:v.fr=true;obtain⟨s,h⟩:=I;rw[if_pos hf] at h;obtain⟨a,xs,ds,M,U,L,W,r⟩:=h;subst M;rw[xH hf U];refine⟨_,(S.frz v.al).storeOwn s t L W (r.weak λb z=>?_),λb z=>z.elim (λz=>.inl z.1) λz=>.inr (by rw[z];exact L)⟩;rcases z with(z|z)|z;exact .inr (.inl z);exact .inl z;exact .inr (.inr z);rw[eN (by simpa using hf)];exact⟨_,((S.grow I.1 t).frz v.al).setSh (I.rv S),λb z=>.inl z.1⟩
theorem aEk:∀{is:List Nat} {us:List V} {ZV:L2.St} {H:Hp} {Q:L2.St->Hp->Prop},is.length=us.length->Q ((is.zip us).foldl (λs p=>s.set p.1 (some p.2)) ZV) H->gs is us ZV H Q
 | [],[],_,_,_,_,h=>⟨rfl,h⟩
 | [],_::_,_,_,_,e,_=>by simp at e|_::_,[],_,_,_,e,_=>by simp at e|i::is,u::us,ZV,H,Q,e,h=>⟨u,us,rfl,aEk (is:=is) (us:=us) (by simpa using e) h⟩
theorem sW{v:Vl}{d:D}:(v.sub d).slot=.sh (!noL d&&v.pa) d:=by
 rw[eN qD];unfold Vl.sub Vl.cl;split;rename_i h;rw[h];rfl;rename_i h;have:noL d=false:=by simpa using h
 rw[this];rfl
theorem Sx.setAll{v:Vl}:∀{is:List Nat} {ds:List D} {us:List V} {Z:Sg} {ZV:L2.St},Sx K RT Y J Z ZV H->Reps K H (λa=>RT a\/exB Y J v.pa a) ds us ->
 Sx K RT Y J ((is.zip ds).foldl (λZ p=>Z.set p.1 (v.sub p.2).slot) Z) ((is.zip us).foldl (λs p=>s.set p.1 (some p.2)) ZV) H
 | [],_,_,_,_,S,_=>S|_::_,[],us,_,_,S,r=>by rw[show us=[] from r];exact S|i::is,d::ds,us,Z,ZV,S,r=>by
  obtain⟨x,M,e,q,I⟩:=r;subst e;refine Sx.setAll (v:=v) (is:=is) (ds:=ds) (us:=M) ?_ I;show Sx K RT Y J (Z.set i (v.sub d).slot) (ZV.set i (some x)) H;rw[sW];refine S.setSh ?_;cases L:noL d with
  | true=>exact Rep.free d x L q|false=>exact q
theorem jJ{α:Type}{q:Type}(f:q->α):∀{is:List Nat} {bs:List q} {l:List α} {j:Nat},j∉is->((is.zip bs).foldl (λs p=>s.set p.1 (f p.2)) l)[j]? = l[j]?
 | [],_,_,_,_=>rfl|_::_,[],_,_,_=>rfl|i::is,b::bs,l,j,h=>by
  have h':i≠j/\j∉is:=by refine⟨λe=>h (by simp[e]),λz=>h (Af _ z)⟩
  rw[Bh,BW,jJ f (is:=is) (bs:=bs) h'.2,Ac h'.1]
theorem sX{α:Type}{q:Type}(f:q->α):∀{is:List Nat} {bs:List q} {l:List α},((is.zip bs).foldl (λs p=>s.set p.1 (f p.2)) l).length=l.length
 | [],_,_=>rfl|_::_,[],_=>rfl|i::is,b::bs,l=>by rw[Bh,BW,sX f (is:=is) (bs:=bs),Ax]
theorem fold_mem{α:Type}{I:Type}(f:I->α):∀{is:List Nat} {bs:List I} {l:List α} {j:Nat} {x:α},((is.zip bs).foldl (λs p=>s.set p.1 (f p.2)) l)[j]? = some x->l[j]? = some x\/∃b,x=f b
 | [],_,_,_,_,h=>.inl h|_::_,[],_,_,_,h=>.inl h|i::is,b::bs,l,j,x,h=>by
  rw[Bh,BW] at h;rcases fold_mem f (is:=is) (bs:=bs) h with q|q;rcases set_some q with⟨_,e,_⟩|⟨_,e⟩
  exact .inr ⟨b,e.symm⟩;exact .inl e;exact .inr q
theorem mF{v:Vl}{is:List Nat}{q:Sg}(e:aY Z v (.t is)=.ok q):∃ds,v.d=.tup ds/\ds.length=is.length/\q=(is.zip ds).foldl (λZ p=>Z.set p.1 (v.sub p.2).slot) Z:=by unfold aY at e;simp only at e;split at e;rename_i ds hd;split at e;rename_i I;cases e;exact⟨ds,hd,I,rfl⟩;cases e;cases e
theorem mH{v:Vl}{i:Nat}{q:Sg}(e:aY Z v (.n i)=.ok q):q=Z.set i v.slot:=by cases(show R.ok (Z.set i v.slot)=R.ok q from e);rfl
theorem aBo{v:Vl}{t:T}{q:Sg}{j:Nat}(e:aY Z v t=.ok q)(h:j∉tIx t):q[j]? = Z[j]? := by
 cases t with
 | n i=>rw[mH e];exact Ac λz=>h (by simp[tIx,z])|t is=>obtain⟨ds,_,_,e⟩:=mF e;rw[e];exact jJ (λd=>(v.sub d).slot) h
theorem sY{v:Vl}{t:T}{q:Sg}(e:aY Z v t=.ok q):q.length=Z.length:=by
 cases t with
 | n i=>rw[mH e,Ax]|t is=>obtain⟨ds,_,_,e⟩:=mF e;rw[e];exact sX (λd=>(v.sub d).slot)
theorem aBp{v:Vl}{t:T}{I:Sg}{j:Nat}{pa:Bool}{ds:List D}(hf:v.fr=false)(e:aY Z v t=.ok I)(h:I[j]? = some (.own pa ds)):Z[j]? = some (.own pa ds):=by
 cases t with
 | n i=>
  rw[mH e,eN hf] at h;rcases set_some h with⟨_,e,_⟩|⟨_,e⟩
  cases e;exact e
 | t is=>
  obtain⟨ds',_,_,e⟩:=mF e;rw[e] at h;rcases fold_mem (λd=>(v.sub d).slot) h with q|⟨b,q⟩
  exact q;rw[sW] at q;cases q
theorem xI(S:Sx K RT Y J Z ZV H){t:T}{v:Vl}{u:V}{Q:L2.St->Hp->Prop}{U:Sg}(L:v.fr=false)(h:Rep K H (λa=>RT a\/exB Y J v.pa a) v.d u)(e:aY Z v t=.ok U)
 (q:∀I,Sx K RT Y J U I H->(∀j,j∉tIx t->I[j]? = ZV[j]?)->Q I H):gT K t u ZV H Q:=by
 cases t with
 | n i=>rw[mH e,eN L] at q;exact q _ (S.setSh h) λj M=>Ac λz=>M (by simp[tIx,z])|t is=>obtain⟨ds,hd,hl,e⟩:=mF e;rw[hd] at h;obtain⟨a,xs,rfl,W,r⟩:=h;have l2:=r.length;refine⟨a,xs,rfl,W,by omega,aEk (by omega) (q _ ?_ λj M=>?_)⟩;rw[e];exact S.setAll r;exact jJ (λd=>some d) M
end
section
variable {X:Cx} {P:Pg} {Γ:Ct} {n:Nat} {RT Y J:Addr->Prop} {Z:Sg} {tg:Ag} {pos:Cf}
theorem sZ(M:Mc X P Γ n):∀{is:List Nat} {es:List Ag},is.length=es.length->((is.zip es).all λp=>match p.2 with|.Name x _=>aS Γ p.1 x|_=>false)=true ->
 PGs X es (gs is)/\(Co es X.env).length=is.length/\(Co es X.env).findIdx? (·.1)=none
 | [],[],_,_=>⟨aCM,rfl,rfl⟩
 | [],_::_,e,_=>by simp at e|_::_,[],e,_=>by simp at e|i::is,e::es,hl,h=>by
  rw[Bh,Dh,bA] at h;obtain⟨I,L,U⟩:=sZ M (is:=is) (es:=es) (by simpa using hl) h.2;cases e with
  | Name x p=>have hs:aS Γ i x=true:=h.1;unfold aS at hs;simp only[bA,beq_iff_eq] at hs;have q:Co (.Name x p::es) X.env=(false,DQ (.Name x p) X.env)::Co es X.env:=rfl;refine⟨aAx (vX M.nd (by rw[M.N];exact hs.1.1) (M.loc hs.1.2) (M.st x hs.1.2)) I (by rw[q];rfl),?_,?_⟩;rw[q,lC,lC,L];rw[q,List.findIdx?_cons];simp[U]|_=>cases h.1
theorem tB(M:Mc X P Γ n){t:T}(h:fO Γ t tg=true):PG X tg (gT X.K t):=by
 cases t with
 | n i=>
  cases tg with
  | Name x p=>have hs:aS Γ i x=true:=h;unfold aS at hs;simp only[bA,beq_iff_eq] at hs;exact vX M.nd (by rw[M.N];exact hs.1.1) (M.loc hs.1.2) (M.st x hs.1.2)|_=>cases h
 | t is=>
  cases tg with
  | Tuple es k p=>have h:(is.length==es.length&&(is.zip es).all λp=>match p.2 with|.Name x _=>aS Γ p.1 x|_=>false)=true:=h;rw[bA,beq_iff_eq] at h;obtain⟨q,I,L⟩:=sZ M h.1 h.2;exact aFa M.calm q I L|_=>cases h
noncomputable def ch0(k:Nat)(caps:List Nat)(Z:Sg):Sg:=Ae k .dead++caps.map λi=>(Z[i]?).getD .dead
theorem ch0_get{k:Nat}{caps:List Nat}{Z:Sg}{j:Nat}{s:Sl}(h:(ch0 k caps Z)[j]? = some s):s=.dead\/∃L i,j=k+L/\caps[L]? = some i/\Z[i]? = some s:=by
 unfold ch0 at h;by_cases I:j<k;rw[Ba (by simpa using I),BF,if_pos I] at h;cases h;exact .inl rfl;rw[AN (by simpa using I),AO,A6] at h;cases e:caps[j-k]? with
 | none=>rw[e] at h;cases h|some i=>
  rw[e] at h;have h':(Z[i]?).getD .dead=s:=Ah h;cases q:Z[i]? with
  | none=>rw[q] at h';exact .inl h'.symm|some z=>rw[q] at h';exact .inr ⟨j-k,i,by omega,e,by rw[q];exact congrArg some h'⟩
theorem tD{k:Nat}{caps:List Nat}{Z:Sg}{j:Nat}{s:Sl}(q:j<k)(h:(ch0 k caps Z)[j]? = some s):s=.dead:=by unfold ch0 at h;rw[Ba (by simpa using q),BF,if_pos q] at h;cases h;rfl
theorem kU{k:Nat}{caps:List Nat}{ZV:L2.St}{j i:Nat}{v:V}(e:caps[j]? = some i)(h:ZV[i]? = some (some v)):(eZ k caps ZV)[k+j]? = some (some v):=by unfold eZ;rw[AN (by simp),AO,A6,AJ,e];show some ((ZV[i]?).getD none)=_;rw[h];rfl
theorem iO{k:Nat}{caps:List Nat}{ZV:L2.St}{j i:Nat}{v:V}(e:caps[j]? = some i)(h:(eZ k caps ZV)[k+j]? = some (some v)):ZV[i]? = some (some v):=by
 unfold eZ at h;rw[AN (by simp),AO,A6,AJ,e] at h;have h':(ZV[i]?).getD none=some v:=Ah h;cases q:ZV[i]? with
 | none=>rw[q] at h';cases h'|some z=>rw[q] at h';exact congrArg some h'
theorem gK{α:Type}:∀{l:List α},l.Nodup->∀{i j:Nat} {x:α},l[i]? = some x->l[j]? = some x->i=j
 | [],_,_,_,_,h,_=>by simp at h|a::l,hn,0,0,_,_,_=>rfl|a::l,hn,0,j+1,x,h1,h2=>by
  have e:a=x:=by simpa using h1
  have:x∈l:=mG (by simpa using h2);subst e;exact absurd this (Bd.mp hn).1
 | a::l,hn,i+1,0,x,h1,h2=>by
  have e:a=x:=by simpa using h2
  have:x∈l:=mG (by simpa using h1);subst e;exact absurd this (Bd.mp hn).1
 | a::l,hn,i+1,j+1,x,h1,h2=>congrArg (·+1) (gK (Bd.mp hn).2 (i:=i) (j:=j) (x:=x) (by simpa using h1) (by simpa using h2))
theorem Sx.child{K:Fg}{ZV:L2.St}{H:Hp}(S:Sx K RT Y J Z ZV H){k:Nat}{caps:List Nat}(nd:caps.Nodup):Sx K RT Y J (ch0 k caps Z) (eZ k caps ZV) H where
 sh:=λj pa d e=>by
  rcases ch0_get e with z|⟨j',i,rfl,M,hs⟩
  cases z;obtain⟨v,U,h2⟩:=S.sh i pa d hs;exact⟨v,kU M U,h2⟩
 own:=λj pa ds e=>by
  rcases ch0_get e with z|⟨j',i,rfl,M,hs⟩
  cases z;obtain⟨a,xs,U,h2⟩:=S.own i pa ds hs;exact⟨a,xs,kU M U,h2⟩
 trk:=S.trk
 yo:=S.yo
 tk:=S.tk
 rt:=S.rt
 inj:=λj1 j2 pa pa' ds ds' a W e2 e3 e4=>by
  rcases ch0_get W with z|⟨q0,i1,rfl,I,q2⟩
  cases z;rcases ch0_get e2 with z|⟨q1,i2,rfl,L,q3⟩
  cases z;have:=S.inj i1 i2 pa pa' ds ds' a q2 q3 (iO I e3) (iO L e4);subst this;rw[gK nd I L]
 len:=by unfold ch0 eZ;rw[lA,lA,lM,lM,AO,AO]
 lx:=S.lx.imp (λj=>(caps[j-k]?).getD 0) (λj ds e=>by
  rcases ch0_get e with z|⟨j',i,rfl,M,hs⟩
  cases z;rw[AJ,M];refine⟨hs,?_⟩;obtain⟨a,xs,U,_⟩:=S.lx.at' i ds hs;rw[kU M U];exact U.symm) (λj1 j2 ds ds' W e2 q=>by
  rcases ch0_get W with z|⟨q0,i1,rfl,I,_⟩
  cases z;rcases ch0_get e2 with z|⟨q1,i2,rfl,L,_⟩
  cases z;rw[AJ,AJ,I,L] at q;have q:i1=i2:=q;subst q;rw[gK nd I L]) (λ_ _ e z _=>⟨e,z⟩) (λ_ _ r=>r) (λj ds e=>by
  rcases ch0_get e with z|⟨j',i,rfl,M,hs⟩
  cases z;rw[AJ,M];refine⟨hs,?_⟩;obtain⟨a,xs,U,_⟩:=S.lx.at2 i ds hs;rw[kU M U];exact U.symm) (λj1 j2 ds ds' W e2 q=>by
  rcases ch0_get W with z|⟨q0,i1,rfl,I,_⟩
  cases z;rcases ch0_get e2 with z|⟨q1,i2,rfl,L,_⟩
  cases z;rw[AJ,AJ,I,L] at q;have q:i1=i2:=q;subst q;rw[gK nd I L]) (λp xs e z=>⟨e,z.1,z.2.1,λj pa ds q w=>by
  rcases ch0_get q with v|⟨j',i,rfl,M,hs⟩
  cases v;exact z.2.2 i pa ds hs (iO M w)⟩) λ_ _ r=>r
theorem Sx.forget{K:Fg}{Z':Sg}{ZV:L2.St}{H:Hp}(S:Sx K RT Y J Z ZV H)(hl:Z'.length=Z.length)(h:∀(j:Nat) (s:Sl),Z'[j]? = some s->s=.dead\/Z[j]? = some s):Sx K RT Y J Z' ZV H where
 sh:=λj pa d e=>by rcases h j _ e with z|z;cases z;exact S.sh j pa d z
 own:=λj pa d e=>by rcases h j _ e with z|z;cases z;exact S.own j pa d z
 trk:=S.trk
 yo:=S.yo
 tk:=S.tk
 rt:=S.rt
 inj:=λI L pa pa' ds ds' a M U W e4=>by rcases h I _ M with z|z1;cases z;rcases h L _ U with z|z2;cases z;exact S.inj I L pa pa' ds ds' a z1 z2 W e4
 len:=by rw[hl];exact S.len
 lx:=S.lx.imp id (λj ds e=>(h j _ e).elim (λz=>by cases z) λz=>⟨z,rfl⟩) (λ_ _ _ _ _ _ e=>e) (λ_ _ e z _=>⟨e,z⟩) (λ_ _ r=>r) (λj ds e=>(h j _ e).elim (λz=>by cases z) λz=>⟨z,rfl⟩) (λ_ _ _ _ _ _ e=>e) (λp xs e z=>⟨e,z.1,z.2.1,λk pa ds q=>(h k _ q).elim (λw=>by cases w) λw=>z.2.2 k pa ds w⟩) λ_ _ r=>r
noncomputable def wTs(X:Cx)(P:Pg)(n:Nat)(RT Y J:Addr->Prop)(Z:Sg)(cs:Es):TT:=λZV H Q=>Sx X.K RT Y J Z ZV H/\RE (wx X ZV H) (tsts P (call P n) Z cs) λk=>∀H',Tk X.K H'->aG H H'->Q k H'
noncomputable def tE(K:Fg)(P:Pg)(n:Nat)(RT Y J:Addr->Prop)(Z:Sg)(cs:Es):TT:=λZV H Q=>Sx K RT Y J Z ZV H/\RE (λ_=>False) (tsts P (call P n) Z cs) λk=>∀H',Tk K H'->aG H H'->Q k H'
noncomputable def clW(K:Fg)(W:Value->L2.St->Hp->Prop)(ZV:L2.St)(H:Hp):D->Prop
 | .err c fs=>∀C1:Addr,Db K AF c=some (some (.ref C1))->W (exD C1 fs) ZV H|_=>False
theorem clW.xw{X:Cx}{W:Value->L2.St->Hp->Prop}(h:Rs X W){ZV:L2.St}{H:Hp}{x:D}(z:clW X.K W ZV H x):XW X ZV H x:=by
 cases x with
 | err c fs=>exact λcls q G s a I L=>h G ZV H s a _ I L (z cls q)|_=>exact z
noncomputable def wE0(K:Fg)(P:Pg)(n:Nat)(W:Value->L2.St->Hp->Prop)(RT Y J:Addr->Prop)(Z:Sg)(c:E):TE:=λZV H Q=>Sx K RT Y J Z ZV H/\RE (λx=>∀H',Tk K H'->aG H H'->clW K W ZV H' x) (ev P (call P n) Z c) λv=>∀u H',Tk K H'->Ro K RT Y J Z ZV H H' v u->Q u H'
theorem qH{es:List Ag}{cs:Es}(h:PTs X es (wTs X P n RT Y J Z cs)):PTs X es (tE X.K P n RT Y J Z cs):=λG s ZV H Q I ⟨S,q⟩=>h G s ZV H Q I ⟨S,q.weak λ_ z=>z.elim⟩
theorem vF{e:Ag}{c:E}{W:Value->L2.St->Hp->Prop}(L:Rs X W)(h:PE X e (WE X P n RT Y J Z c)):PE X e (wE0 X.K P n W RT Y J Z c):=λG s ZV H Q I ⟨S,q⟩=>h G s ZV H Q I ⟨S,q.weak λ_ z H' t M=>clW.xw L (z H' t M)⟩
theorem aFP:PTs X [] (wTs X P n RT Y J Z .nil):=λG s ZV H Q I ⟨S,h⟩=>wW G s ZV H Q I ((show ∀H',Tk X.K H'->aG H H'->Q true H' from h) H I.tk (aG.refl H))
theorem aFQ{c:E}{e:Ag}(h:PT X e (WT X P n RT Y J Z c)):PTs X [e] (wTs X P n RT Y J Z (.cons c .nil)):=λG s ZV H Q I ⟨S,q⟩=>aDj h G s ZV H Q I ⟨S,by
 have q:=RE.bind' (show RE _ (tst P (call P n) Z c >>= λx=>if x=true then tsts P (call P n) Z .nil else R.ok false) _ from q);refine q.mono λk L=>?_;cases k with
 | true=>exact L|false=>exact L⟩
theorem Rvs.append{K:Fg}{ZV:L2.St}{H:Hp}:∀{vs ws:List Vl} {us I:List V},Rvs K RT Y J Z ZV H vs us->Rvs K RT Y J Z ZV H ws I->Rvs K RT Y J Z ZV H (vs++ws) (us++I)
 | [],_,_,_,h,q=>by rw[show _=[] from h];exact q|v::vs,_,_,_,h,q=>by obtain⟨u,r,e,L,M⟩:=h;subst e;exact⟨u,_,rfl,L,Rvs.append M q⟩
noncomputable def lv(k:Nat)(caps al:List Nat)(v:Vl):Vl:=⟨v.d,false,v.pa,al++v.al.filterMap λj=>caps[j-k]?⟩
theorem R.bind_ok{α q:Type}{x:R α}{f:α->R q}{b:q}(h:(x >>= f)=.ok b):∃a,x=.ok a/\f a=.ok b:=by
 cases x with
 | ok a=>exact⟨a,rfl,h⟩|exc z=>cases h|bad=>cases h
theorem jK(Z:Sg)(v:Vl)(t:T):∀z,aY Z v t≠.exc z:=λz q=>by
 unfold aY at q
 repeat' split at q
 all_goals cases q
theorem RE.both{α:Type}{x:R α}{p q:α->Prop}{w I:D->Prop}(h:RE w x p)(f:∀e,w e->x=.exc e->I e)(g:∀a,p a->q a):RE I x q:=by
 cases x with
 | ok a=>exact g a h|exc e=>exact f e h rfl|bad=>exact h
theorem aBq{fn:Bool}{k:Nat}{caps:List Nat}{t:T}{it:Hp.It}{cond:Es}{elt:E}(w8:caps.Nodup)(hk:∀i∈tIx t,i<k)(hf:fn=true){ZV:L2.St}{H:Hp}{Q:VK}(hw:WE X P n RT Y J Z (.comp k caps t it cond elt) ZV H Q) :
 aAV (λc Z H=>fn=true/\RX X c Z H) k caps (wI X P n RT Y J Z it) (gT X.K t) (λZV H Q=>∃RT Y J Z1,tE X.K P n RT Y J Z1 cond ZV H Q) (λW ZV H Q=>∃RT Y J Z1,wE0 X.K P n W RT Y J Z1 elt ZV H Q) ZV H λv H'=>Tk X.K H'->Q v H':=by
 obtain⟨S,h⟩:=hw
 let f:List Nat->Vl->R (Option Vl):=λal x=>aY (ch0 k caps (freeze Z al)) x t >>= λZ1=>(tsts P (call P n) Z1 cond).calm >>= λb=>if b=true then (ev P (call P n) Z1 elt >>= λy=>R.ok (some y)) else R.ok none
 have h:=RE.bind' (show RE _ (walk P (call P n) Z it >>= λxs=>R.iff (decide (xs.1.length<=lim)) (cR (f xs.2) xs.1 >>= λvs=>R.ok (dJ k caps xs.2 vs))) (Wn X RT Y J Z ZV H Q) from h);refine⟨S,h.mono λxs hx J0 H1 t1 s1 ok=>?_⟩;obtain⟨hl,hx⟩:=hx.iff;have hl:=of_decide_eq_true hl;have hx:RE (wx X ZV H) (cR (f xs.2) xs.1) λvs=>Wn X RT Y J Z ZV H Q (dJ k caps xs.2 vs):=RE.bind' hx;have S1:=S.grow s1 t1;have Sf:=S1.frz xs.2;refine⟨λi m ys q4 Hc=>m=xs.1.length-i/\i<=xs.1.length/\aG H1 Hc/\Tk X.K Hc/\Sx X.K (rtF RT Z ZV xs.2) Y J (ch0 k caps (freeze Z xs.2)) q4 Hc/\(∀j,k<=j->q4[j]? = (eZ k caps ZV)[j]?) /\
  ∃ws:List Vl,ws.length<=i/\RE (wx X ZV H) (cR (f xs.2) (xs.1.drop i)) (λrs=>Wn X RT Y J Z ZV H Q (dJ k caps xs.2 (ws++rs)))/\Rvs X.K RT Y J Z ZV Hc (ws.map (lv k caps xs.2)) ys,⟨_,rfl,Cm _,aG.refl _,t1,Sf.child w8,λ_ _=>rfl,[],An _,hx,rfl⟩,?_⟩
 rintro i m ys q4 Hc ⟨hm,hi,sc,tc,Sc,w3,ws,z5,I,q1⟩;have q7:=ok.ok (λ_=>False) (λ_ z=>z.elim) i Hc (Kp.same sc);have q6:=q1.length;rw[lM] at q6;by_cases L:i<xs.1.length;refine .inr ⟨q7.1 L,by rw[<-q6,AW];have:lim=1000000:=rfl;omega,λx H' hy=>?_⟩;have z0:xs.1[i]? = some xs.1[i]:=Ap L;obtain⟨sm,z4,rv⟩:=q7.2.2 x H' hy xs.1[i] z0;have rv:Rep X.K H' (exV RT Y J Z ZV xs.1[i].pa xs.1[i].al) xs.1[i].d x:=Rep.weak rv λa z=>.inl z;rw[CC L] at I;have I:=RE.bind' (show RE (wx X ZV H) (f xs.2 xs.1[i] >>= λy=>cR (f xs.2) (xs.1.drop (i+1)) >>= λys=>(match y with|some y=>R.ok (y::ys)|none=>R.ok ys)) _ from I);obtain⟨Z1,q0,ef⟩:=(RE.bind' (show RE (wx X ZV H) (aY (ch0 k caps (freeze Z xs.2)) xs.1[i] t >>= λZ1=>(tsts P (call P n) Z1 cond).calm >>= λb=>if b=true then (ev P (call P n) Z1 elt >>= λy=>R.ok (some y)) else R.ok none) _ from I)).eqc (jK _ _ _);obtain⟨b,eb,ef⟩:=RE.calmEq (RE.bind' ef);have q3:xs.1[i]∈xs.1:=Bl L;have w4:=ok.nofr _ q3;have rep:Rep X.K H' (λa=>rtF RT Z ZV xs.2 a\/exB Y J xs.1[i].pa a) xs.1[i].d x:=Rep.weak rv λa z=>by rcases z with z|z;exact .inl ⟨z.1,λq=>z.2 (q.mono (ok.sub _ q3))⟩;exact .inr z
 refine xI (Sc.grow sm (z4 tc)) w4 rep q0 λM S2 q5=>⟨_,_,_,Z1,S2,?_⟩
 rw[eb];intro H3 t3 s3;have U:∀j,k<=j->M[j]? = (eZ k caps ZV)[j]? := λj hj=>by rw[q5 j λz=>absurd (hk j z) (BI.mpr hj),w3 j hj]
 have q2:∀{H5:Hp},Sx X.K (rtF RT Z ZV xs.2) Y J Z1 M H5->Sx X.K (rtF RT Z ZV xs.2) Y J (ch0 k caps (freeze Z xs.2)) M H5:=λ{H5} S5=>S5.forget (sY q0).symm λj s hs=>by by_cases hj:j∈tIx t;exact .inl (tD (hk j hj) hs);exact .inr (by rw[aBo q0 hj];exact hs)
 cases b with
 | false=>rw[if_neg bN] at ef ⊢;have ef:RE (wx X ZV H) (cR (f xs.2) (xs.1.drop (i+1)) >>= λys=>R.ok ys) λrs=>Wn X RT Y J Z ZV H Q (dJ k caps xs.2 (ws++rs)):=ef;exact⟨_,by omega,rfl,L,sc.trans (sm.trans s3),t3,q2 (S2.grow s3 t3),U,ws,by omega,RE.bind' ef,q1.grow (sm.trans s3)⟩|true=>
  rw[if_pos rfl] at ef ⊢;have ef:=RE.bind' ef;have w9:∀x,wx X ZV H x->ev P (call P n) Z1 elt=.exc x->∀H',Tk X.K H'->aG H3 H'->clW X.K (λc _ H=>fn=true/\RX X c ZV H) M H' x:=λx z ex H' t' s'=>by
   have z:=z H' t' (s1.trans (sc.trans (sm.trans (s3.trans s'))));cases x with
   | err c fs=>exact λcls q=>⟨hf,z cls q⟩
   | _=>exact z
  refine⟨_,_,_,Z1,S2.grow s3 t3,RE.both ef w9 λy ey u H4 t4 w5=>?_⟩;have ey:RE (wx X ZV H) (cR (f xs.2) (xs.1.drop (i+1)) >>= λys=>R.ok (y::ys)) λrs=>Wn X RT Y J Z ZV H Q (dJ k caps xs.2 (ws++rs)):=ey;have s4:=w5.1;have z3:Rep X.K H4 (exV (rtF RT Z ZV xs.2) Y J Z1 M y.pa y.al) y.d u:=w5.rv (S2.grow s3 t3);refine⟨_,by omega,rfl,L,sc.trans (sm.trans (s3.trans s4)),t4,q2 ((S2.grow s3 t3).grow s4 t4),U,ws++[y],by rw[lA,AX];omega,(RE.bind' ey).mono λrs hr=>by rw[Fm];exact hr,?_⟩;rw[Cz];refine(q1.grow (sm.trans (s3.trans s4))).append ⟨u,[],rfl,?_,rfl⟩;show Rep X.K H4 (exV RT Y J Z ZV y.pa (xs.2++y.al.filterMap λj=>caps[j-k]?)) y.d u;refine z3.weak λc z=>?_;rcases z with⟨z1,z2⟩|z;refine .inl ⟨⟨z1,λq=>z2 (q.mono λj hj=>AC _ hj)⟩,λq=>z2 ?_⟩;obtain⟨j,hj,⟨pa,ds,ho⟩,hV⟩:=q;have ho:=aBp w4 q0 ho;rcases ch0_get ho with z|⟨j',i',rfl,hc,hs⟩
  cases z;rw[U _ (Nat.le_add_right _ _)] at hV;refine⟨i',Aq _ (Cp.mpr ⟨k+j',hj,by rw[AJ];exact hc⟩),⟨pa,ds,(dA hs).1⟩,iO hc hV⟩;exact .inr z
 have w6:i=xs.1.length:=by omega
 subst w6;rw[Df] at I;have hq:Wn X RT Y J Z ZV H Q (dJ k caps xs.2 (ws++[])):=I;rw[BH] at hq;refine .inl ⟨q7.2.1 (An _),by rw[<-q6];exact dS (by omega),λp hp t'=>hq _ _ t' ?_⟩;have q8:=S.grow (s1.trans sc) tc;have q9:(ws.map (lv k caps xs.2)).map (·.d)=ws.map (·.d):=by rw[Bb];rfl
 have rr:Reps X.K Hc (exV RT Y J Z ZV (anyPa ws) (xs.2++(unionAl ws).filterMap λj=>caps[j-k]?)) (ws.map (·.d)) ys:=by rw[<-q9];refine q1.reps λv hv=>?_;obtain⟨w,hw,e⟩:=Aw.mp hv;subst e;refine⟨λz=>fR hw z,λj hj=>?_⟩;rcases Bc.mp hj with z|z;exact AC _ z;obtain⟨j',w7,e⟩:=Cp.mp z;exact Aq _ (Cp.mpr ⟨j',kE hw j' w7,e⟩)
 unfold dJ;split;rename_i hn;exact(Ro.fresh hp t' rfl rfl q8 (Reps.free _ _ hn rr)).from (s1.trans sc)
 exact(Ro.fresh hp t' rfl rfl q8 rr).from (s1.trans sc)
theorem aFR(M:Mc X P Γ n){k:Nat}{caps:List Nat}{t:T}{it:Hp.It}{cond:Es}{elt:E}{e q:Ag}{U:List Ag}{scope:Ck}{N':List Str}(CS:bX X scope k caps N')(q2:caps.Nodup)(hk:∀i∈tIx t,i<k)(q1:Γ.fn=true)
 (hi:PI X tg q (wI X P n RT Y J Z it))
 (q0:∀C s₀ H₀ ex,PG (bI X scope N' C s₀ H₀ ex) tg (gT X.K t)/\(∀RT Y J Z1,PTs (bI X scope N' C s₀ H₀ ex) U (tE X.K P n RT Y J Z1 cond))/\∀pl E W,BE (Au X.prog X.w) X.A (bI X scope N' C s₀ H₀ ex).env E->Rs ((bI X scope N' C s₀ H₀ ex).inTry pl E) W->∀RT Y J Z1,PE ((bI X scope N' C s₀ H₀ ex).inTry pl E) e (wE0 X.K P n W RT Y J Z1 elt))
 (hs:∀x,Bx q X.env x=pure x):PE X (.ListComp e [⟨tg,q,U,0⟩] scope pos) (WE X P n RT Y J Z (.comp k caps t it cond elt)):=by refine(pX (g:=gT X.K t) (tt:=λZV H Q=>∃RT Y J Z1,tE X.K P n RT Y J Z1 cond ZV H Q) (te:=λW ZV H Q=>∃RT Y J Z1,wE0 X.K P n W RT Y J Z1 elt ZV H Q) (WX:=λc Z H=>Γ.fn=true/\RX X c Z H) CS M.calm hi (λC s₀ H₀ ex=>?_) (λc Z H z=>⟨M.stk z.1,z.2⟩) hs).imp λZV H Q t0 L=>aBq q2 hk q1 L;obtain⟨h1,h2,h3⟩:=q0 C s₀ H₀ ex;exact⟨h1,λG s ZV H Q I ⟨RT,Y,J,Z1,L⟩=>h2 RT Y J Z1 G s ZV H Q I L,λpl E W own rs G s ZV H Q I ⟨RT,Y,J,Z1,L⟩=>h3 pl E W own rs RT Y J Z1 G s ZV H Q I L⟩
end
end Hp
noncomputable section
set_option maxHeartbeats 4000000
namespace Hp
open PySem PySem.Spec PyProof.Rows L2
section
variable {K:Fg}
theorem Rws.reps{H:Hp}{ex:Addr->Prop}:∀{dss:List (List D)} {bs:List Addr},Rws K H dss bs->(∀b∈bs,¬ ex b)->Reps K H ex (dss.map .lst) (bs.map V.ref)
 | [],_,h,_=>by rw[show _=[] from h];rfl|ds::dss,_,h,n=>by obtain⟨b,r,xs,rfl,q,I,L,M⟩:=h;exact⟨.ref b,r.map V.ref,rfl,⟨b,xs,rfl,SqL.of q,n b Aj,Reps.free _ _ I L⟩,Rws.reps M λc U=>n c (Af _ U)⟩
end
section
variable {K:Fg} {RT Y J:Addr->Prop} {Z:Sg} {ZV:L2.St} {H:Hp}
theorem Sx.hide{Z':Sg}{i:Nat}{dss:List (List D)}{a:Addr}{bs:List Addr}(S:Sx K RT Y J Z ZV H)(e:Z[i]? = some (.own2 dss))(ha:∀b∈a::bs,Pt RT J Z ZV b)(hl:Z'.length=Z.length)
 (h:∀(m:Nat) (s:Sl),Z'[m]? = some s->s=.dead\/(Z[m]? = some s/\m≠i)):Sx K (λc=>RT c/\c∉a::bs) Y J Z' ZV H where
 sh:=λj pa d q=>by obtain⟨v,g1,g2⟩:=S.sh j pa d ((h j _ q).resolve_left λz=>by cases z).1;exact⟨v,g1,g2.weak λc z=>z.imp (·.1) id⟩
 own:=λj pa ds q=>by have q:=((h j _ q).resolve_left λz=>by cases z).1;obtain⟨c,xs,g1,g2,g3,U,W⟩:=S.own j pa ds q;exact⟨c,xs,g1,g2,⟨g3,λz=>(ha c z).2.2 j pa ds q g1⟩,U,W.weak λc z=>z.imp (·.1) id⟩
 trk:=λc z=>S.trk c (z.imp (·.1) id)
 yo:=S.yo
 tk:=S.tk
 rt:=λc z=>S.rt c z.1
 inj:=λj M pa pa' ds ds' c I L=>S.inj j M pa pa' ds ds' c ((h j _ I).resolve_left λz=>by cases z).1 ((h M _ L).resolve_left λz=>by cases z).1
 len:=by rw[hl];exact S.len
 lx:={
  at':=λj ks q=>by obtain⟨c,xs,g1,g2,g3,U,W⟩:=S.lx.at' j ks ((h j _ q).resolve_left λz=>by cases z).1;exact⟨c,xs,g1,g2,⟨g3,λz=>(ha c z).2.1 U⟩,U,W.weak λc z=>z.imp (·.1) id⟩
  inj:=λj M ks q0 c I L=>S.lx.inj j M ks q0 c ((h j _ I).resolve_left λz=>by cases z).1 ((h M _ L).resolve_left λz=>by cases z).1
  at2:=λj dd q=>by
   obtain⟨I,L⟩:=(h j _ q).resolve_left λz=>by cases z
   exact absurd (S.lx.one j i dd dss I e) L
  one:=λj M dd q3 q q'=>by
   obtain⟨I,L⟩:=(h j _ q).resolve_left λz=>by cases z
   exact absurd (S.lx.one j i dd dss I e) L }
theorem Sx.putSh{i:Nat}{pa:Bool}{d:D}{v:V}(S:Sx K RT Y J (Z.set i .dead) ZV H)(hv:ZV[i]? = some (some v))(r:Rep K H (λa=>RT a\/exB Y J pa a) d v):Sx K RT Y J (Z.set i (.sh pa d)) ZV H:=by
 have o:∀{j:Nat} {s:Sl},(Z.set i (.sh pa d))[j]? = some s->(j=i/\s=.sh pa d)\/(Z.set i .dead)[j]? = some s:=λ{j s} q=>by
  rcases set_some q with⟨rfl,z,_⟩|⟨n,q⟩
  exact .inl ⟨rfl,z.symm⟩;exact .inr (by rw[Ac n];exact q)
 exact {
  sh:=λj L dd q=>by rcases o q with⟨rfl,z⟩|q;cases z;exact⟨v,hv,r⟩;exact S.sh j L dd q
  own:=λj L dd q=>by rcases o q with⟨_,z⟩|q;cases z;exact S.own j L dd q
  trk:=S.trk
  yo:=S.yo
  tk:=S.tk
  rt:=S.rt
  inj:=λj I pa pa' ds ds' c W q2=>S.inj j I pa pa' ds ds' c ((o W).resolve_left λz=>by cases z.2) ((o q2).resolve_left λz=>by cases z.2)
  len:=by have:=S.len;rw[Ax] at this ⊢;exact this
  lx:={
   at':=λj ks q=>S.lx.at' j ks ((o q).resolve_left λz=>by cases z.2)
   inj:=λj I ks U c W q2=>S.lx.inj j I ks U c ((o W).resolve_left λz=>by cases z.2) ((o q2).resolve_left λz=>by cases z.2)
   at2:=λj dd q=>by obtain⟨p,xs,g1,g2,g3,g4,g5⟩:=S.lx.at2 j dd ((o q).resolve_left λz=>by cases z.2);exact⟨p,xs,g1,g2,λb hb=>⟨(g3 b hb).1,(g3 b hb).2.1,λk L ds q=>(g3 b hb).2.2 k L ds ((o q).resolve_left λz=>by cases z.2)⟩,g4,g5⟩
   one:=λj I dd M q q'=>S.lx.one j I dd M ((o q).resolve_left λz=>by cases z.2) ((o q').resolve_left λz=>by cases z.2) } }
theorem Sx.hid(S:Sx K RT Y J Z ZV H){i:Nat}{dss:List (List D)}(e:Z[i]? = some (.own2 dss)):∃I,Sx K I Y J (Z.set i (.sh false (o2D dss))) ZV H:=by
 obtain⟨a,bs,U,W,L,h4,h5⟩:=S.lx.at2 i dss e;have M:=S.hide (Z':=Z.set i .dead) e L (by rw[Ax]) λm s q=>by
  rcases set_some q with⟨_,z,_⟩|⟨n,q⟩
  exact .inl z.symm;exact .inr ⟨q,λz=>n z.symm⟩
 have out:∀b∈a::bs,¬ ((RT b/\b∉a::bs)\/exB Y J false b):=λb hb z=>by rcases z with z|z|z;exact z.2 hb;exact(L b hb).2.1 (S.yo b z);exact(L b hb).2.1 z.2
 exact⟨_,M.putSh U ⟨a,_,rfl,SqL.of W,out a Aj,h5.reps λb hb=>out b (Af _ hb)⟩⟩
end
section
variable {X:Cx} {P:Pg} {Γ:Ct} {n:Nat} {RT Y J:Addr->Prop} {Z:Sg} {pos:Cf}
theorem Ro.clean{q:Addr->Prop}{Z':Sg}{ZV:L2.St}{H H':Hp}{x:Vl}{u:V}(c:fM x=true)(r:Ro X.K q Y J Z' ZV H H' x u):Ro X.K RT Y J Z ZV H H' ⟨x.d,x.fr,false,[]⟩ u:=by
 obtain⟨s,h⟩:=r;refine⟨s,?_⟩;unfold fM at c;cases hf:x.fr with
 | true=>rw[hf,if_pos rfl] at h;obtain⟨a,xs,ds,L,I,M,U,rr⟩:=h;rw[I,hf] at c;rw[if_pos rfl];exact⟨a,xs,ds,L,I,M,U,Reps.free _ _ c rr⟩|false=>rw[hf,if_neg bN] at h;rw[if_neg bN];refine Rep.free x.d u ?_ h;split at c;rw[hf] at c;cases c;exact c
theorem aIq{i:Nat}{a:E}{e:Ag}(W:∀RT Z,PE X e (WE X P n RT Y J Z a)):PE X e (WE X P n RT Y J Z (.hid i a)):=by intro G s ZV H Q I ⟨S,h⟩;have h:RE _ (match Z[i]? with|some (.own2 dss)=>(ev P (call P n) (Z.set i (.sh false (o2D dss))) a >>= λx=>R.iff (fM x) (R.ok (⟨x.d,x.fr,false,[]⟩:Vl)))|_=>.bad) _:=h;split at h;rename_i dss U;obtain⟨q,M⟩:=S.hid U;refine W q _ G s ZV H Q I ⟨M,(RE.bind' h).mono λx L u H' t r=>?_⟩;obtain⟨c,L⟩:=L.iff;exact L u H' t (r.clean c);exact h.elim
theorem dO{i:Nat}{x:Str}{p:Cf}(M:Mc X P Γ n)(q:bH Γ i x=true):PE X (.Name x p) (aCH i):=by unfold bH at q;simp only[bA] at q;obtain⟨⟨L,U⟩,I⟩:=q;exact lJ (by rw[M.N];exact eq_of_beq L) (M.vis U) (aF I) (eL I)
theorem aIr(M:Mc X P Γ n){a:E}{j:Nat}{L:Ag}{x:Str}{p:Cf}(hx:bH Γ j x=true)(ha:PE X L (WE X P n RT Y J Z a))(hp:aK L=true):PE X (.Subscript (.Name x p) L pos) (WE X P n RT Y J Z (.row j a)):=by
 refine(rT lQ (dO M hx) ha (dU hp)).imp λZV H Q t ⟨S,h⟩=>?_;have h:RE _ (match Z[j]? with
  | some (.own pa ds)=>(ev P (call P n) Z a >>= λy=>(match y.d with
   | .int k=>(match ixN ds.length k with|some j=>(match ds[j]? with|some d=>R.ok (⟨d,false,pa&&!noL d,[]⟩:Vl)|none=>.bad)|none=>.bad)
   | _=>.bad))
  | _=>.bad) (Wn X RT Y J Z ZV H Q):=h
 split at h;rename_i pa ds e1;obtain⟨W,xs,g1,g2,g3,g4,g5⟩:=S.own j pa ds e1;refine⟨.ref W,g1,S,(RE.bind' h).mono λy q uk H2 t2 I=>?_⟩;cases hd:y.d with
 | int k=>
  rw[hd] at q;have q:RE _ (match ixN ds.length k with|some j=>(match ds[j]? with|some d=>R.ok (⟨d,false,pa&&!noL d,[]⟩:Vl)|none=>.bad)|none=>.bad) (Wn X RT Y J Z ZV H Q):=q;split at q;rename_i m hm;split at q;rename_i d U;obtain⟨v,hv,rv⟩:=(g5.grow I.1).get U;refine .inl ⟨W,xs,k,v,rfl,(I.rv S).int hd,SqL.of (I.1 _ _ g2),?_,λt'=>(show Wn X RT Y J Z ZV H Q ⟨d,false,pa&&!noL d,[]⟩ from q) v H2 t' (Ro.plain I.1 rfl ?_)⟩;unfold atI;rw[<-g5.length,<-eW,hm];exact hv;show Rep _ _ _ d v;cases hn:noL d with
  | true=>exact Rep.free d v hn rv|false=>refine rv.weak λb z=>?_;rcases z with⟨z,_⟩|z;exact .inl z;exact .inr (by simpa using z)
  exact q.elim;exact q.elim
 | _=>rw[hd] at q;exact q.elim
 exact h.elim
end
end Hp
end
namespace Hp
open PySem PySem.Spec PyProof.Rows L2
section
variable {X:Cx} {P:Pg} {Γ:Ct} {n:Nat} {RT Y J:Addr->Prop} {Z:Sg} {tg:Ag} {pos:Cf}
theorem aIs(M:Mc X P Γ n){i:Nat}{k:E}{x:Str}{p:Cf}{ix:Ag}(hx:bH Γ i x=true)(hk:PE X ix (WE X P n RT Y J Z k))(hp:aK ix=true):PE X (.Subscript (.Name x p) ix pos) (WE X P n RT Y J Z (.lix i k)):=by
 have W:PE X (.Name x p) (aCH i):=by unfold bH at hx;simp only[bA] at hx;obtain⟨⟨q,I⟩,L⟩:=hx;exact lJ (by rw[M.N];exact eq_of_beq q) (M.vis I) (aF L) (eL L)
 refine(rT lQ W hk (dU hp)).imp λZV H Q t ⟨S,h⟩=>?_;obtain⟨y,ey,h⟩:=RE.calmEq (RE.bind' (show RE _ ((ev P (call P n) Z k).calm >>= λy=>(match Z[i]? with|some (.lent ds)=>bW ⟨.lst ds,false,true,[]⟩ y|_=>.bad)) _ from h));cases e:Z[i]? with
 | none=>rw[e] at h;exact h.elim|some sl=>
  rw[e] at h;cases sl with
  | lent ds=>
   have h:RE _ (bW ⟨.lst ds,false,true,[]⟩ y) _:=h;obtain⟨a,xs,q,I,L,h4,h5⟩:=S.lx.at' i ds e;refine⟨.ref a,q,S,?_⟩;rw[ey];intro uy H1 t1 r1;unfold bW at h;cases hd:y.d with
   | int j=>
    rw[hd] at h;have h:RE _ (match Hp.ixN ds.length j with|some j=>(match ds[j]? with|some d=>R.ok (Vl.sub ⟨.lst ds,false,true,[]⟩ d)|none=>.bad)|none=>.bad) _:=h;cases U:Hp.ixN ds.length j with
    | none=>rw[U] at h;exact h.elim|some m=>
     rw[U] at h;cases hm:ds[m]? with
     | none=>simp only[hm] at h;exact h.elim|some d=>simp only[hm] at h;obtain⟨v,hv,rv⟩:=(h5.grow r1.1).get hm;have rv:Rep X.K H1 (exV RT Y J Z ZV true []) d v:=rv.weak λb z=>z.imp (·.1) id;refine .inl ⟨a,xs,j,v,rfl,(r1.rv S).int hd,SqL.of (r1.1 _ _ I),?_,λt'=>h v H1 t' ((Rv.ofSub (x:=⟨.lst ds,false,true,[]⟩) rv).from r1.1)⟩;unfold atI;rw[<-h5.length,<-eW,U];exact hv
   | _=>rw[hd] at h;exact h.elim
  | _=>exact h.elim
end
end Hp
noncomputable section
set_option maxHeartbeats 8000000
namespace Hp
open PySem PySem.Spec PyProof.Rows L2
section
variable {P:Pg} {n:Nat}
theorem tF{X:Cx}{Γ:Ct}(M:Mc X P Γ n)(scope:Ck):(FU scope X.env).names=iJ Γ.sc scope.names:=by
 unfold FU iJ;simp only;refine CG λp L=>?_;obtain⟨m,k⟩:=p;have q:(X.env.scope.kind==HA)=true:=by rw[M.fk];rfl
 have I:X.env.kindOf m=Γ.sc.lookup m:=by unfold Env.kindOf;rw[M.sc]
 simp only[q,I,Di]
abbrev chN(Γ:Ct)(tg:Ag)(caps:List Nat):List Str:=cN tg++caps.filterMap λi=>Γ.N[i]?
abbrev mI(Γ:Ct)(tg:Ag)(caps:List Nat)(scope:Ck):Ct:={ Γ with N:=chN Γ tg caps,sc:=iJ Γ.sc scope.names,fn:=false }
structure aAa (Γ:Ct) (tg:Ag) (caps:List Nat) (scope:Ck) (k:Nat) (t:T):Prop where
 len:(cN tg).length=k
 lt:∀i∈caps,i<Γ.N.length
 ndc:caps.Nodup
 kind:scope.kind=.function
 nd:(chN Γ tg caps).Nodup
 cap:∀x∈caps.filterMap (λi=>Γ.N[i]?),scope.names.lookup x=some .free/\Γ.sc.lookup x=some .cell
 all:∀p∈scope.names,p.2≠.cell/\(p.2=.local->scope.names.lookup p.1=some .local)/\(p.2=.free->Γ.sc.lookup p.1=some .cell)
 tk:∀i∈tIx t,i<k
theorem qJ{N:List Str}:∀{caps:List Nat},(∀i∈caps,i<N.length)->∀{j i:Nat},caps[j]? = some i->(caps.filterMap λi=>N[i]?)[j]? = N[i]?/\(caps.filterMap λi=>N[i]?).length=caps.length
 | [],_,_,_,h=>by simp at h|c::cs,hl,j,i,h=>by
  have I:N[c]? = some N[c]! := by have:=hl c Aj;simp[this]
  rw[List.filterMap_cons_some I];have q:∀i∈cs,i<N.length:=λi hi=>hl i (Af _ hi);have len:(cs.filterMap λi=>N[i]?).length=cs.length:=by
   cases cs with
   | nil=>rfl|cons L M=>exact(qJ q (j:=0) (i:=L) rfl).2
  refine⟨?_,by rw[lC,lC,len]⟩;cases j with
  | zero=>
   have e:c=i:=by simpa using h
   subst e;rw[gZ,I]
  | succ j=>rw[gS];exact(qJ q (j:=j) (i:=i) (by simpa using h)).1
theorem aFS{N:List Str}{caps:List Nat}(h:∀i∈caps,i<N.length):(caps.filterMap λi=>N[i]?).length=caps.length:=by
 cases caps with
 | nil=>rfl|cons c cs=>exact(qJ h (j:=0) (i:=c) rfl).2
theorem aAa.scope{X:Cx}{Γ:Ct}{tg:Ag}{caps:List Nat}{scope:Ck}{k:Nat}{t:T}(O:aAa Γ tg caps scope k t)(M:Mc X P Γ n):bX X scope k caps (chN Γ tg caps) where
 kind:=O.kind
 nocell:=λy I=>(O.all y I).1
 loc:=λy I e=>(O.all y I).2.1 e
 free:=λm hm=>.inl (by
  have:=(O.all _ hm).2.2 rfl;show X.env.scope.names.lookup m=_;rw[M.sc];exact this)
 len:=by rw[lA,O.len,aFS O.lt]
 cap:=λj i e=>by have hi:=O.lt i (mG e);have L:Γ.N[i]? = some Γ.N[i]:=Ap hi;have q:=(qJ O.lt e).1;rw[L] at q;obtain⟨U,W⟩:=O.cap _ (mG q);refine⟨Γ.N[i],?_,by rw[M.N];exact L,U,?_⟩;show(cN tg++_)[k+j]? = _;rw[AN (by rw[O.len];omega),O.len,AJ];exact q;show X.env.scope.names.lookup _=_;rw[M.sc];exact W
 ndp:=M.nd
theorem aAa.mc{X:Cx}{Γ:Ct}{tg:Ag}{caps:List Nat}{scope:Ck}{k:Nat}{t:T}(O:aAa Γ tg caps scope k t)(M:Mc X P Γ n)(C:Addr)(s₀:Ad)(H₀:Hp)(ex:List Addr) :
 Mc (bI X scope (chN Γ tg caps) C s₀ H₀ ex) P (mI Γ tg caps scope) n where
 md:=⟨M.md.fn,M.md.blt,M.md.cns,M.md.tab,M.md.exc,M.md.rsd,M.md.cls⟩
 N:=rfl
 nd:=O.nd
 sc:=tF M scope
 calm:=M.calm
 room:=M.room
 own:=HU
 st:=λx h=>.inr (by
  show(FU scope X.env).names.lookup x=_;rw[tF M scope];unfold rZ at h;have h:(match (iJ Γ.sc scope.names).lookup x with|some .local=>true|some .cell=>false|_=>false)=true:=h;split at h;rename_i e;exact e;cases h;cases h)
 fk:=O.kind
 stk:=λz=>nomatch z
theorem tG{Γ:Ct}{tt:Bool}{a b:E}{e:Ag}:chkI Γ tt (.rng a b) e=oS (jE e) λp=>(p.1==("range" : Str))&&bR Γ p.1&&(match p.2 with
 | [x]=>uW a&&aM Γ b x|[x,y]=>aM Γ a x&&aM Γ b y|_=>false):=rfl
theorem tH{Γ:Ct}{tt:Bool}{a b:E}{e:Ag}:chkI Γ tt (.zip a b) e=oS (jE e) λp=>(match p.2 with
 | [x,y]=>tt&&(p.1==("zip" : Str))&&bR Γ p.1&&aM Γ a x&&aM Γ b y|_=>false):=rfl
theorem fB{Γ:Ct}{tt:Bool}{it:Hp.It}{e:Ag}(h:chkI Γ tt it e=true):aK e=true:=by
 cases it with
 | seq c=>exact aH (c:=c) (by exact h)|rng a b=>rw[tG] at h;obtain⟨_,⟨_,_,rfl⟩,_⟩:=aC h;rfl|zip a b=>rw[tH] at h;obtain⟨_,⟨_,_,rfl⟩,_⟩:=aC h;rfl
theorem aDo{X:Cx}{e:Ag}{c:E}{RT Y J:Addr->Prop}{Z:Sg}(h:tst P (call P n) Z c=.bad):PT X e (WT X P n RT Y J Z c):=λG s ZV H Q I ⟨S,q⟩=>by rw[h] at q;exact q.elim
theorem cK{a b c:Bool}(h:(a&&b&&c)=true):a=true/\b=true/\c=true:=by cases a <;> cases b <;> cases c <;> first|exact⟨rfl,rfl,rfl⟩|cases h
theorem cA{a b:Bool}(h:(a&&b)=true):a=true/\b=true:=by cases a <;> cases b <;> first|exact⟨rfl,rfl⟩|cases h
theorem aAb{a b c d:Bool}(h:(a&&b&&c&&d)=true):a=true/\b=true/\c=true/\d=true:=by obtain⟨q,I,L⟩:=cK h;obtain⟨q,M⟩:=cA q;exact⟨q,M,I,L⟩
theorem aBr{a b c d e:Bool}(h:(a&&b&&c&&d&&e)=true):a=true/\b=true/\c=true/\d=true/\e=true:=by obtain⟨q,I,L,M⟩:=aAb h;obtain⟨q,U⟩:=cA q;exact⟨q,U,I,L,M⟩
theorem qK{Γ:Ct}{k:Nat}{caps:List Nat}{t:T}{it:Hp.It}{cond:Es}{elt:E}{e:Ag}(h:aM Γ (.comp k caps t it cond elt) e=true) :
 ∃M tg q I scope L,e=.ListComp M [⟨tg,q,I,0⟩] scope L/\aAa Γ tg caps scope k t/\Γ.fn=true/\I.length<=1/\fO (mI Γ tg caps scope) t tg=true/\chkI Γ (oE tg) it q=true/\chkEs (mI Γ tg caps scope) cond I=true/\aM (mI Γ tg caps scope) elt M=true:=by
 obtain⟨⟨M,gens,scope⟩,U,g⟩:=aC h;clear h;obtain⟨L,rfl⟩:=U;have h:=g;clear g;rcases gens with _|⟨⟨tg,q,I,as⟩,_|⟨_,_⟩⟩
 cases h;have h:(as==0&&(cN tg).length==k&&(caps.all λi=>decide (i<Γ.N.length))&&decide caps.Nodup&&scope.kind==.function&&decide (cN tg++caps.filterMap λi=>Γ.N[i]?).Nodup &&
  ((caps.filterMap λi=>Γ.N[i]?).all λx=>scope.names.lookup x==some .free&&Γ.sc.lookup x==some .cell) &&
  (scope.names.all λp=>p.2 != .cell&&(p.2 != .local||scope.names.lookup p.1==some .local)&&(p.2 != .free||Γ.sc.lookup p.1==some .cell)) &&
  ((tIx t).all λi=>decide (i<k))&&decide (I.length<=1)&&Γ.fn &&
  fO (mI Γ tg caps scope) t tg&&chkI Γ (oE tg) it q&&chkEs (mI Γ tg caps scope) cond I&&aM (mI Γ tg caps scope) elt M)=true:=by exact h
 simp only[bA,beq_iff_eq,AS,AT,Cw,bne_iff_ne,ne_eq] at h;obtain⟨⟨⟨⟨⟨⟨⟨⟨⟨⟨⟨⟨⟨⟨h0,U⟩,h2⟩,h3⟩,h4⟩,h5⟩,h6⟩,h7⟩,h8⟩,h9⟩,q6⟩,W⟩,q0⟩,q4⟩,q5⟩:=h;subst h0;refine⟨M,tg,q,I,scope,L,rfl,⟨U,h2,h3,h4,h5,h6,λp hp=>?_,h8⟩,q6,h9,W,q0,q4,q5⟩;obtain⟨⟨q1,q2⟩,q3⟩:=h7 p hp;exact⟨q1,λe=>q2.resolve_left λz=>z e,λe=>q3.resolve_left λz=>z e⟩;cases h
abbrev PEc(P:Pg)(n:Nat)(c:E):Prop:=∀{X:Cx} {Γ:Ct},Mc X P Γ n->∀{e:Ag},aM Γ c e=true->∀(RT Y J:Addr->Prop) (Z:Sg),PE X e (WE X P n RT Y J Z c)
abbrev PTc(P:Pg)(n:Nat)(c:E):Prop:=∀{X:Cx} {Γ:Ct},Mc X P Γ n->∀{e:Ag},aM Γ c e=true->∀(RT Y J:Addr->Prop) (Z:Sg),PT X e (WT X P n RT Y J Z c)
abbrev PWc(P:Pg)(n:Nat)(c:E):Prop:=∀{X:Cx} {Γ:Ct},Mc X P Γ n->∀{o:H9} {xs:List Ag} {pos:Cf},aM Γ c (.BoolOp o xs pos)=true->∀(RT Y J:Addr->Prop) (Z:Sg),PW X (.BoolOp o xs pos) (WT X P n RT Y J Z c)
structure Q3 (P:Pg) (n:Nat) (c:E):Prop where
 e:PEc P n c
 t:PTc P n c
 w:PWc P n c
structure QA (P:Pg) (n:Nat) (cs:Es):Prop where
 a:∀{X:Cx} {Γ:Ct},Mc X P Γ n->∀{es:List Ag},chkEs Γ cs es=true->∀(RT Y J:Addr->Prop) (Z:Sg),PA X es (WA X P n RT Y J Z cs)
 ts:∀{X:Cx} {Γ:Ct},Mc X P Γ n->∀{es:List Ag},es.length<=1->chkEs Γ cs es=true->∀(RT Y J:Addr->Prop) (Z:Sg),PTs X es (wTs X P n RT Y J Z cs)
abbrev QI(P:Pg)(n:Nat)(it:Hp.It):Prop:=∀{X:Cx} {Γ:Ct},Mc X P Γ n->∀{tg e:Ag},chkI Γ (oE tg) it e=true->∀(RT Y J:Addr->Prop) (Z:Sg),PI X tg e (wI X P n RT Y J Z it)
theorem Q3.of{c:E}(h:PEc P n c)(hd:∀Z,tst P (call P n) Z c=.bad)(I:∀{Γ:Ct} {o:H9} {xs:List Ag} {q:Cf},aM Γ c (.BoolOp o xs q)=false):Q3 P n c:=
 ⟨h,λ{X Γ} M {e} z RT Y J Z=>aDo (hd Z),λ{X Γ} M {o xs q} z RT Y J Z=>absurd (I.symm.trans z) bN⟩
theorem n_c{d:D}:Q3 P n (.c d):=by
 have W:∀{Γ:Ct} {e:Ag},aM Γ (.c d) e=true->(∃c k p,e=.Constant c k p/\eqC d c=true)\/∃x p,e=.Name x p/\bR Γ x=true/\aZ x=true/\∃d',Γ.cns.lookup x=some d'/\eqK d d'=true:=λ{Γ e} h=>by rcases(Cw _ _).mp (show(oS (asC e) (eqC d)||oS (asN e) λx=>bR Γ x&&aZ x&&oB (Γ.cns.lookup x) (eqK d))=true from h) with h|h;obtain⟨c,I,g⟩:=aC h;clear h;obtain⟨k,p,rfl⟩:=I;have h:=g;clear g;exact .inl ⟨c,k,p,rfl,h⟩;obtain⟨x,I,g⟩:=aC h;clear h;obtain⟨p,rfl⟩:=I;have h:=g;clear g;obtain⟨I,L,U⟩:=cK h;obtain⟨d',q1,q2⟩:=sN U;exact .inr ⟨x,p,rfl,I,L,d',q1,q2⟩
 have k:PEc P n (.c d):=λ{X Γ} M {e} h RT Y J Z=>by
  rcases W h with⟨c,j,p,rfl,g⟩|⟨x,p,rfl,I,L,d',q,U⟩
  exact s_c g;have e:=aFC U;subst e;obtain⟨u,v,m,r,hr⟩:=M.md.cns x d q;refine(gH (M.gl I) m r (aF L)).imp λZV H Q t ⟨S,hh⟩ t'=>?_;exact(show Wn _ RT Y J Z ZV H Q (Vl.cl d) from hh) v H t' (Ro.val (aG.refl H) (hr H))
 refine⟨k,λ{X Γ} M {e} h RT Y J Z=>?_,λ{X Γ} M {o xs q0} h RT Y J Z=>absurd h bN⟩;refine lX (k M h RT Y J Z) ?_ λw p hp=>hp;rcases W h with⟨c,j,p,rfl,h⟩|⟨x,p,rfl,_⟩ <;> (intro _;rfl)
theorem n_v{i:Nat}:Q3 P n (.v i):=by
 have k:PEc P n (.v i):=λ{X Γ} M {e} h RT Y J Z=>by obtain⟨x,q,g⟩:=aC h;clear h;obtain⟨p,rfl⟩:=q;have h:=g;clear g;have h:bH _ i x=true:=h;unfold bH at h;obtain⟨q,L,I⟩:=cK h;exact s_v (by rw[M.N];exact eq_of_beq q) (M.vis L) (aF I) (eL I)
 refine⟨k,λ{X Γ} M {e} h RT Y J Z=>?_,λ{X Γ} M {o xs W} h RT Y J Z=>absurd h bN⟩;refine lX (k M h RT Y J Z) ?_ λw p U=>RE.bind' (show RE _ (bJ Z i >>= λx=>eK x) p from U);obtain⟨x,⟨p,rfl⟩,_⟩:=aC h;intro _;rfl
theorem aKF{o:Operator}{a b:E}(U:Q3 P n a)(hb:Q3 P n b):Q3 P n (.op o a b):=Q3.of (λ{X Γ} M {e} h RT Y J Z=>by
 obtain⟨⟨l,o',r⟩,q,g⟩:=aC h;clear h;obtain⟨p,rfl⟩:=q;have h:=g;clear g;obtain⟨q,I,L⟩:=cK h;have e:o=o':=eq_of_beq q;subst e;exact aKC (U.e M I RT Y J Z) (hb.e M L RT Y J Z)) (λ_=>rfl) rfl
theorem aIt{a:E}(L:Q3 P n a):Q3 P n (.neg a):=Q3.of (λ{X Γ} M {e} h RT Y J Z=>by
 obtain⟨⟨o,x⟩,q,g⟩:=aC h;clear h;obtain⟨p,rfl⟩:=q;have h:=g;clear g;obtain⟨q,I⟩:=cA h;have e:o=.USub:=eq_of_beq q;subst e;exact aId (L.e M I RT Y J Z)) (λ_=>rfl) rfl
theorem aKG{a:E}(L:Q3 P n a):Q3 P n (.nt a):=by
 have I:∀{Γ:Ct} {e:Ag},aM Γ (.nt a) e=true->∃x p,e=.UnaryOp .Not x p/\aM Γ a x=true:=λ{Γ e} h=>by obtain⟨⟨o,x⟩,q,g⟩:=aC h;clear h;obtain⟨p,rfl⟩:=q;have h:=g;clear g;obtain⟨q,U⟩:=cA h;have e:o=.Not:=eq_of_beq q;subst e;exact⟨x,p,rfl,U⟩
 refine⟨λ{X Γ} M {e} h RT Y J Z=>?_,λ{X Γ} M {e} h RT Y J Z=>?_,λ{X Γ} M {o xs W} h RT Y J Z=>absurd h bN⟩;obtain⟨x,p,rfl,g⟩:=I h;exact aIe (L.e M g RT Y J Z);obtain⟨x,p,rfl,g⟩:=I h;exact iM (L.t M g RT Y J Z)
theorem xJ{Γ:Ct}{a b:E}{w:H9}{xs:List Ag}{p:Cf}(h:(match xs with
 | [x,y]=>aM Γ a x&&aM Γ b y|x::y::z::r=>aM Γ a x&&aM Γ b (.BoolOp w (y::z::r) p)|_=>false)=true):∃x y r,xs=x::y::r/\aM Γ a x=true/\((r=[]/\aM Γ b y=true)\/aM Γ b (.BoolOp w (y::r) p)=true):=by
 rcases xs with _|⟨x,_|⟨y,_|⟨z,r⟩⟩⟩
 cases h;cases h;obtain⟨q,I⟩:=cA h;exact⟨x,y,[],rfl,q,.inl ⟨rfl,I⟩⟩;obtain⟨q,I⟩:=cA h;exact⟨x,y,z::r,rfl,q,.inr I⟩
theorem aKH{a b:E}(L:Q3 P n a)(hb:Q3 P n b):Q3 P n (.an a b):=by
 have W:PWc P n (.an a b):=λ{X Γ} M {o xs I} h RT Y J Z=>by obtain⟨q,U⟩:=cA h;have e:o=.And:=eq_of_beq q;subst e;obtain⟨x,y,r,rfl,g1,g2⟩:=xJ U;rcases g2 with⟨rfl,g2⟩|g2;exact aIn (L.t M g1 RT Y J Z) (aCJ (hb.t M g2 RT Y J Z));exact aIn (L.t M g1 RT Y J Z) (hb.w M g2 RT Y J Z)
 refine⟨λ{X Γ} M {e} h RT Y J Z=>?_,λ{X Γ} M {e} h RT Y J Z=>?_,W⟩;obtain⟨⟨o,xs,I⟩,q,g⟩:=aC h;clear h;obtain rfl:=q;have h:=g;clear g;obtain⟨q,U⟩:=cA h;have e:o=.And:=eq_of_beq q;subst e;obtain⟨x,y,r,e,g1,g2⟩:=xJ U;have e:xs=x::y::r:=e;subst e;rcases g2 with⟨rfl,g2⟩|g2;exact aIf (L.e M g1 RT Y J Z) (aAu (hb.e M g2 RT Y J Z));exact aIf (L.e M g1 RT Y J Z) (hb.e M g2 RT Y J Z);obtain⟨⟨o,xs,I⟩,rfl,_⟩:=aC h;exact(W M h RT Y J Z).pt
theorem aIu{a b:E}(L:Q3 P n a)(hb:Q3 P n b):Q3 P n (.orr a b):=by
 have W:PWc P n (.orr a b):=λ{X Γ} M {o xs I} h RT Y J Z=>by obtain⟨q,U⟩:=cA h;have e:o=.Or:=eq_of_beq q;subst e;obtain⟨x,y,r,rfl,g1,g2⟩:=xJ U;rcases g2 with⟨rfl,g2⟩|g2;exact aEi (L.t M g1 RT Y J Z) (aEV (hb.t M g2 RT Y J Z));exact aEi (L.t M g1 RT Y J Z) (hb.w M g2 RT Y J Z)
 refine⟨λ{X Γ} M {e} h RT Y J Z=>?_,λ{X Γ} M {e} h RT Y J Z=>?_,W⟩;obtain⟨⟨o,xs,I⟩,q,g⟩:=aC h;clear h;obtain rfl:=q;have h:=g;clear g;obtain⟨q,U⟩:=cA h;have e:o=.Or:=eq_of_beq q;subst e;obtain⟨x,y,r,e,g1,g2⟩:=xJ U;have e:xs=x::y::r:=e;subst e;rcases g2 with⟨rfl,g2⟩|g2;exact aEh (L.e M g1 RT Y J Z) (aAu (hb.e M g2 RT Y J Z));exact aEh (L.e M g1 RT Y J Z) (hb.e M g2 RT Y J Z);obtain⟨⟨o,xs,I⟩,rfl,_⟩:=aC h;exact(W M h RT Y J Z).pt
theorem aIv{t a b:E}(W:Q3 P n t)(U:Q3 P n a)(hb:Q3 P n b):Q3 P n (.ife t a b):=Q3.of (λ{X Γ} M {e} h RT Y J Z=>by
 obtain⟨⟨t',a',b'⟩,q,g⟩:=aC h;clear h;obtain⟨p,rfl⟩:=q;have h:=g;clear g;obtain⟨q,I,L⟩:=cK h;exact aIg (W.t M q RT Y J Z) (U.e M I RT Y J Z) (hb.e M L RT Y J Z)) (λ_=>rfl) rfl
theorem aIw{o:CmpOp}{a b:E}(W:Q3 P n a)(hb:Q3 P n b):Q3 P n (.cmp o a b):=by
 have U:∀{Γ:Ct} {e:Ag},aM Γ (.cmp o a b) e=true->∃l r p,e=.Compare l [o] [r] p/\aM Γ a l=true/\aM Γ b r=true:=λ{Γ e} h=>by
  obtain⟨⟨l,os,rs⟩,L,g⟩:=aC h;clear h;obtain⟨p,rfl⟩:=L;have h:=g;clear g;rcases os with _|⟨o',_|⟨_,_⟩⟩
  cases h;rcases rs with _|⟨r,_|⟨_,_⟩⟩
  cases h;obtain⟨L,I,q⟩:=cK h;have e:o=o':=eq_of_beq L;subst e;exact⟨l,r,p,rfl,I,q⟩;cases h;cases h
 refine⟨λ{X Γ} M {e} h RT Y J Z=>?_,λ{X Γ} M {e} h RT Y J Z=>?_,λ{X Γ} M {o xs q0} h RT Y J Z=>absurd h bN⟩;obtain⟨l,r,p,rfl,I,q⟩:=U h;exact aIh M (W.e M I RT Y J Z) (hb.e M q RT Y J Z) (aH q);obtain⟨l,r,p,rfl,I,q⟩:=U h;exact aBa M (W.e M I RT Y J Z) (hb.e M q RT Y J Z) (aH q)
theorem aFT{U W:CmpOp}{a b c:E}(ha:Q3 P n a)(hb:Q3 P n b)(hc:Q3 P n c):Q3 P n (.cmp2 U W a b c):=by
 have h0:∀{Γ:Ct} {e:Ag},aM Γ (.cmp2 U W a b c) e=true->∃l m r p,e=.Compare l [U,W] [m,r] p/\aM Γ a l=true/\aM Γ b m=true/\aM Γ c r=true:=λ{Γ e} h=>by
  obtain⟨⟨l,os,rs⟩,h1,g⟩:=aC h;clear h;obtain⟨p,rfl⟩:=h1;have h:=g;clear g;rcases os with _|⟨q0,_|⟨q1,_|⟨_,_⟩⟩⟩
  cases h;cases h;rcases rs with _|⟨m,_|⟨r,_|⟨_,_⟩⟩⟩
  cases h;cases h;obtain⟨h1,h2,I,L,q⟩:=aBr h;have e:U=q0:=eq_of_beq h1;subst e;have e:W=q1:=eq_of_beq h2;subst e;exact⟨l,m,r,p,rfl,I,L,q⟩;cases h;cases h
 refine⟨λ{X Γ} M {e} h RT Y J Z=>?_,λ{X Γ} M {e} h RT Y J Z=>?_,λ{X Γ} M {o xs q2} h RT Y J Z=>absurd h bN⟩;obtain⟨l,m,r,p,rfl,I,L,q⟩:=h0 h;exact aFG M (ha.e M I RT Y J Z) (hb.e M L RT Y J Z) (hc.e M q RT Y J Z) (aH q);obtain⟨l,m,r,p,rfl,I,L,q⟩:=h0 h;exact aFH M (ha.e M I RT Y J Z) (hb.e M L RT Y J Z) (hc.e M q RT Y J Z) (aH q)
theorem aIx{a:E}{j:Nat}(W:Q3 P n a):Q3 P n (.row j a):=Q3.of (λ{X Γ} M {e} h RT Y J Z=>by
 obtain⟨⟨y,i⟩,⟨p,rfl⟩,g⟩:=aC h;obtain⟨x,⟨q,I⟩,g⟩:=aC g;have I:y=.Name x q:=I;subst I;obtain⟨U,L⟩:=cA g;exact aIr M U (W.e M L RT Y J Z) (aH L)) (λ_=>rfl) rfl
theorem aIy{a:E}{i:Nat}(q:Q3 P n a):Q3 P n (.hid i a):=Q3.of (λ{X Γ} M {e} h RT Y J Z=>aIq λRT Z=>q.e M (cA h).2 RT Y J Z) (λ_=>rfl) rfl
theorem aIz{a b:E}(U:Q3 P n a)(hb:Q3 P n b):Q3 P n (.idx a b):=by
 have k:PEc P n (.idx a b):=λ{X Γ} M {e} h RT Y J Z=>by obtain⟨⟨x,i⟩,q,g⟩:=aC h;clear h;obtain⟨p,rfl⟩:=q;have h:=g;clear g;obtain⟨q,L⟩:=cA h;exact aIi (U.e M q RT Y J Z) (hb.e M L RT Y J Z) (aH L)
 refine⟨k,λ{X Γ} M {e} h RT Y J Z=>?_,λ{X Γ} M {o xs q0} h RT Y J Z=>absurd h bN⟩;refine lX (k M h RT Y J Z) ?_ λw p I=>?_;obtain⟨⟨x,i⟩,⟨p,rfl⟩,_⟩:=aC h;intro _;rfl;have I:=RE.bind' (show RE _ (ev P (call P n) Z a >>= λx=>ev P (call P n) Z b >>= λy=>bW x y >>= λz=>eK z) p from I);show RE _ (ev P (call P n) Z a >>= λx=>ev P (call P n) Z b >>= λy=>bW x y) _;rw[RE.bind];refine I.mono λx W=>?_;rw[RE.bind];exact(RE.bind' W).mono λy hy=>RE.bind' hy
theorem aIA{a:E}{up:Bool}{k:Nat}(W:Q3 P n a):Q3 P n (.sli a up k):=Q3.of (λ{X Γ} M {e} h RT Y J Z=>by
 obtain⟨⟨x,i⟩,⟨p,rfl⟩,g⟩:=aC h;obtain⟨⟨l,u⟩,⟨p2,L⟩,g⟩:=aC g;have L:i=.Slice l u none p2:=L;subst L;obtain⟨U,g⟩:=cA g;have one:∀{x:Ag},oS (asC x) (eqC (.int k))=true->PO X (some x) λ_ H Q=>Q (some (k:Int)) H:=λ{x} h=>by
  obtain⟨c,⟨j,q,rfl⟩,h⟩:=aC h;cases c with
  | int i=>rw[show(k:Int)=i from eq_of_beq h];exact λG s Z H Q I q=>aCS aAs G s Z H Q I ⟨_,rfl,q⟩|_=>cases h
 cases up <;> cases l <;> cases u <;> first|(cases g;done)|exact aEj (W.e M U RT Y J Z) (one g) wD|exact aEj (W.e M U RT Y J Z) wD (one g)) (λ_=>rfl) rfl
theorem aIB{es:Es}(L:QA P n es):Q3 P n (.tup es):=Q3.of (λ{X Γ} M {e} h RT Y J Z=>by
 obtain⟨xs,q,g⟩:=aC h;clear h;obtain⟨k,p,rfl⟩:=q;have h:=g;clear g;obtain⟨q,I⟩:=cA h;exact aIj (L.a M I RT Y J Z) I (of_decide_eq_true q)) (λ_=>rfl) rfl
theorem aIC{es:Es}(L:QA P n es):Q3 P n (.lst es):=Q3.of (λ{X Γ} M {e} h RT Y J Z=>by
 obtain⟨xs,q,g⟩:=aC h;clear h;obtain⟨p,rfl⟩:=q;have h:=g;clear g;obtain⟨q,I⟩:=cA h;exact aIk (L.a M I RT Y J Z) I (of_decide_eq_true q)) (λ_=>rfl) rfl
theorem aID{a b:E}(L:Q3 P n a)(hb:Q3 P n b):Q3 P n (.dic (.cons a .nil) (.cons b .nil)):=Q3.of (λ{X Γ} M {e} h RT Y J Z=>by
 obtain⟨r,q,g⟩:=aC h;clear h;obtain⟨p,rfl⟩:=q;obtain⟨q,I⟩:=cA g;exact aIm (L.e M q RT Y J Z) (hb.e M I RT Y J Z)) (λ_=>rfl) rfl
theorem aFU{f:Nat}{es:Es}(ha:QA P n es):Q3 P n (.call f es):=by
 have k:PEc P n (.call f es):=λ{X Γ} M {e} h RT Y J Z=>by obtain⟨⟨x,xs⟩,q,g⟩:=aC h;clear h;obtain⟨p1,p2,rfl⟩:=q;have h:=g;clear g;obtain⟨q,U,W,I⟩:=aAb h;exact aFD M (eq_of_beq q) U W (ha.a M I RT Y J Z) (fU I) I
 refine⟨k,λ{X Γ} M {e} h RT Y J Z=>?_,λ{X Γ} M {o xs q0} h RT Y J Z=>absurd h bN⟩;refine lX (k M h RT Y J Z) ?_ λw p L=>?_;obtain⟨⟨x,xs⟩,⟨p1,p2,rfl⟩,_⟩:=aC h;intro _;rfl;have L:=RE.bind' (show RE _ (evs P (call P n) Z es >>= λvs=>call P n f (vs.map (·.d)) >>= λr=>eK (eT vs r)) p from L);show RE _ (evs P (call P n) Z es >>= λvs=>call P n f (vs.map (·.d)) >>= λr=>R.ok (eT vs r)) _;rw[RE.bind];refine L.mono λx hx=>?_;rw[RE.bind];exact(RE.bind' hx).mono λy hy=>hy
theorem aKI{b:Bi}{es:Es}(ha:QA P n es):Q3 P n (.bi b es):=by
 have k:PEc P n (.bi b es):=λ{X Γ} M {e} h RT Y J Z=>by
  obtain⟨⟨x,xs⟩,q,g⟩:=aC h;clear h;obtain⟨p1,p2,rfl⟩:=q;have h:=g;clear g;obtain⟨h,L⟩:=cA h;obtain⟨q,U,W,h4,h5⟩:=aBr h;cases xs with
  | nil=>cases h5|cons y ys=>exact aKD M q (eq_of_beq U) W h4 (ha.a M L RT Y J Z) (fU L)
 refine⟨k,λ{X Γ} M {e} h RT Y J Z=>?_,λ{X Γ} M {o xs q0} h RT Y J Z=>absurd h bN⟩;refine lX (k M h RT Y J Z) ?_ λw p I=>?_;obtain⟨⟨x,xs⟩,⟨p1,p2,rfl⟩,_⟩:=aC h;intro _;rfl;have I:=RE.bind' (show RE _ (evs P (call P n) Z es >>= λvs=>biD b vs >>= λx=>eK x) p from I);show RE _ (evs P (call P n) Z es >>= λvs=>biD b vs) _;rw[RE.bind];exact I.mono λx hx=>RE.bind' hx
theorem aFV:Q3 P n (.dic .nil .nil):=Q3.of (λ{X Γ} M {e} h RT Y J Z=>by
 obtain⟨_,⟨p,rfl⟩,_⟩:=aC h;exact aFF) (λ_=>rfl) rfl
theorem aIE{a:E}{cs:List Cl}(ha:Q3 P n a):Q3 P n (.isi a cs):=by
 have k:PEc P n (.isi a cs):=λ{X Γ} M {e} h RT Y J Z=>by
  obtain⟨⟨f,xs⟩,U,g⟩:=aC h;clear h;obtain⟨p1,p2,rfl⟩:=U;have h:=g;clear g;rcases cs with _|⟨c,_|⟨_,_⟩⟩
  cases h;rcases xs with _|⟨x,_|⟨y,_|⟨_,_⟩⟩⟩
  cases h;cases h;obtain⟨U,h2,h3,h4,I⟩:=aBr h;unfold aEc at I;split at I;rename_i z p3;obtain⟨q1,q2,q3⟩:=cK I;have W:∃cv,sG c=some cv:=by cases c <;> first|exact⟨_,rfl⟩|cases h3
  obtain⟨cv,W⟩:=W;exact aIl M (eq_of_beq U) h2 W (eq_of_beq q1) q2 q3 (ha.e M h4 RT Y J Z) (aH h4);cases I;cases h;cases h
 refine⟨k,λ{X Γ} M {e} h RT Y J Z=>?_,λ{X Γ} M {o xs q0} h RT Y J Z=>absurd h bN⟩;refine lX (k M h RT Y J Z) ?_ λw p hp=>?_;obtain⟨⟨x,xs⟩,⟨p1,p2,rfl⟩,_⟩:=aC h;intro _;rfl;have hp:=RE.bind' (show RE _ (ev P (call P n) Z a >>= λx=>(match isI cs P x.d with|some k=>R.ok k|none=>.bad)) p from hp);show RE _ (ev P (call P n) Z a >>= λx=>(match isI cs P x.d with|some k=>R.ok (Vl.cl (.bl k))|none=>.bad)) _;rw[RE.bind];refine hp.mono λx L=>?_;cases q:isI cs P x.d with
 | none=>rw[q] at L;exact L.elim|some k=>rw[q] at L;exact L
theorem aIF{a:E}{cs:List Cl}(ha:Q3 P n a):Q3 P n (.isx a cs):=by
 have k:PEc P n (.isx a cs):=λ{X Γ} M {e} h RT Y J Z=>by
  obtain⟨⟨f,xs⟩,U,g⟩:=aC h;clear h;obtain⟨p1,p2,rfl⟩:=U;have h:=g;clear g;rcases xs with _|⟨x,_|⟨y,_|⟨_,_⟩⟩⟩
  cases h;cases h;obtain⟨U,h2,L,I⟩:=aAb h;unfold aHS at I;split at I;rename_i es tk tp;obtain⟨q1,q2⟩:=cA I;obtain⟨vs,i1,i2,i3⟩:=aBg M q1;refine aBf M (eq_of_beq U) h2 (ha.e M L RT Y J Z) (aH L) (pJ i1) rfl λZV H Q hq=>?_;have q2:es.length<=1000:=by simpa using q2
  exact⟨by rw[i3,AW];omega,λp W=>hq _ _ (aG.new W) (.inr ⟨p,vs,rfl,SqT.of aO,i2⟩)⟩;rename_i z zp;split at I;obtain⟨q1,q2⟩:=cA I;have e:z=("ValueError" : Str):=eq_of_beq q1;subst e;exact aBf M (eq_of_beq U) h2 (ha.e M L RT Y J Z) (aH L) (aCI (v:=.ty "ValueError") (M.gl q2) (M.md.blt _ (by decide +kernel)) (by kernel_rfl) rfl (by decide +kernel) (by decide +kernel)) rfl λZV H Q hq=>hq _ H (aG.refl H) (.inl ⟨_,rfl,rfl⟩);obtain⟨x',p,e1,e2,g1,g2,g3⟩:=sO I;cases e2;subst e1;obtain⟨C2,q⟩:=M.md.cls _ g3;exact aBf M (eq_of_beq U) h2 (ha.e M L RT Y J Z) (aH L) (gH (v:=.ref C2) (M.gl g1) q rfl (aF g2)) rfl λZV H Q hq=>hq _ H (aG.refl H) (.inl ⟨_,rfl,g3,C2,q,rfl⟩);cases I;cases I;cases h
 refine⟨k,λ{X Γ} M {e} h RT Y J Z=>?_,λ{X Γ} M {o xs q0} h RT Y J Z=>absurd h bN⟩;refine lX (k M h RT Y J Z) ?_ λw p W=>?_;obtain⟨⟨x,xs⟩,⟨p1,p2,rfl⟩,_⟩:=aC h;intro _;rfl;have W:=RE.bind' (show RE _ (ev P (call P n) Z a >>= λx=>(match isX cs P x.d with|some k=>R.ok k|none=>.bad)) p from W);show RE _ (ev P (call P n) Z a >>= λx=>(match isX cs P x.d with|some k=>R.ok (Vl.cl (.bl k))|none=>.bad)) _;rw[RE.bind];refine W.mono λx hx=>?_;cases q:isX cs P x.d with
 | none=>rw[q] at hx;exact hx.elim|some k=>rw[q] at hx;exact hx
theorem aFW{k:Nat}{caps:List Nat}{t:T}{it:Hp.It}{cond:Es}{elt:E}(hi:QI P n it)(hc:QA P n cond)(he:Q3 P n elt):Q3 P n (.comp k caps t it cond elt):=Q3.of (λ{X Γ} M {e} h RT Y J Z=>by
 obtain⟨el,tg,L,q0,scope,q1,rfl,O,U,h1,h2,I,h4,h5⟩:=qK h;refine aFR M (O.scope M) O.ndc O.tk U (hi M I RT Y J Z) (λC s₀ H₀ ex=>?_) (cX (fB I));have q:=O.mc M C s₀ H₀ ex;exact⟨tB q h2,λRT Y J Z1=>qH (hc.ts q h1 h4 RT Y J Z1),λpl E W own rs RT Y J Z1=>vF rs (he.e (q.inTry own) h5 RT Y J Z1)⟩) (λ_=>rfl) rfl
theorem aFX{i:Nat}{a:E}(ha:Q3 P n a):Q3 P n (.tget i a):=Q3.of (λ{X Γ} M {e} h RT Y J Z=>by
 obtain⟨⟨o,m,xs,l⟩,q,g⟩:=aC h;clear h;obtain⟨ap,cp,rfl,U⟩:=q;have h:=g;clear g;obtain⟨x,q,g⟩:=aC h;clear h;obtain⟨p,L⟩:=q;have h:=g;clear g;have L:o=.Name x p:=L;subst L;obtain⟨h,I⟩:=cA h;obtain⟨q,W,h3,h4,h5⟩:=aBr h;rw[show l=true from h5] at U;rcases xs with _|⟨y,_|⟨_,_⟩⟩
 cases I;exact aFE M (eq_of_beq q) (eq_of_beq W) h3 h4 U (ha.e M I RT Y J Z) (aH I);cases I) (λ_=>rfl) rfl
theorem qL{c:E}(h:∀{Γ:Ct} {e:Ag},aM Γ c e=false):Q3 P n c:=
 ⟨λ{X Γ} M {e} z=>absurd (h.symm.trans z) bN,λ{X Γ} M {e} z=>absurd (h.symm.trans z) bN,λ{X Γ} M {o xs q} z=>absurd (h.symm.trans z) bN⟩
theorem aIG:QA P n .nil:=by
 refine⟨λ{X Γ} M {es} h RT Y J Z=>?_,λ{X Γ} M {es} q h RT Y J Z=>?_⟩;cases es with
 | nil=>exact wX|cons _ _=>exact nf h
 cases es with
 | nil=>exact aFP|cons _ _=>exact nf h
theorem aFY{c:E}{cs:Es}(L:Q3 P n c)(hs:QA P n cs):QA P n (.cons c cs):=by
 refine⟨λ{X Γ} M {es} h RT Y J Z=>?_,λ{X Γ} M {es} U h RT Y J Z=>?_⟩;cases es with
 | nil=>exact nf h|cons e es=>obtain⟨q,I⟩:=cA h;exact jF (L.e M q RT Y J Z) (hs.a M I RT Y J Z) (aH q)
 cases es with
 | nil=>exact nf h|cons e es=>
  obtain⟨q,I⟩:=cA h;cases es with
  | nil=>cases cs with|nil=>exact aFQ (L.t M q RT Y J Z)|cons _ _=>exact absurd I bN
  | cons _ _=>simp at U
theorem aIH{c:E}(q:Q3 P n c):QI P n (.seq c):=λ{X Γ} M {tg e} h RT Y J Z=>aIo (q.e M (by exact h) RT Y J Z)
theorem aII{a b:E}(ha:Q3 P n a)(hb:Q3 P n b):QI P n (.rng a b):=λ{X Γ} M {tg e} h RT Y J Z=>by
 rw[tG] at h;obtain⟨⟨f,xs⟩,L,g⟩:=aC h;clear h;obtain⟨p1,p2,rfl⟩:=L;have h:=g;clear g;obtain⟨L,U,q⟩:=cK h;rcases xs with _|⟨x,_|⟨y,_|⟨_,_⟩⟩⟩
 cases q;obtain⟨q,I⟩:=cA q;have W:a=.c (.int 0):=by unfold uW at q;split at q;rw[eq_of_beq q];cases q
 rw[W];exact aFN M (eq_of_beq L) U (hb.e M I RT Y J Z) (aH I);obtain⟨q,I⟩:=cA q;exact aFO M (eq_of_beq L) U (ha.e M q RT Y J Z) (hb.e M I RT Y J Z) (aH q) (aH I);cases q
theorem aIJ{a b:E}(ha:Q3 P n a)(hb:Q3 P n b):QI P n (.zip a b):=λ{X Γ} M {tg e} h RT Y J Z=>by
 rw[tH] at h;obtain⟨⟨f,xs⟩,I,g⟩:=aC h;clear h;obtain⟨p1,p2,rfl⟩:=I;have h:=g;clear g;rcases xs with _|⟨x,_|⟨y,_|⟨_,_⟩⟩⟩
 cases h;cases h;obtain⟨q,I,W,L,U⟩:=aBr h;unfold oE at q;split at q;exact aIp M (eq_of_beq I) W (ha.e M L RT Y J Z) (hb.e M U RT Y J Z) (aH L) (aH U);cases q;cases h
theorem aIK{i:Nat}{k:E}(U:Q3 P n k):Q3 P n (.lix i k):=Q3.of (λ{X Γ} M {e} h RT Y J Z=>by
 obtain⟨⟨x,ix⟩,I,g⟩:=aC h;clear h;obtain⟨p,rfl⟩:=I;obtain⟨y,⟨W,q⟩,g⟩:=aC g;have q:x=.Name y W:=q;subst q;obtain⟨I,L⟩:=cA g;exact aIs M I (U.e M L RT Y J Z) (aH L)) (λ_=>rfl) rfl
mutual
theorem qE:(c:E)->Q3 P n c
 | .c _=>n_c|.v _=>n_v|.op _ a b=>aKF (qE a) (qE b)|.neg a=>aIt (qE a)|.nt a=>aKG (qE a)|.an a b=>aKH (qE a) (qE b)|.orr a b=>aIu (qE a) (qE b)|.ife t a b=>aIv (qE t) (qE a) (qE b)|.cmp _ a b=>aIw (qE a) (qE b)|.cmp2 _ _ a b c=>aFT (qE a) (qE b) (qE c)|.idx a b=>aIz (qE a) (qE b)|.row _ a=>aIx (qE a)|.hid _ a=>aIy (qE a)|.sli a _ _=>aIA (qE a)|.tup es=>aIB (qA es)|.lst es=>aIC (qA es)|.dic (.cons a .nil) (.cons b .nil)=>aID (qE a) (qE b)|.dic .nil .nil=>aFV|.dic .nil (.cons _ _)=>qL rfl|.dic (.cons _ (.cons _ _)) _=>qL rfl|.dic (.cons _ .nil) .nil=>qL rfl|.dic (.cons _ .nil) (.cons _ (.cons _ _))=>qL rfl|.call _ es=>aFU (qA es)|.bi _ es=>aKI (qA es)|.isi a _=>aIE (qE a)|.isx a _=>aIF (qE a)|.comp _ _ _ it cond elt=>aFW (qI it) (qA cond) (qE elt)|.tget _ a=>aFX (qE a)|.lix _ k=>aIK (qE k)
theorem qA:(cs:Es)->QA P n cs
 | .nil=>aIG|.cons c cs=>aFY (qE c) (qA cs)
theorem qI:(it:Hp.It)->QI P n it
 | .seq c=>aIH (qE c)|.rng a b=>aII (qE a) (qE b)|.zip a b=>aIJ (qE a) (qE b)
end
theorem sE(c:E):PEc P n c:=(qE c).e
theorem sT(c:E):PTc P n c:=(qE c).t
theorem sTs(cs:Es):∀{X:Cx} {Γ:Ct},Mc X P Γ n->∀{es:List Ag},es.length<=1->chkEs Γ cs es=true->∀(RT Y J:Addr->Prop) (Z:Sg),PTs X es (wTs X P n RT Y J Z cs):=(qA cs).ts
theorem sI(it:Hp.It):QI P n it:=qI it
end
end Hp
end
noncomputable section
set_option maxRecDepth 100000
namespace L2
open PySem PySem.Spec PyProof.Rows
theorem vG:entryFor table "proto.unchain" = some DR.«proto.unchain»:=by kernel_rfl
theorem vH{prog:A5}{w:AM}{A:AY}{E:Value->Ad->Prop}{e:Value}{q:Obj}{a:Addr}{I:Array Value}{s:Ad}{Q:Value->Ad->Prop}(hb:s.heap.get? a=some q)(hd:q.data=.fields I)(L:I[2]? = some .none)(M:Q .none s) :
 Ao (Au prog w) A (runValue (.builtin "proto.unchain" ⟨[e,.ref a,.ref a,.bool false],[]⟩)) Q E s:=by refine runValue_entry vG ?_;show Ao _ _ (do let context<-FK (.ref a) 2;_) _ _ _;refine Aa (AD hb hd L ?_);rw[if_pos (by decide)];exact Ar ⟨.none,rfl,M⟩
theorem vI{prog:A5}{w:AM}{A:AY}{E:Value->Ad->Prop}{env:En}{nm q:Str}{C N:Addr}{bs bm:List Value}{hdct:Bool}{sn:List Str}{sub:List Value}{ab:Bool}{col:Option Bool}{dd:Option Addr}{k0 k1 k2 k3 k5:Option Value}{newId:String}{b:Addr}{x c:Ht Value}{s:Ad}{Q:Flow->Ad->Prop}
 (q1:bm.contains (.type "BaseException")=true) (hh:A.handled=some (.ref b)) (hc:∀{s:Ad} {A:AY} {Q:Value->Ad->Prop} {E:Value->Ad->Prop},Q .none s->Ao (Au prog w) A c Q E s)
 (hx:Ao (Au prog w) A x (λv I=>∃e t ob vb,v=.ref e/\I.heap.get? C=some (C7 nm q C N bs bm hdct sn sub ab col dd k0 k1 k2 k3 k5 newId)/\I.heap.get? e=some { cls:=.ref C,data:=.fields #[.ref t,.none,.none,.none,.bool false,.none] }/\I.heap.get? b=some ob/\ob.data=.fields vb/\vb[2]? = some .none/\e≠b/\e≠C /\
  ∀h',(∀c,c≠e->h'.get? c=I.heap.get? c)->h'.objs.size=I.heap.objs.size->h'.get? e=some { cls:=.ref C,data:=.fields #[.ref t,.none,.ref b,.none,.bool true,.none] }->E (.ref e) { I with heap:=h' }) E s) :
 Ao (Au prog w) A (raiseStmt env (some x) (some c)) Q E s:=by
 unfold raiseStmt;refine Aa (thn hx ?_);rintro v I ⟨e,t,ob,vb,rfl,W,he,hb,hd,h2,M,q4,hE⟩;obtain⟨h,g,d,tk,os⟩:=I;have W:h.get? C=_:=W;have he:h.get? e=_:=he;have hb:h.get? b=_:=hb;have q2:(AA C::bm).contains (.type "BaseException")=true:=by rw[CO,q1,Bz]
 dsimp only;refine Aa (BN (hc ?_));refine Aa (Ar ?_);refine Aa (BN ?_);unfold excFromValue isExcClass
 repeat (first|(with_reducible refine AZ he ?_)|with_reducible refine AZ W ?_|(with_reducible refine B0 W ?_;rw[q2])|wp_step)
 have nd:∀(f:Array Value->Array Value) (o:Obj) (vs:Array Value),o.data=.fields vs->(AR f o).data=.fields (f vs):=λf o vs z=>AB z f;have q3:=AK (AR λx=>x.setIfInBounds 3 AG) he (AQ (AB rfl _));have U:=AK (AR λx=>x.setIfInBounds 4 (EJ true)) q3 (AQ (AB rfl _));have q0:((h.update e (AR λx=>x.setIfInBounds 3 AG)).update e (AR λx=>x.setIfInBounds 4 (EJ true))).get? b=some ob:=by rw[Am _ _ M,Am _ _ M];exact hb
 unfold raiseNew;refine Aa (G6 ?_);rw[hh];dsimp only;rw[if_pos (show(AA b != AA e)=true by simp[Bp M])];refine Aa (BN (vH q0 hd h2 ?_));refine Aa ?_;show Ao _ _ (Hj (.ref e) 2 (.ref b)) _ _ _;refine BB U rfl (by simp) ?_;refine FJ ?_;refine hE _ (λc L=>?_) ?_ ?_;rw[Am _ _ (Bp L),Am _ _ (Bp L),Am _ _ (Bp L)];rw[BL,BL,BL];exact AK (AR λx=>x.setIfInBounds 2 (AA b)) U (AQ (AB rfl _))
theorem qM{M:EC}{A:AY}{E:Value->Ad->Prop}{h:Heap}{g:Array Fd}{d:HC}{t:Nat}{os:Eb}{e tup CA CB C1:Addr}{oe:Obj}{Q:Bool->Ad->Prop}
 {nm q:Str} {N:Addr} {bs bm:List Value} {hdct:Bool} {sn:List Str} {sub:List Value} {ab:Bool} {col:Option Bool} {dd:Option Addr} {k0 k1 k2 k3 k5:Option Value} {newId:String}
 {x5 q':Str} {N':Addr} {w6 W:List Value} {q1:Bool} {x8:List Str} {q9:List Value} {w4:Bool} {q5:Option Bool} {w8:Option Addr} {z5 z7 z9 x1 x3:Option Value} {L:String}
 {x6 q2:Str} {N2:Addr} {w7 q0:List Value} {q3:Bool} {x9:List Str} {w3:List Value} {w5:Bool} {q6:Option Bool} {w9:Option Addr} {z6 z8 x0 x2 x4:Option Value} {U:String}
 (q7:h.get? C1=some (C7 nm q C1 N bs bm hdct sn sub ab col dd k0 k1 k2 k3 k5 newId)) (hA:h.get? CA=some (C7 x5 q' CA N' w6 W q1 x8 q9 w4 q5 w8 z5 z7 z9 x1 x3 L)) (hB:h.get? CB=some (C7 x6 q2 CB N2 w7 q0 q3 x9 w3 w5 q6 w9 z6 z8 x0 x2 x4 U))
 (ht:IsTup h tup #[.ref CA,.ref CB]) (he:h.get? e=some oe) (q8:oe.cls=.ref C1) (z0:W.contains (.type "BaseException")=true) (z1:q0.contains (.type "BaseException")=true)
 (z4:(AA C1::bm).contains (.ref CA)=true\/(AA C1::bm).contains (.ref CB)=true)
 (hq:Q true ⟨h,g,d,t,os⟩):Ao M A (EV (.ref e) (.ref tup)) Q E ⟨h,g,d,t,os⟩:=by
 have z2:(AA CA::W).contains (.type "BaseException")=true:=by rw[CO,z0,Bz]
 have z3:(AA CB::q0).contains (.type "BaseException")=true:=by rw[CO,z1,Bz]
 obtain⟨o,ho,I,n,q4⟩:=ht;have T:(⟨h,g,d,t,os⟩:Ad).TypeIs (.ref tup) "tuple" := ⟨o,ho,I⟩
 obtain⟨oc,od,x7,osl⟩:=o;have I:oc=_:=I;have q4:x7=_:=q4;subst I q4;have f:=Hk;unfold EV;refine Aa (FD T (b:=true) rfl ?_);rw[if_pos rfl]
 repeat (first|(with_reducible refine AZ he ?_;rw[q8])|with_reducible refine AZ hA ?_|with_reducible refine AZ hB ?_|with_reducible refine AZ ho ?_|(with_reducible refine B0 hA ?_;rw[z2])|(with_reducible refine B0 hB ?_;rw[z3])|wp_step)
 refine B0 q7 ?_;cases qa:(AA C1::bm).contains (.ref CA) with
 | true=>
  repeat (first|wp_step)
  exact hq
 | false=>
  have qb:=z4.resolve_left (by rw[qa];exact bN)
  repeat (first|(with_reducible refine B0 q7 ?_;rw[qb])|wp_step)
  exact hq
theorem qN{prog:A5}{w:AM}{A:AY}{E:Value->Ad->Prop}{nm q:Str}{C N:Addr}{bs bm:List Value}{hdct:Bool}{sn:List Str}{sub:List Value}{ab:Bool}{col:Option Bool}{dd:Option Addr}{k0 k1 k2 k3 k5:Option Value}{newId:String}{s:Ad}{L:Cf}{args:List (Bool×Ht Value)}{Q:Value->Ad->Prop}(U:args.any (·.1)=false)
 (h:Ao (Au prog w) A (evalArgs (.ref C) true args []) (λa I=>a.kw=[]/\I.heap.get? C=some (C7 nm q C N bs bm hdct sn sub ab col dd k0 k1 k2 k3 k5 newId)/\Ao (Au prog w) A (call (.ref C) a.pos) Q E I) E s) :
 Ao (Au prog w) A (callWith L (.ref C) [] args []) Q E s:=by
 unfold callWith;refine Aa (BN (thn h ?_));rintro a ⟨W,g,d,t,os⟩ ⟨hk,M,hq⟩;have M:W.get? C=_:=M;have f:=tc_lookup;have f2:=tc_bind (.ref C);unfold keeperOf
 repeat (first|with_reducible refine AZ M ?_|wp_step)
 rw[U,if_pos (show(some (C0 "type.__call__")==some (C0 "type.__call__"))=true by decide)];show Ao _ _ (do let r<-call (AA C) ([]++a.pos) a.kw;(do Fh [r] point;pure r)) _ _ _;rw[hk,Dn];refine Aa (thn hq λr s' z=>?_)
 repeat (first|wp_step)
 exact z
section
variable {X:Cx}
theorem Inv.pins{G pins':List (Addr×Obj)}{Z:St}{H:Hp}{s:Ad}(I:Inv X G Z H s)(h:∀p∈X.pn++pins',s.heap.get? p.1=some p.2/\H p.1=none/\p.1≠X.env.locals/\p.1∉X.fs/\∀v,p.2.data≠.cell v):Inv X pins' Z H s:=
 ⟨I.ok,I.os,I.bare,I.base,I.loc,I.cell,I.free,I.freeC,h,I.hok,I.len⟩
theorem Inv.pins_sub{G pins':List (Addr×Obj)}{Z:St}{H:Hp}{s:Ad}(I:Inv X G Z H s)(h:∀p∈pins',p∈G):Inv X pins' Z H s:=
 I.pins λp q=>I.pin p ((Bc.mp q).elim (AC _) λz=>Aq _ (h p z))
theorem Inv.rec_pin{G:List (Addr×Obj)}{Z:St}{H:Hp}{s:Ad}(I:Inv X G Z H s)(W:X.stack=X.env::X.outer)(M:X.env.frame=some X.env.locals){b:Addr}{o:Obj}{vs:Array Value}(q:s.heap.get? b=some o)(d:o.data=.fields vs)(n:H b=none) :
 s.heap.get? b=some o/\H b=none/\b≠X.env.locals/\b∉X.fs/\∀v,o.data≠.cell v:=by
 refine⟨q,n,λz=>?_,λz=>?_,λv z=>by rw[d] at z;cases z⟩;obtain⟨m,⟨o',es,ep,L,hd,_⟩,_⟩:=I.loc;rw[<-z,q] at L;cases L;rw[d] at hd;cases hd;have hb:b∈frs X.stack:=by rw[W];unfold frs;rw[Bm,M];exact Af _ z
 obtain⟨_,o',L,U⟩:=I.stack.mem hb;rw[q] at L;cases L;exact U vs d
theorem aDp{body:List B5}{tb:(Value->St->Hp->Prop)->TS}{xA xB xc txt:Str}{L M C:Addr}{nA nB newId:String}{pA pB np q2 rp cp hp tp q5 pos:Cf}{W:Value->St->Hp->Prop}{Bn inN:String}{v9:List Value}{cx tj cj}(Fn:GS Bn newId inN v9)(u2:bmV.contains (.type Bn)=true)
 (hgA:Gl X xA) (hmA:X.mg xA=some (.ref L)) (hdA:(xA==("__debug__" : Str))=false) (qA:Be X.K L bmV nA=true)
 (hgB:Gl X xB) (hmB:X.mg xB=some (.ref M)) (hdB:(xB==("__debug__" : Str))=false) (qB:Be X.K M bmV nB=true)
 (hgc:Gl X xc) (hmc:X.mg xc=some (.ref C)) (hdc:(xc==("__debug__" : Str))=false) (qc:Be X.K C bmV newId=true)
 (U:X.stack=X.env::X.outer) (hR:Rs X W)
 (hb:∀(G:List (Addr×Obj)) (E:Value->Ad->Prop) (W:Value->St->Hp->Prop),BE (Au X.prog X.w) X.A X.env E->Rs (X.inTry G E) W->PSs (X.inTry G E) body (tb W)) :
 PS X (.Try body [.ExceptHandler (some (.Tuple [.Name xA pA,.Name xB pB] cx tp)) none [.Raise (some (.Call (.Name xc np) [.Constant (.str txt) tj q5] [] q2)) (some (.Constant .none cj cp)) rp] hp] [] [] pos)
  (λD Z H=>tb (λcls Z' H'=>∃C1,kC cls=.ref C1/\plC cls=true/\(∃id,Be X.K C1 bmV id=true)/\(kF X.K C1 L=true\/kF X.K C1 M=true)/\∀p,H' p=none->Hp.Tk X.K (upd H' p (.tup [.ref L,.ref M]))->W (chC C) Z' (upd H' p (.tup [.ref L,.ref M]))) D Z H):=by
 intro G s Z H D I h;refine F9 ?_;refine B6 (hb G (λe q4=>Ao (Au X.prog X.w) X.A (BG e X.env) (λ_ v7=>Ao (Au X.prog X.w) X.A (De e none) (λ_ v8=>Ao (Au X.prog X.w) X.A (handleBy e X.env [.ExceptHandler (some (.Tuple [.Name xA pA,.Name xB pB] cx tp)) none [.Raise (some (.Call (.Name xc np) [.Constant (.str txt) tj q5] [] q2)) (some (.Constant .none cj cp)) rp] hp]) (SP X G D) X.xe v8) X.xe v7) X.xe q4) _ DA ?_ [] s Z H D I.inTry h) (λf q4 q=>?_) λe q4 q=>q;intro pins' Z' H' s' a cls I1 fl hW;obtain⟨C1,hkc,x2,⟨id1,q1⟩,hit,hD⟩:=hW;have I0:Inv X G Z' H' s':=I1.outTry;obtain⟨T,rc,nw⟩:=fl;have nw:∀b,(b=a\/T=some b)->¬ (Old X.s₀.heap b/\b∉X.ex)/\H' b=none/\b∉pinA X G:=λb z=>⟨(nw b z).1,(nw b z).2.1,λy=>(nw b z).2.2 (by
  obtain⟨p,hp,e⟩:=Aw.mp y;exact Aw.mpr ⟨p,AC _ hp,e⟩)⟩
 have q0:X.env.frame=some X.env.locals:=by
  rcases I0.ok.stk with z|⟨_,z⟩
  rw[U] at z;exact absurd (congrArg CQ z) (by simp);exact z
 have z8:∀b∈X.fs,b∈frs (X.env::X.outer)\/frs (X.env::X.outer)=[]:=λb hb=>.inl (by unfold frs;rw[Bm,q0];exact Af _ hb);show Ao (Au X.prog X.w) X.A (BG (.ref a) X.env) _ X.xe s';refine uZ (base:=X.base) (outer:=X.outer) (by rw[I0.ok.frames,U]) (by rw[<-U];exact I0.stack) q0 rc λh1 T1 l1 x1 r1=>?_;have I2:Inv X G Z' H' { s' with heap:=h1 }:=I0.note x1 (λb hb=>by rw[U];exact hb) z8 rc nw;have q7:∀b,(b=a\/some T1=some b)->¬ (Old X.s₀.heap b/\b∉X.ex)/\H' b=none/\b∉pinA X G:=λb z=>by rcases z with z|z;exact nw b (.inl z);cases z;rcases l1 with l1|l1;exact⟨λz=>absurd z.1.lt (BI.mpr (AH I0.sz l1)),I0.hok.fresh l1,λz=>absurd (eV I0 _ z).lt (BI.mpr l1)⟩;exact nw _ (.inr l1)
 obtain⟨oe,vs,he,hc,hdi,z7,u8,hv1,u6,oT,ts,hT,z6,u0,h3⟩:=id r1;have IP:Inv X ((a,oe)::(T1,oT)::G) Z' H' { s' with heap:=h1 }:=I2.pins λp hp=>by rcases Bc.mp hp with z|z;exact I2.pin p (AC _ z);rcases A8.mp z with rfl|z;exact I2.rec_pin U q0 he z7 (q7 a (.inl rfl)).2.1;rcases A8.mp z with rfl|z;exact I2.rec_pin U q0 hT z6 (q7 T1 (.inr rfl)).2.1;exact I2.pin p (Aq _ z)
 have PT:PE (X.inExc (.ref a)) (.Tuple [.Name xA pA,.Name xB pB] cx tp) (aHH (wB (tC (.ref L)) (wB (tC (.ref M)) aFl))):=pJ (cD (gH (X:=X.inExc (.ref a)) hgA hmA rfl hdA) (cD (gH (X:=X.inExc (.ref a)) hgB hmB rfl hdB) dG));refine E8 (Ek (B6 (PT _ _ Z' H' (λv H3=>∃p,v=.ref p/\H' p=none/\H3=upd H' p (.tup [.ref L,.ref M])) IP.inExc ⟨by show 2<=sizeLine;rw[AW];decide,λp hp=>⟨p,rfl,hp,rfl⟩⟩) (λu s3 q=>?_) (λ_ _ z=>z.elim))) (by intro q;cases q);obtain⟨v,H3,I3,rv,p,rfl,hp0,rfl⟩:=q;cases rv;have I3:=I3.outExc I0.ok.hd;obtain⟨ga,z3,_⟩:=I3.pin (a,oe) (Aq _ Aj);obtain⟨gT,u1,_⟩:=I3.pin (T1,oT) (Aq _ (Af _ Aj));have r3:Rec s3.heap a cls (some T1):=⟨oe,vs,ga,hc,hdi,z7,u8,hv1,u6,oT,ts,gT,z6,u0,h3⟩
 have nw3:∀b,(b=a\/some T1=some b)->¬ (Old X.s₀.heap b/\b∉X.ex)/\(upd H' p (.tup [.ref L,.ref M])) b=none/\b∉pinA X G:=λb z=>⟨(q7 b z).1,by rcases z with rfl|z;exact z3;cases z;exact u1,(q7 b z).2.2⟩
 have I3:Inv X G Z' (upd H' p (.tup [.ref L,.ref M])) s3:=I3.pins_sub λq hq=>Af _ (Af _ hq);obtain⟨w8,N1,nm1,qn1,bs1,hdct1,sn1,sub1,ab1,col1,dd1,k01,k11,k21,k31,k51,mN1,w3,_,_,_⟩:=hZ (X:=X) I3.kIn q1;obtain⟨bmA,NA,nmA,qnA,bsA,hdctA,snA,subA,abA,colA,ddA,k0A,k1A,k2A,k3A,k5A,mNA,u3,_,_,TA⟩:=hZ (X:=X) I3.kIn qA;obtain⟨bmB,NB,nmB,qnB,bsB,hdctB,snB,subB,abB,colB,ddB,k0B,k1B,k2B,k3B,k5B,mNB,u4,_,_,TB⟩:=hZ (X:=X) I3.kIn qB;obtain⟨its,rI,ht,_⟩:=I3.tuple (SqT.of (K:=X.K) aO);have ei:its=[.ref L,.ref M]:=by
  cases rI with
  | cons r1 t=>cases t with|cons r2 t=>cases t;cases r1;cases r2;rfl
 subst ei;have hh:(AA C1::w8).contains (.ref L)=true\/(AA C1::w8).contains (.ref M)=true:=by rcases hit with z|z;obtain⟨cd,e1,e2⟩:=vC I3.kIn z w3;cases e1;exact .inl e2;obtain⟨cd,e1,e2⟩:=vC I3.kIn z w3;cases e1;exact .inr e2
 refine qM (h:=s3.heap) (g:=s3.gens) (d:=s3.drawn) (t:=s3.toks) (os:=s3.os) w3 u3 u4 ht ga (hc.trans hkc) (TA.hasType rfl) (TB.hasType rfl) hh ?_;refine codeAny_handlers_suite (sH r3 λh4 x4 r4=>?_);have I4:Inv X G Z' (upd H' p (.tup [.ref L,.ref M])) { s3 with heap:=h4 }:=Inv.note (s:=s3) (fr:=[]) I3 x4 (λb hb=>by cases hb) (λb hb=>.inr rfl) r3 nw3;obtain⟨w5,vs4,he4,hc4,_,z5,z4,_⟩:=id r4;have w6:Inv X ((a,w5)::G) Z' (upd H' p (.tup [.ref L,.ref M])) { s3 with heap:=h4 }:=I4.pins λq hq=>by rcases Bc.mp hq with z|z;exact I4.pin q (AC _ z);rcases A8.mp z with rfl|z;exact I4.rec_pin U q0 he4 z5 z3;exact I4.pin q (Aq _ z)
 have PC:PA (X.inExc (.ref a)) [.Constant (.str txt) tj q5] (wB (tC (.str txt)) aFl):=cD aAt dG;refine DH ?_;rw[arm_exec_Raise];obtain⟨w9,Nc,v3,v5,z0,q3,v6,q9,w7,q8,z1,x5,x6,v0,v1,v2,mNc,q6,u5,z9,Tc⟩:=hZ (X:=X) I4.mod.kin qc;refine Aa (CH (vI (nm:=v3) (q:=v5) (N:=Nc) (bs:=z0) (bm:=w9) (hdct:=q3) (sn:=v6) (sub:=q9) (ab:=w7) (col:=q8) (dd:=z1) (k0:=x5) (k1:=x6) (k2:=v0) (k3:=v1) (k5:=v2) (newId:=newId) (b:=a) (C:=C) (Tc.hasType rfl) rfl (λ{s A Q E} hq=>?_) ?_));exact Aa (Gu (Aa (CH (Ar hq))));refine Aa (Bu (eR (X:=X.inExc (.ref a)) w6.inExc hgc hmc ?_ hdc));refine qN (nm:=v3) (q:=v5) (N:=Nc) (bs:=z0) (bm:=w9) (hdct:=q3) (sn:=v6) (sub:=q9) (ab:=w7) (col:=q8) (dd:=z1) (k0:=x5) (k1:=x6) (k2:=v0) (k3:=v1) (k5:=v2) (newId:=newId) rfl (C5 (B6 (PC q2 _ _ Z' _ (λxs H5=>xs=[.str txt]/\H5=upd H' p (.tup [.ref L,.ref M])) w6.inExc ⟨rfl,rfl⟩) (λus s5 q=>?_) (λ_ _ z=>z.elim)));obtain⟨xs,H5,I5,rv5,rfl,rfl⟩:=q;have I5:=I5.outExc I0.ok.hd;obtain⟨z2,gan5,_⟩:=I5.pin (a,w5) (Aq _ Aj);have I5:Inv X G Z' (upd H' p (.tup [.ref L,.ref M])) s5:=I5.pins_sub λq hq=>Af _ hq;refine⟨rfl,I5.bk _ _ q6,?_⟩;have hus:us.length<=sizeLine:=by rw[<-rv5.length];show 1<=sizeLine;rw[AW];decide
 refine wpAny_call_exc_subU (h:=s5.heap) (g:=s5.gens) (d:=s5.drawn) (t:=s5.toks) (os:=s5.os) Fn u2 BO (Tc.keeps I5.bk) (I5.bk _ _ q6) (u5.keeps I5.bk) z9 (λh6 e m=>?_) hus;refine Aa (CH (Ar ?_));have hn:(upd H' p (.tup [.ref L,.ref M])) e=none:=by
  cases z:(upd H' p (.tup [.ref L,.ref M])) e with
  | none=>rfl|some o=>obtain⟨ob,x0⟩:=(I5.hok e o z).old;rw[m.new] at x0;cases x0
 obtain⟨t6,x3,_⟩:=m.there;have I6:Inv X G Z' (upd H' p (.tup [.ref L,.ref M])) { s5 with heap:=h6 }:=I5.un (t':=s5.toks) (Un.kept m.keeps) (I5.hok.kept m.keeps);have w4:∀b,(b=e\/none=some b)->¬ (Old X.s₀.heap b/\b∉X.ex)/\(upd H' p (.tup [.ref L,.ref M])) b=none/\b∉pinA X G:=λb z=>by rcases z with rfl|z;exact⟨λz=>(by obtain⟨o,q⟩:=pS I5 _ z.1 z.2;rw[m.new] at q;cases q),hn,λz=>(by obtain⟨o,q⟩:=eV I5 _ z;rw[m.new] at q;cases q)⟩;cases z
 refine⟨e,t6,w5,vs4,rfl,m.keeps _ _ (I5.bk _ _ q6),x3,m.keeps _ _ z2,z5,z4 x2,λz=>?_,λz=>?_,λh7 same hsz7 he7=>?_⟩;have q:=m.new;rw[z,z2] at q;cases q;have q:=m.new;rw[z,I5.bk _ _ q6] at q;cases q;have r6:Rec h6 e (.ref C) none:=⟨_,_,x3,rfl,rfl,rfl,λ_=>rfl,rfl⟩
 have x7:Lx [] e none h6 h7:=⟨λb o q _ u7 _=>(same b u7).trans q,λb o _ z=>by cases z⟩
 have I7:Inv X G Z' (upd H' p (.tup [.ref L,.ref M])) { s5 with heap:=h7 }:=Inv.note (s:={ s5 with heap:=h6 }) (fr:=[]) I6 x7 (λb hb=>by cases hb) (λb hb=>.inr rfl) r6 w4;have r7:Rec h7 e (chC C) none:=⟨_,_,he7,rfl,rfl,rfl,λz=>(by cases z),rfl⟩
 show Ao (Au X.prog X.w) (X.A.mark (some (.ref a))) (BG (.ref e) X.env) _ _ { s5 with heap:=h7 };refine wQ (base:=X.base) (outer:=X.outer) (A:=X.A.mark (some (.ref a))) (by show X.A.frames=_;rw[I7.ok.frames,U]) (by rw[<-U];exact I7.stack) q0 r7 λh8 T8 l8 x8 r8=>?_;have I8:Inv X G Z' (upd H' p (.tup [.ref L,.ref M])) { s5 with heap:=h8 }:=Inv.note (s:={ s5 with heap:=h7 }) I7 x8 (λb hb=>by rw[U];exact hb) z8 r7 w4;have v4:∀b,(b=e\/some T8=some b)->¬ (Old X.s₀.heap b/\b∉X.ex)/\(upd H' p (.tup [.ref L,.ref M])) b=none/\b∉pinA X G:=λb z=>by rcases z with z|z;exact w4 b (.inl z);cases z;rcases l8 with l8|l8;exact⟨λz=>absurd z.1.lt (BI.mpr (AH I7.sz l8)),I7.hok.fresh l8,λz=>absurd (eV I7 _ z).lt (BI.mpr l8)⟩;cases l8
 show Ao (Au X.prog X.w) X.A _ _ X.xe { s5 with heap:=h8 };obtain⟨oe8,vs8,he8,hc8,hdi8,u9,hcx8,hv8,_⟩:=id r8;refine Aa (AD (s:={ s5 with heap:=h8 }) he8 u9 hv8 ?_);rw[if_neg (show ¬ ((AA T8==AG)=true) from by simp)];refine aAT (s:={ s5 with heap:=h8 }) r8 λh9 x9 r9=>?_;exact hR G Z' _ _ e (chC C) (Inv.note (s:={ s5 with heap:=h8 }) (fr:=[]) I8 x9 (λb hb=>by cases hb) (λb hb=>.inr rfl) r8 v4) ⟨some T8,r9,v4⟩ (hD p hp0 I8.tk);cases f with
 | next=>exact CJ (SP.outTry (f:=.next) q)|brk=>exact SP.outTry (f:=.brk) q|cont=>exact SP.outTry (f:=.cont) q|ret u=>exact SP.outTry (f:=.ret u) q
end
end L2
end
noncomputable section
set_option maxHeartbeats 4000000
namespace Hp
open PySem PySem.Spec PyProof.Rows L2
noncomputable def cO(K:Fg)(RT Y J:Addr->Prop)(H:Hp)(Z':Sg)(Q:L2.St->Hp->Prop):Prop:=
 ∀(RT':Addr->Prop) (ZV':L2.St) (H':Hp),Kp RT H H'->(∀b,RT' b->RT b\/H b=none)->Sx K RT' Y J Z' ZV' H'->Q ZV' H'
noncomputable def Rtv(K:Fg)(Y J:Addr->Prop)(H':Hp)(v:Vl)(u:V):Prop:=
 if v.fr=true then ∃a xs ds,u=.ref a/\v.d=.lst ds/\¬ J a/\H' a=some (.lst xs)/\Reps K H' (λb=>b=a\/exB Y J v.pa b) ds xs
 else Rep K H' (exB Y J v.pa) v.d u
noncomputable def aKJ(K:Fg)(RT Y J:Addr->Prop)(H H':Hp)(v:Vl)(u:V):Prop:=∃(d:D) (cs:List D) (R2:Addr->Prop) (p:Addr) (xs:List V),v.d=.tup [d,.err ⟨#[]⟩ cs]/\(∀b,R2 b->RT b\/H b=none)/\R2 p/\J p/\H' p=some (.lst xs)/\Reps K H' (λb=>R2 b\/Y b) cs xs /\
 if v.fr=true then ∃a ys es,u=.ref a/\d=.lst es/\¬ J a/\R2 a/\H' a=some (.lst ys)/\Reps K H' (λb=>R2 b\/exB Y J v.pa b) es ys else Rep K H' (λb=>R2 b\/exB Y J v.pa b) d u
noncomputable def iP(K:Fg)(RT Y J:Addr->Prop)(H:Hp)(v:Vl)(Q:VK):Prop:=∀(u:V) (H':Hp),Kp RT H H'->Tk K H'->Rtv K Y J H' v u\/aKJ K RT Y J H H' v u->Q u H'
noncomputable def OE(K:Fg)(w:L2.St->Hp->D->Prop)(RT Y J:Addr->Prop)(H:Hp)(o:O)(D:Ends):Prop:=match o with|.next Z'=>cO K RT Y J H Z' D.nx|.ret v=>iP K RT Y J H v D.rt|.exc x Z'=>cO K RT Y J H Z' λZV H=>w ZV H x|.bad=>False
noncomputable def wS(X:Cx)(RT Y J:Addr->Prop)(Z:Sg)(o:O):TS:=λD ZV H=>Sx X.K RT Y J Z ZV H/\OE X.K (XW X) RT Y J H o D
section
variable {K:Fg} {w w':L2.St->Hp->D->Prop} {RT RT' RT'' Y J:Addr->Prop} {Z:Sg} {ZV:L2.St} {H H1 H2:Hp} {o:O} {D D':Ends}
theorem Kp.chain(a:Kp RT H H1)(s:∀b,RT' b->RT b\/H b=none)(b:Kp RT' H1 H2):Kp RT H H2:=λc o e n=>b c o (a c o e n) λz=>(s c z).elim n λq=>by rw[q] at e;cases e
theorem gL(a:Kp RT H H1)(s1:∀b,RT' b->RT b\/H b=none)(s2:∀b,RT'' b->RT' b\/H1 b=none):∀b,RT'' b->RT b\/H b=none:=λb z=>by
 rcases s2 b z with q|q;exact s1 b q;by_cases I:RT b;exact .inl I;refine .inr ?_;cases e:H b with
 | none=>rfl|some o=>rw[a b o e I] at q;cases q
theorem cO.mono{Z':Sg}{Q:L2.St->Hp->Prop}(a:Kp RT H H1)(s:∀b,RT' b->RT b\/H b=none)(h:cO K RT Y J H Z' Q):cO K RT' Y J H1 Z' Q:=λq I H2 k n S=>h q I H2 (a.chain s k) (gL a s n) S
theorem OE.mono(a:Kp RT H H1)(s:∀b,RT' b->RT b\/H b=none)(h:OE K w RT Y J H o D):OE K w RT' Y J H1 o D:=by
 cases o with
 | next Z'=>exact cO.mono a s h|ret v=>exact λu H2 k t r=>(show iP K RT Y J H v D.rt from h) u H2 (a.chain s k) t (r.imp id λ⟨d,cs,R2,p,xs,I,L,q⟩=>⟨d,cs,R2,p,xs,I,gL a s L,q⟩)|exc x Z'=>exact cO.mono a s h|bad=>exact h
theorem aT:∀b,RT b->RT b\/H b=none:=λ_ z=>.inl z
noncomputable def tkE(K:Fg)(D:Ends):Ends:=⟨λZ H=>Tk K H->D.nx Z H,λv H=>Tk K H->D.rt v H,λZ H=>Tk K H->D.bk Z H,λZ H=>Tk K H->D.ct Z H⟩
theorem OE.from{X:Cx}{α:Type}{x:R α}{f:α->O}(S:Sx X.K RT Y J Z ZV H)(h:OE X.K (XW X) RT Y J H (O.from Z x f) D):RE (wx X ZV H) x λa=>OE X.K (XW X) RT Y J H (f a) D:=by
 cases x with
 | ok a=>exact h|exc e=>exact λH' t s=>(show cO X.K RT Y J H Z (λZV H=>XW X ZV H e) from h) RT ZV H' (Kp.same s) aT (S.grow s t)|bad=>exact h
theorem OE.fromc{α:Type}{x:R α}{f:α->O}(h:OE K w RT Y J H (O.from Z x f) D)(n:∀z,x≠.exc z):∃a,x=.ok a/\OE K w RT Y J H (f a) D:=by
 cases x with
 | ok a=>exact⟨a,rfl,h⟩|exc e=>exact absurd rfl (n e)|bad=>exact h.elim
theorem cO.imp{Z':Sg}{Q I:L2.St->Hp->Prop}(h:cO K RT Y J H Z' Q)(f:∀ZV H,Q ZV H->I ZV H):cO K RT Y J H Z' I:=λRT' q H' k n S=>f _ _ (h RT' q H' k n S)
theorem OE.weak(h:OE K w RT Y J H o D)(f:∀ZV H x,w ZV H x->w' ZV H x):OE K w' RT Y J H o D:=by
 cases o with
 | exc x Z'=>exact cO.imp (Q:=λZV H=>w ZV H x) h λZV H z=>f ZV H x z|_=>exact h
end
section
variable {X:Cx} {st:B5} {t t':TS}
theorem aEl{G:List (Addr×Obj)}{D:Ends}{f:Flow}{L:Ad}(h:SP X G (tkE X.K D) f L):SP X G D f L:=by
 cases f with
 | next=>obtain⟨Z',H',I,q⟩:=h;exact⟨Z',H',I,q I.tk⟩|brk=>obtain⟨Z',H',I,q⟩:=h;exact⟨Z',H',I,q I.tk⟩|cont=>obtain⟨Z',H',I,q⟩:=h;exact⟨Z',H',I,q I.tk⟩|ret u=>obtain⟨v,Z',H',I,r,q⟩:=h;exact⟨v,Z',H',I,r,q I.tk⟩
theorem bK(h:PS X st t)(f:∀D ZV H,Tk X.K H->t' D ZV H->t (tkE X.K D) ZV H):PS X st t':=λG s ZV H D I L=>thn (h G s ZV H _ I (f D ZV H I.tk L)) λM U q=>aEl q
theorem eC{L:List B5}(h:PSs X L t)(f:∀D ZV H,Tk X.K H->t' D ZV H->t (tkE X.K D) ZV H):PSs X L t':=λG s ZV H D I M=>thn (h G s ZV H _ I (f D ZV H I.tk M)) λU W q=>aEl q
theorem fC{Y J:Addr->Prop}{q:List B5}{f:Sg->O}(h:∀RT Z,PSs X q (wS X RT Y J Z (f Z))):PSs X q (λD ZV H=>∃RT Z,wS X RT Y J Z (f Z) D ZV H):=λG s ZV H D I ⟨RT,Z,L⟩=>h RT Z G s ZV H D I L
end
section
variable {X:Cx} {P:Pg} {Γ:Ct} {n:Nat} {RT Y J:Addr->Prop} {Z:Sg} {pos:Cf}
theorem cO.tkE{Z':Sg}{Q:L2.St->Hp->Prop}{H:Hp}(h:cO X.K RT Y J H Z' Q):cO X.K RT Y J H Z' λZ H=>Tk X.K H->Q Z H:=λq I H' k n S _=>h q I H' k n S
theorem OE.tkE{o:O}{D:Ends}{H:Hp}(h:OE X.K (XW X) RT Y J H o D):OE X.K (XW X) RT Y J H o (tkE X.K D):=by
 cases o with
 | next Z'=>exact cO.tkE h|ret v=>exact λu q k t r _=>(show iP X.K RT Y J H v D.rt from h) u q k t r|exc x Z'=>exact h|bad=>exact h
theorem aIL:PSs X [] (wS X RT Y J Z (exs P (call P n) Z .nil)):=eC aCK λD ZV H t ⟨S,h⟩ _=>(show cO X.K RT Y J H Z D.nx from h) RT ZV H (Kp.refl RT H) aT S
theorem aFZ{s:S}{ss:Ss}{x:B5}{xs:List B5}(U:∀RT Z,PS X x (wS X RT Y J Z (ex P (call P n) Z s)))(W:∀RT Z,PSs X xs (wS X RT Y J Z (exs P (call P n) Z ss))) :
 PSs X (x::xs) (wS X RT Y J Z (exs P (call P n) Z (.cons s ss))):=by
 refine eC (aAw (U RT Z) (fC W)) λD ZV H t ⟨S,h⟩=>?_;have h:OE X.K (XW X) RT Y J H ((ex P (call P n) Z s).on λZ'=>exs P (call P n) Z' ss) D:=h;refine⟨S,?_⟩;cases q:ex P (call P n) Z s with
 | next Z'=>rw[q] at h;exact λI M H' k nn L=>⟨I,Z',L,(OE.mono k nn (show OE X.K (XW X) RT Y J H (exs P (call P n) Z' ss) D from h)).tkE⟩
 | ret v=>rw[q] at h;exact OE.tkE (D:=D) (o:=.ret v) h|exc e Z'=>rw[q] at h;exact h|bad=>rw[q] at h;exact h
theorem aIM{C:Addr}{fs:List D}{ZV:L2.St}{H:Hp}(h:RX X (exD C fs) ZV H):RX X (.ref C) ZV H:=by
 unfold exD at h;split at h;exact h;exact λG s a I q=>h G s a I (by
  obtain⟨T,⟨U,vs,g1,g2,g3,L,_,M⟩,z⟩:=q;exact⟨T,⟨U,vs,g1,g2,g3,L,λw=>(by cases w),M⟩,z⟩)
theorem aIN{c:Str}{k:Bool}{e:E}{a:Ag}{np L:Cf}(M:Mc X P Γ n)(hg:bR Γ c=true)(ho:aZ c=true)(W:c∈Γ.rsd)(U:PE X a (WE X P n RT Y J Z e))(I:aK a=true) :
 PS X (.Raise (some (.Call (.Name c np) [a] [] L)) none pos) (wS X RT Y J Z (ex P (call P n) Z (.rse c k (.cons e .nil)))):=by
 obtain⟨ab,q⟩:=M.md.rsd c W;obtain⟨C,E⟩:=M.md.exc c ab q;refine bK (aAS BO (by decide +kernel) (M.gl hg) E.bd E.ex (cD U dG (aA I)) M.calm (sB X) (aF ho) (aA I) (by rw[aA I];rfl)) λD ZV H t ⟨S,h⟩=>?_;have h:=OE.from S (show OE X.K (XW X) RT Y J H (O.from Z (ev P (call P n) Z e >>= λx=>R.ok [x]) λvs=>.exc (.err c (if k then vs.map (·.d) else [])) Z) D from h);have h:=RE.bind' h;refine wE.one S h λx u H1 hx t1 S1 r1=>⟨show 1<=sizeLine by rw[AW];decide,?_⟩
 exact aIM ((show cO X.K RT Y J H Z (λZV H=>XW X ZV H (.err c (if k then [x].map (·.d) else []))) from hx) RT ZV H1 (Kp.same r1.1) aT S1 C E.ns)
theorem xK{pa:Bool}{al:List Nat}{ZV:L2.St}{b:Addr}(h:exB Y J pa b):exV RT Y J Z ZV pa al b:=.inr h
theorem Ro.rtv{H H':Hp}{ZV:L2.St}{v:Vl}{u:V}(S:Sx X.K RT Y J Z ZV H)(q:Ro X.K RT Y J Z ZV H H' v u):Rtv X.K Y J H' v u:=by unfold Rtv;by_cases hf:v.fr=true;rw[if_pos hf];obtain⟨s,h⟩:=q;rw[if_pos hf] at h;obtain⟨a,xs,ds,I,L,M,U,r⟩:=h;exact⟨a,xs,ds,I,L,λz=>S.trk a (.inr (.inr z)) M,U,r.weak λb z=>z.elim .inl λz=>.inr (xK z)⟩;rw[if_neg hf];exact Rep.weak (q.rv S) λb z=>xK z
theorem aIO{c:E}{e:Ag}(q:PE X e (WE X P n RT Y J Z c)):PS X (.Return (some e) pos) (wS X RT Y J Z (ex P (call P n) Z (.ret c))):=by refine bK (pH q) λD ZV H t ⟨S,h⟩=>?_;have h:=OE.from S (show OE X.K (XW X) RT Y J H (O.from Z (ev P (call P n) Z c) .ret) D from h);exact wE.one S h λx u H1 I L S1 r1 _=>(show iP X.K RT Y J H x D.rt from I) u H1 (Kp.same r1.1) L (.inl (r1.rtv S))
theorem aGa{i:Nat}{x:Str}{p:Cf}(M:Mc X P Γ n)(W:bH Γ i x=true):PS X (.Return (some (.Name x p)) pos) (wS X RT Y J Z (ex P (call P n) Z (.retv i))):=by
 have U:PE X (.Name x p) (aCH i):=by unfold bH at W;obtain⟨I,q,L⟩:=cK W;exact lJ (by rw[M.N];exact eq_of_beq I) (M.vis q) (aF L) (eL L)
 refine bK (pH U) λD ZV H t ⟨S,h⟩=>?_;have h:OE X.K (XW X) RT Y J H (match Z[i]? with|some (.own pa ds)=>.ret ⟨.lst ds,true,pa,[]⟩|_=>O.from Z (bJ Z i) .ret) D:=h;unfold bJ at h;cases e:Z[i]? with
 | none=>rw[e] at h;exact h.elim|some sl=>
  rw[e] at h;cases sl with
  | dead=>exact h.elim|lent _=>exact h.elim|own2 _=>exact h.elim|own pa ds=>obtain⟨a,xs,I,q,L,h4,h5⟩:=S.own i pa ds e;refine⟨.ref a,I,λ_=>(show iP X.K RT Y J H ⟨.lst ds,true,pa,[]⟩ D.rt from h) _ H (Kp.refl RT H) t (.inl ?_)⟩;unfold Rtv;rw[if_pos rfl];exact⟨a,xs,ds,rfl,rfl,h4,q,h5.weak λb z=>z.elim (λz=>.inl (by rw[z];exact L)) .inr⟩|sh pa d=>
   obtain⟨v,I,q⟩:=S.sh i pa d e;refine⟨v,I,λ_=>(show iP X.K RT Y J H ⟨d,false,pa&&!noL d,[]⟩ D.rt from h) v H (Kp.refl RT H) t (.inl ?_)⟩;unfold Rtv;rw[if_neg bN];show Rep X.K H (exB Y J (pa&&!noL d)) d v;cases hn:noL d with
   | true=>exact Rep.free d v hn q|false=>refine q.weak λb z=>.inr ?_;rw[Gk,Di] at z;exact z
theorem aKK{c:E}{e:Ag}(q:PE X e (WE X P n RT Y J Z c))(hs:fP e=false):PS X (.Expr e pos) (wS X RT Y J Z (ex P (call P n) Z (.ex c))):=by refine bK (pG q (by cases e <;> first|rfl|cases hs)) λD ZV H t ⟨S,h⟩=>?_;have h:=OE.from S (show OE X.K (XW X) RT Y J H (O.from Z (ev P (call P n) Z c) λ_=>.next Z) D from h);exact wE.one S h λx u H1 I L S1 r1 _=>(show cO X.K RT Y J H Z D.nx from I) RT ZV H1 (Kp.same r1.1) aT S1
theorem aKL{c:E}{a b:Ss}{e:Ag}{L M:List B5}(W:PT X e (WT X P n RT Y J Z c))(U:∀RT Z,PSs X L (wS X RT Y J Z (exs P (call P n) Z a)))(hb:∀RT Z,PSs X M (wS X RT Y J Z (exs P (call P n) Z b))) :
 PS X (.If e L M pos) (wS X RT Y J Z (ex P (call P n) Z (.iff c a b))):=by
 refine bK (aDY W (U RT Z) (hb RT Z)) λD ZV H t ⟨S,h⟩=>?_;have h:=OE.from S (show OE X.K (XW X) RT Y J H (O.from Z (tst P (call P n) Z c) λk=>if k=true then exs P (call P n) Z a else exs P (call P n) Z b) D from h);refine⟨S,h.mono λk q H1 I s1=>?_⟩;cases k with
 | true=>rw[if_pos rfl] at q ⊢;exact⟨S.grow s1 I,(OE.mono (Kp.same s1) aT q).tkE⟩|false=>rw[if_neg bN] at q ⊢;exact⟨S.grow s1 I,(OE.mono (Kp.same s1) aT q).tkE⟩
theorem qO{ZV:L2.St}{H H1:Hp}{v:Vl}{u:V}{t:T}{D:Ends}(S:Sx X.K RT Y J Z ZV H)(U:Tk X.K H1)(r1:Ro X.K RT Y J Z ZV H H1 v u)(h:OE X.K (XW X) RT Y J H (O.from Z (aY (freeze Z v.al) v t) .next) D):gT X.K t u ZV H1 D.nx:=by
 obtain⟨Z2,e,q⟩:=OE.fromc h (jK _ _ _);have q:cO X.K RT Y J H Z2 D.nx:=q;clear h;cases t with
 | n i=>obtain⟨L,W,I⟩:=S.store r1 U i;rw[mH e] at q;exact q L _ H1 (Kp.same r1.1) I W|t is=>
  obtain⟨ds,hd,hl,e'⟩:=mF e;have Sf:=(S.grow r1.1 U).frz v.al;have hr:Rep X.K H1 (λa=>rtF RT Z ZV v.al a\/exB Y J v.pa a) v.d u:=r1.rv S;have hf:v.fr=false\/v.fr=true:=by cases v.fr <;> simp
  rcases hf with hf|hf;exact xI Sf hf hr e λq0 S2 _=>q _ _ _ (Kp.same r1.1) (λb z=>.inl z.1) S2;have:=r1.2;rw[if_pos hf] at this;obtain⟨a,xs,ds',_,M,_⟩:=this;rw[hd] at M;cases M
theorem aGb{c:E}{e:Ag}{i:Nat}{x:Str}{p:Cf}(M:Mc X P Γ n)(I:aS Γ i x=true)(U:PE X e (WE X P n RT Y J Z c))(hs:fP e=false):PS X (.Assign [.Name x p] e pos) (wS X RT Y J Z (ex P (call P n) Z (.set (.n i) c))):=by unfold aS at I;obtain⟨L,q,h3⟩:=cK I;refine bK (lK (i:=i) M.nd (by rw[M.N];exact eq_of_beq L) (M.loc q) U (by cases e <;> first|rfl|cases hs) (M.st x q)) λD ZV H t ⟨S,h⟩=>?_;have h:=OE.from S (show OE X.K (XW X) RT Y J H (O.from Z (ev P (call P n) Z c) λv=>O.from Z (aY (freeze Z v.al) v (.n i)) .next) D from h);exact wE.one S h λv u H1 W t1 S1 r1=>qO (t:=.n i) S t1 r1 (OE.tkE W)
theorem aGc{c:E}{e:Ag}{is:List Nat}{es:List Ag}{k:Nat}{p:Cf}(M:Mc X P Γ n)(L:fO Γ (.t is) (.Tuple es k p)=true)(q:PE X e (WE X P n RT Y J Z c))(hs:uX e=false):PS X (.Assign [.Tuple es k p] e pos) (wS X RT Y J Z (ex P (call P n) Z (.set (.t is) c))):=by refine bK (pI q (tB M L) (by cases e <;> rfl) (by cases e <;> first|rfl|cases hs)) λD ZV H t ⟨S,h⟩=>?_;have h:=OE.from S (show OE X.K (XW X) RT Y J H (O.from Z (ev P (call P n) Z c) λv=>O.from Z (aY (freeze Z v.al) v (.t is)) .next) D from h);exact wE.one S h λv u H1 I U S1 r1=>qO (t:=.t is) S U r1 (OE.tkE I)
theorem aAc{i:Nat}{x:Str}{p L:Cf}(M:Mc X P Γ n)(hx:aS Γ i x=true){k:Nat}{caps:List Nat}{t:T}{it:Hp.It}{cond:Es}{elt:E}{e tg q:Ag}{U:List Ag}{scope:Ck}{N':List Str}(CS:bX X scope k caps N')(q2:caps.Nodup)(hk:∀i∈tIx t,i<k)(q1:Γ.fn=true)
 (hi:PI X tg q (wI X P n RT Y J Z it))
 (q0:∀C s₀ H₀ ex,PG (bI X scope N' C s₀ H₀ ex) tg (gT X.K t)/\(∀RT Y J Z1,PTs (bI X scope N' C s₀ H₀ ex) U (tE X.K P n RT Y J Z1 cond))/\∀pl E W,BE (Au X.prog X.w) X.A (bI X scope N' C s₀ H₀ ex).env E->Rs ((bI X scope N' C s₀ H₀ ex).inTry pl E) W->∀RT Y J Z1,PE ((bI X scope N' C s₀ H₀ ex).inTry pl E) e (wE0 X.K P n W RT Y J Z1 elt))
 (hs:∀x,Bx q X.env x=pure x):PS X (.Assign [.Name x p] (.ListComp e [⟨tg,q,U,0⟩] scope L) pos) (wS X RT Y J Z (ex P (call P n) Z (.set (.n i) (.comp k caps t it cond elt)))):=by unfold aS at hx;obtain⟨h1,h2,h3⟩:=cK hx;refine bK (lW (g:=gT X.K t) (tt:=λZV H Q=>∃RT Y J Z1,tE X.K P n RT Y J Z1 cond ZV H Q) (te:=λW ZV H Q=>∃RT Y J Z1,wE0 X.K P n W RT Y J Z1 elt ZV H Q) (WX:=λc Z H=>Γ.fn=true/\RX X c Z H) CS M.calm hi (λC s₀ H₀ ex=>?_) (λc Z H z=>⟨M.stk z.1,z.2⟩) hs M.nd (by rw[M.N];exact eq_of_beq h1) (M.loc h2) (M.st x h2)) λD ZV H t0 ⟨S,h⟩=>?_;obtain⟨h1,h2,h3⟩:=q0 C s₀ H₀ ex;exact⟨h1,λG s ZV H Q I ⟨RT,Y,J,Z1,hw⟩=>h2 RT Y J Z1 G s ZV H Q I hw,λpl E W own rs G s ZV H Q I ⟨RT,Y,J,Z1,hw⟩=>h3 pl E W own rs RT Y J Z1 G s ZV H Q I hw⟩;have h:=OE.from S (show OE X.K (XW X) RT Y J H (O.from Z (ev P (call P n) Z (.comp k caps t it cond elt)) λv=>O.from Z (aY (freeze Z v.al) v (.n i)) .next) D from h);exact aBq (Q:=λv H'=>nQ i v ZV H' D.nx) q2 hk q1 ⟨S,h.mono λv hv u H1 t1 r1=>qO (t:=.n i) S t1 r1 hv⟩
noncomputable def eH(lt:Bool)(pa:Bool)(ds:List D):Sl:=if lt then .lent ds else .own pa ds
theorem Sx.mutH{K:Fg}{ZV:L2.St}{H H':Hp}{I:Addr->Prop}(S:Sx K RT Y J Z ZV H){i:Nat}{lt pa pa':Bool}{ds ds':List D}{a:Addr}{q5:List V}(e:Z[i]? = some (eH lt pa ds))(ha:ZV[i]? = some (some (.ref a)))(h1:∀b,RT b->I b)(h2:∀b,I b->RT b\/H b=none)
 (h3:∀b,I b->∃xs,H' b=some (.lst xs)) (t:Tk K H') (kp:Kp (λb=>b=a) H H') (hx:H' a=some (.lst q5)) (r:Reps K H' (λb=>I b\/exB Y J (lt||pa') b) ds' q5):Sx K I Y J (Z.set i (eH lt pa' ds')) ZV H':=by
 have hA:(∃xs,H a=some (.lst xs))/\RT a/\(if lt then J a else ¬ J a):=by
  cases lt with
  | true=>obtain⟨b,xs,g1,g2,g3,W,_⟩:=S.lx.at' i ds e;rw[ha] at g1;cases g1;exact⟨⟨xs,g2⟩,g3,W⟩|false=>obtain⟨b,xs,g1,g2,g3,W,_⟩:=S.own i pa ds e;rw[ha] at g1;cases g1;exact⟨⟨xs,g2⟩,g3,W⟩
 obtain⟨⟨xs,q6⟩,q3,q0⟩:=hA;have nr:∀b M,¬ RT b->SqL K H b M->¬ I b:=λb M n q z=>by rcases h2 b z with z'|z';exact n z';obtain⟨zs,hz⟩:=h3 b z;exact xF q ⟨z',t b (by rw[hz];simp)⟩
 have kL:∀a',a'=a->∃M,H a'=some (.lst M):=λa' z=>⟨xs,by rw[z];exact q6⟩
 have tr:∀{L:Bool} {d:List D} {v:List V},Reps K H (λb=>RT b\/exB Y J L b) d v->Reps K H' (λb=>I b\/exB Y J L b) d v:=λ{L d v} q=>Reps.imp (λb M z=>kp.seqT kL z) (λb M n z=>⟨λw=>w.elim (nr b M (λz=>n (.inl z)) z) λw=>n (.inr w),kp.seqL (λw=>n (.inl (by rw[w];exact q3))) z⟩) (λb o nl z=>kp b o z λw=>by rw[w,q6] at z;exact nl _ (Ah z).symm) d v q;have q9:∀{L:Bool} {d:D} {v:V},Rep K H (λb=>RT b\/exB Y J L b) d v->Rep K H' (λb=>I b\/exB Y J L b) d v:=λ{L d v} q=>Rep.imp (λb M z=>kp.seqT kL z) (λb M n z=>⟨λw=>w.elim (nr b M (λz=>n (.inl z)) z) λw=>n (.inr w),kp.seqL (λw=>n (.inl (by rw[w];exact q3))) z⟩) (λb o nl z=>kp b o z λw=>by rw[w,q6] at z;exact nl _ (Ah z).symm) d v q;have q7:∀b,H b≠none->H' b≠none:=λb z q=>by
  by_cases hb:b=a;rw[hb,hx] at q;cases q;cases o:H b with
  | none=>exact z o|some o'=>rw[kp b o' o hb] at q;cases q
 exact {
  sh:=λj L d q=>by
   rcases set_some q with⟨_,z,_⟩|⟨_,q⟩
   cases lt <;> cases z;obtain⟨v,g1,g2⟩:=S.sh j L d q;exact⟨v,g1,q9 g2⟩
  own:=λj L dd q=>by
   rcases set_some q with⟨rfl,z,_⟩|⟨q4,U⟩
   cases lt with
   | true=>cases z|false=>cases z;exact⟨a,q5,ha,hx,h1 a q3,q0,r⟩
   obtain⟨b,M,g1,g2,g3,W,g5⟩:=S.own j L dd U;have hb:b≠a:=λz=>by
    subst z;cases lt with
    | true=>exact W q0|false=>exact q4 (S.inj i j pa L ds dd b e U ha g1)
   exact⟨b,M,g1,kp b _ g2 hb,h1 b g3,W,tr g5⟩
  trk:=λb z q=>by rcases z with z|z;obtain⟨M,hy⟩:=h3 b z;rw[hy] at q;cases q;exact q7 b (S.trk b (.inr z)) q
  yo:=S.yo
  tk:=t
  rt:=h3
  inj:=λj j' L w3 dd q8 b q1 U=>by
   have get:∀{j:Nat} {L:Bool} {dd:List D},(Z.set i (eH lt pa' ds'))[j]? = some (.own L dd)->∃p2 d2,Z[j]? = some (.own p2 d2):=λ{j L dd} q=>by
    rcases set_some q with⟨rfl,z,_⟩|⟨_,q⟩
    cases lt with
    | true=>cases z|false=>exact⟨pa,ds,e⟩
    exact⟨L,dd,q⟩
   obtain⟨_,_,z1⟩:=get q1;obtain⟨_,_,z2⟩:=get U;exact S.inj j j' _ _ _ _ b z1 z2
  len:=by rw[Ax];exact S.len
  lx:={
   at':=λj dd q=>by
    rcases set_some q with⟨rfl,z,_⟩|⟨q4,U⟩
    cases lt with
    | false=>cases z|true=>cases z;exact⟨a,q5,ha,hx,h1 a q3,q0,r⟩
    obtain⟨b,M,g1,g2,g3,W,g5⟩:=S.lx.at' j dd U;have hb:b≠a:=λz=>by
     subst z;cases lt with
     | false=>exact q0 W|true=>exact q4 (S.lx.inj i j ds dd b e U ha g1)
    exact⟨b,M,g1,kp b _ g2 hb,h1 b g3,W,tr g5⟩
   inj:=λj j' dd q8 b q1 U=>by
    have get:∀{j:Nat} {dd:List D},(Z.set i (eH lt pa' ds'))[j]? = some (.lent dd)->∃d2,Z[j]? = some (.lent d2):=λ{j dd} q=>by
     rcases set_some q with⟨rfl,z,_⟩|⟨_,q⟩
     cases lt with
     | false=>cases z|true=>exact⟨ds,e⟩
     exact⟨dd,q⟩
    obtain⟨_,z1⟩:=get q1;obtain⟨_,z2⟩:=get U;exact S.lx.inj j j' _ _ b z1 z2
   at2:=λj dss q=>by
    rcases set_some q with⟨_,z,_⟩|⟨q4,U⟩
    cases lt <;> cases z;obtain⟨c,bs,g1,g2,g3,W,g5⟩:=S.lx.at2 j dss U;have na:∀b,Pt RT J Z ZV b->b≠a:=λb z w=>by
     subst w;cases lt with
     | true=>exact z.2.1 q0|false=>exact z.2.2 i pa ds e ha
    have pt:∀b,Pt RT J Z ZV b->Pt I J (Z.set i (eH lt pa' ds')) ZV b:=λb z=>⟨h1 b z.1,z.2.1,λk L dd w=>by
     rcases set_some w with⟨rfl,v,_⟩|⟨_,w⟩
     intro u;rw[ha] at u;cases u;exact na _ z rfl;exact z.2.2 k L dd w⟩
    exact⟨c,bs,g1,kp c _ g2 (na c (g3 c Aj)),λb hb=>pt b (g3 b hb),W,g5.imp (λb M z=>kp.seqT kL z) λb hb xs w=>kp b _ w (na b (g3 b (Af _ hb)))⟩
   one:=λj j' dss dss' q1 U=>by
    rcases set_some q1 with⟨_,z,_⟩|⟨_,q1⟩
    cases lt <;> cases z;rcases set_some U with⟨_,z,_⟩|⟨_,U⟩
    cases lt <;> cases z;exact S.lx.one j j' dss dss' q1 U } }
theorem Sx.mutA{K:Fg}{ZV:L2.St}{H:Hp}(S:Sx K RT Y J Z ZV H){i:Nat}{lt pa pa':Bool}{ds ds':List D}{a:Addr}{I:List V}(e:Z[i]? = some (eH lt pa ds))(M:ZV[i]? = some (some (.ref a)))(r:Reps K H (λb=>RT b\/exB Y J (lt||pa') b) ds' I) :
 Sx K RT Y J (Z.set i (eH lt pa' ds')) ZV (upd H a (.lst I)):=by
 have W:(∃xs,H a=some (.lst xs))/\RT a:=by
  cases lt with
  | true=>obtain⟨b,xs,g1,g2,g3,_⟩:=S.lx.at' i ds e;rw[M] at g1;cases g1;exact⟨⟨xs,g2⟩,g3⟩|false=>obtain⟨b,xs,g1,g2,g3,_⟩:=S.own i pa ds e;rw[M] at g1;cases g1;exact⟨⟨xs,g2⟩,g3⟩
 obtain⟨⟨xs,L⟩,U⟩:=W;have kp:Kp (λb=>b=a) H (upd H a (.lst I)):=λb o q n=>by rw[aJ n];exact q
 refine S.mutH e M (λ_ z=>z) (λ_ z=>.inl z) (λb z=>?_) (λb z=>?_) kp aO (r.kp kp (λb z=>⟨xs,by rw[z];exact L⟩) λb z=>.inl (by rw[z];exact U));by_cases hb:b=a;rw[hb];exact⟨I,aO⟩;rw[aJ hb];exact S.rt b z;by_cases hb:b=a;rw[hb];exact S.tk a (by rw[L];simp);rw[aJ hb] at z;exact S.tk b z
theorem Sx.mut{K:Fg}{ZV:L2.St}{H:Hp}(S:Sx K RT Y J Z ZV H){i:Nat}{pa pa':Bool}{ds ds':List D}{a:Addr}{q:List V}(e:Z[i]? = some (.own pa ds))(I:ZV[i]? = some (some (.ref a)))(r:Reps K H (λb=>RT b\/exB Y J pa' b) ds' q) :
 Sx K RT Y J (Z.set i (.own pa' ds')) ZV (upd H a (.lst q)):=S.mutA (lt:=false) e I r
theorem Kp.upd{H H1:Hp}{a:Addr}{xs:List V}(s:aG H H1)(h:RT a):Kp RT H (upd H1 a (.lst xs)):=λb o e q=>by rw[aJ λz=>q (by rw[z];exact h)];exact s b o e
theorem tJ{i:Nat}{pa:Bool}{ds:List D}(h:jX Z i=some (pa,ds)):Z[i]? = some (.own pa ds):=by unfold jX at h;split at h;rename_i q;cases h;exact q;cases h
theorem vJ{i:Nat}{v:Vl}{f:List D->Option (List D)}{H:Hp}{D:Ends}(h:OE X.K (XW X) RT Y J H (put Z i v f) D):∃pa ds ds',Z[i]? = some (.own pa ds)/\i∉v.al/\f ds=some ds'/\ds'.length<=lim/\cO X.K RT Y J H ((freeze Z v.al).set i (.own (pa||v.pa) ds')) D.nx:=by unfold put at h;split at h;rename_i pa ds q;have q:=dA (tJ q);split at h;rename_i ds' L;split at h;rename_i I;exact⟨pa,ds,ds',q.1,q.2,L,I,h⟩;exact h.elim;exact h.elim;exact h.elim
theorem kW{pa q:Bool}{b:Addr}(h:exB Y J (pa||q) b):exB Y J pa b:=h.imp_right λz=>⟨by cases pa <;> simp_all,z.2⟩
theorem xL{pa q:Bool}{b:Addr}(h:exB Y J (pa||q) b):exB Y J q b:=h.imp_right λz=>⟨by cases q <;> simp_all,z.2⟩
theorem xM{i:Nat}{m:Str}{c:Ag}{xs:List Ag}(h:sA Γ i m c=some xs):∃x p I L,c=.Call (.Attribute (.Name x p) m I) xs [] L/\bH Γ i x=true/\(I.endLine==L.line)=true:=by unfold sA at h;split at h;rename_i x p a I q0 L;split at h;rename_i q;obtain⟨M,U,W⟩:=cK q;cases h;have e:a=m:=eq_of_beq M;subst e;exact⟨x,p,I,L,rfl,U,W⟩;cases h;cases h
theorem aBs:lim<sizeLine:=by rw[AW];decide
theorem mJ{i:Nat}{al:List Nat}{pa:Bool}{ds:List D}{ZV:L2.St}{H H1:Hp}{b:Addr}{xs:List V}(S:Sx X.K RT Y J Z ZV H)(s1:aG H H1)(M:Z[i]? = some (.own pa ds))(I:ZV[i]? = some (some (.ref b)))(L:H b=some (.lst xs)) :
 Reps X.K H1 (λc=>rtF RT Z ZV al c\/exB Y J pa c) ds xs:=by obtain⟨W,U,g1,g2,g3,g4,q⟩:=S.own i pa ds M;rw[I] at g1;cases g1;rw[L] at g2;cases g2;exact(q.grow s1).weak λc z=>z.elim (λz=>.inl z.1) .inr
theorem mK{i:Nat}{v:Vl}{pa:Bool}{ds ds':List D}{ZV:L2.St}{H H1:Hp}{b:Addr}{I:List V}{Q:L2.St->Hp->Prop}(S:Sx X.K RT Y J Z ZV H)(s1:aG H H1)(t1:Tk X.K H1)(M:Z[i]? = some (.own pa ds))(W:i∉v.al)(L:ZV[i]? = some (some (.ref b)))
 (r:Reps X.K H1 (λc=>rtF RT Z ZV v.al c\/exB Y J (pa||v.pa) c) ds' I) (q:cO X.K RT Y J H ((freeze Z v.al).set i (.own (pa||v.pa) ds')) Q):Q ZV (upd H1 b (.lst I)):=by
 obtain⟨b',xs,g1,g2,g3,g4,g5⟩:=S.own i pa ds M;rw[L] at g1;cases g1;have U:(freeze Z v.al)[i]? = some (.own pa ds):=by rw[cZ,M];simp[W]
 exact q _ ZV _ (Kp.upd s1 g3) (λc z=>.inl z.1) (((S.grow s1 t1).frz v.al).mut U L r)
theorem aBt{ZV:L2.St}{H1:Hp}{v:Vl}{u:V}{pa:Bool}(h:Rv X.K RT Y J Z ZV H1 v u):Rep X.K H1 (λc=>rtF RT Z ZV v.al c\/exB Y J (pa||v.pa) c) v.d u:=Rep.weak h λc z=>z.imp id xL
theorem aIP{i:Nat}{c:E}{e a:Ag}(M:Mc X P Γ n)(hc:sA Γ i "append" e=some [a])(ha:PE X a (WE X P n RT Y J Z c))(U:aK a=true):PS X (.Expr e pos) (wS X RT Y J Z (ex P (call P n) Z (.app i c))):=by obtain⟨x,p,ap,cp,rfl,hx,hl⟩:=xM hc;refine bK (pG (aEb DN DF DG nY (dO M hx) (cD ha dG (aA U)) rfl (by rw[aA U];rfl) hl (aA U) rfl)) λD ZV H t ⟨S,h⟩=>?_;have h:=OE.from S (show OE X.K (XW X) RT Y J H (O.from Z (ev P (call P n) Z c).calm λv=>put Z i v λds=>some (ds++[v.d])) D from h);obtain⟨v,ee,h⟩:=RE.calmEq h;obtain⟨pa,ds,ds',W,q2,q3,q4,q⟩:=vJ h;cases q3;obtain⟨b,xs,I,L,h3,h4,h5⟩:=S.own i pa ds W;refine⟨.ref b,I,.inl ⟨rfl,xs,SqL.of L⟩,S,?_⟩;rw[ee];intro u H1 t1 r1;have q0:=h5.length;refine⟨b,xs,u,rfl,rfl,r1.1 _ _ L,?_,λ_=>?_⟩;rw[lA,AX] at q4;have:=aBs;omega;exact mK S r1.1 t1 W q2 I (((mJ S r1.1 W I L).weak λc z=>z.imp id kW).append (.cons (aBt (r1.rv S)) .nil)) q
theorem aDq{i:Nat}{ck c:E}{x:Str}{p p2:Cf}{ix v:Ag}(M:Mc X P Γ n)(hx:bH Γ i x=true)(hk:PE X ix (WE X P n RT Y J Z ck))(he:PE X v (WE X P n RT Y J Z c))(q0:aK ix=true):PS X (.Assign [.Subscript (.Name x p) ix p2] v pos) (wS X RT Y J Z (ex P (call P n) Z (.setIx i ck c))):=by
 refine bK (pI he (uK (dO M hx) hk lR (by intro _;cases ix <;> first|rfl|cases q0)) (by cases v <;> rfl) (by cases v <;> rfl)) λD ZV H t ⟨S,h⟩=>?_;have h:=OE.from S (show OE X.K (XW X) RT Y J H (O.from Z (ev P (call P n) Z c) λv=>O.from Z (ev P (call P n) Z ck).calm λkv=>(match kv.d with
  | .int k=>put Z i v λds=>(match ixN ds.length k with|some j=>some (ds.set j v.d)|none=>none)
  | _=>.bad)) D from h)
 refine wE.one S h λv u H1 I t1 S1 r1=>?_;obtain⟨kv,ek,I⟩:=RE.calmEq (OE.from S I);cases hd:kv.d with
 | int k=>
  rw[hd] at I;obtain⟨pa,ds,ds',q1,q2,U,q4,q⟩:=vJ I;obtain⟨b,xs,h1,h2,h3,h4,h5⟩:=S.own i pa ds q1;cases hj:ixN ds.length k with
  | none=>rw[hj] at U;cases U|some j=>rw[hj] at U;cases U;refine⟨.ref b,h1,S1,?_⟩;rw[ek];intro uk H2 t2 W;have L:=h5.length;refine⟨b,xs,k,j,rfl,(W.rv S1).int hd,W.1 _ _ (r1.1 _ _ h2),by rw[<-L,<-eW];exact hj,λ_=>?_⟩;have s2:=r1.1.trans W.1;refine mK S s2 t2 q1 q2 h1 (((mJ S s2 q1 h1 h2).weak λc z=>z.imp id kW).set j (aBt ((r1.rv S).grow W.1))) q
 | _=>rw[hd] at I;exact I.elim
theorem Sx.move{K:Fg}{ZV:L2.St}{H:Hp}(S:Sx K RT Y J Z ZV H){i j:Nat}{pa:Bool}{ds:List D}{a:Addr}(e:Z[j]? = some (.own pa ds))(q3:i≠j)(W:ZV[j]? = some (some (.ref a))):Sx K RT Y J ((Z.set j .dead).set i (.own pa ds)) (ZV.set i (some (.ref a))) H where
 sh:=λk L d q=>by
  rcases set_some q with⟨_,z,_⟩|⟨I,q⟩
  cases z;rcases set_some q with⟨_,z,_⟩|⟨M,q⟩
  cases z;obtain⟨v,g1,g2⟩:=S.sh k L d q;exact⟨v,by rw[Ac I];exact g1,g2⟩
 own:=λk L dd q=>by
  rcases set_some q with⟨rfl,z,U⟩|⟨I,q⟩
  cases z;obtain⟨b,xs,g1,g2,g3⟩:=S.own j pa ds e;rw[W] at g1;cases g1;rw[Ax] at U;exact⟨a,xs,As (by rw[<-S.len];exact U),g2,g3⟩;rcases set_some q with⟨_,z,_⟩|⟨M,q⟩
  cases z;obtain⟨b,xs,g1,g2⟩:=S.own k L dd q;exact⟨b,xs,by rw[Ac I];exact g1,g2⟩
 trk:=S.trk
 yo:=S.yo
 tk:=S.tk
 rt:=S.rt
 inj:=λk k' L q4 dd q0 b q1 q2 v1 v2=>by
  have get:∀{k:Nat} {L:Bool} {dd:List D},((Z.set j .dead).set i (.own pa ds))[k]? = some (.own L dd)->(ZV.set i (some (.ref a)))[k]? = some (some (.ref b))->(k=i/\b=a)\/(k≠i/\k≠j/\Z[k]? = some (.own L dd)/\ZV[k]? = some (some (.ref b))):=λ{k L dd} q v=>by
   rcases set_some q with⟨rfl,z,U⟩|⟨I,q⟩
   rw[Ax] at U;rw[As (by rw[<-S.len];exact U)] at v;cases v;exact .inl ⟨rfl,rfl⟩;rcases set_some q with⟨_,z,_⟩|⟨M,q⟩
   cases z;rw[Ac I] at v;exact .inr ⟨Bp I,Bp M,q,v⟩
  rcases get q1 v1 with⟨e1,b1⟩|⟨I,m1,o1,w1⟩
  rcases get q2 v2 with⟨e2,_⟩|⟨M,m2,o2,w2⟩
  rw[e1,e2];subst b1;exact absurd (S.inj k' j _ _ _ _ b o2 e w2 W) m2;rcases get q2 v2 with⟨e2,b2⟩|⟨M,m2,o2,w2⟩
  subst b2;exact absurd (S.inj k j _ _ _ _ b o1 e w1 W) m1;exact S.inj k k' _ _ _ _ b o1 o2 w1 w2
 len:=by rw[Ax,Ax,Ax];exact S.len
 lx:=S.lx.imp id (λk dd q=>by
  rcases set_some q with⟨_,z,_⟩|⟨I,q⟩
  cases z;rcases set_some q with⟨_,z,_⟩|⟨M,q⟩
  cases z;exact⟨q,Ac I⟩) (λ_ _ _ _ _ _ e=>e) (λ_ _ e z _=>⟨e,z⟩) (λ_ _ r=>r) (λk dd q=>by
  rcases set_some q with⟨_,z,_⟩|⟨I,q⟩
  cases z;rcases set_some q with⟨_,z,_⟩|⟨M,q⟩
  cases z;exact⟨q,Ac I⟩) (λ_ _ _ _ _ _ e=>e) (λp q5 e' z=>⟨e',z.1,z.2.1,λk L dd q v=>by
  rcases set_some q with⟨rfl,w,U⟩|⟨I,q⟩
  rw[As (by rw[<-S.len];simpa using U)] at v;cases v;exact z.2.2 j _ _ e W;rw[Ac I] at v;rcases set_some q with⟨_,w,_⟩|⟨M,q⟩
  cases w;exact z.2.2 k L dd q v⟩) λ_ _ r=>r
theorem aIQ{i j:Nat}{x y:Str}{p p2:Cf}(M:Mc X P Γ n)(L:aS Γ i x=true)(hy:bH Γ j y=true):PS X (.Assign [.Name x p] (.Name y p2) pos) (wS X RT Y J Z (ex P (call P n) Z (.mov i j))):=by
 unfold aS at L;obtain⟨U,I,h3⟩:=cK L;refine bK (lK (i:=i) M.nd (by rw[M.N];exact eq_of_beq U) (M.loc I) (dO M hy) rfl (M.st x I)) λD ZV H t ⟨S,h⟩=>?_;have h:OE X.K (XW X) RT Y J H (match Z[j]? with
  | some (.own pa ds)=>if i=j then .bad else .next ((Z.set j .dead).set i (.own pa ds))|some (.sh pa d)=>.next (Z.set i (.sh (pa&&!noL d) d))|_=>.bad) D:=h
 cases e:Z[j]? with
 | none=>rw[e] at h;exact h.elim|some sl=>
  rw[e] at h;cases sl with
  | dead=>exact h.elim|lent _=>exact h.elim|own2 _=>exact h.elim|own pa ds=>by_cases q:i=j;have h:OE X.K (XW X) RT Y J H (if i=j then .bad else .next ((Z.set j .dead).set i (.own pa ds))) D:=h;rw[if_pos q] at h;exact h.elim;have h:OE X.K (XW X) RT Y J H (if i=j then .bad else .next ((Z.set j .dead).set i (.own pa ds))) D:=h;rw[if_neg q] at h;obtain⟨a,xs,g1,g2⟩:=S.own j pa ds e;exact⟨.ref a,g1,λ_=>(show cO X.K RT Y J H _ D.nx from h) RT _ H (Kp.refl RT H) aT (S.move e q g1)⟩|sh pa d=>
   obtain⟨v,g1,g2⟩:=S.sh j pa d e;refine⟨v,g1,λ_=>(show cO X.K RT Y J H (Z.set i (.sh (pa&&!noL d) d)) D.nx from h) RT _ H (Kp.refl RT H) aT (S.setSh ?_)⟩;cases W:noL d with
   | true=>exact Rep.free d v W g2|false=>rw[Gk,Di];exact g2
theorem jL{t:T}{b:Ss}{xs:List Vl×List Nat}{ZV:L2.St}{H H1:Hp}{J0:L2.It}{D:Ends}(S1:Sx X.K RT Y J Z ZV H1)(k1:Kp RT H H1)(ok:pZ X.K RT Y J Z ZV H1 J0 xs.1 xs.2)
 (hx:OE X.K (XW X) RT Y J H (bB (λZ x=>O.from Z (aY Z x t) λZ'=>exs P (call P n) Z' b) xs.1 (freeze Z xs.2)) D) :
 ∃W:Nat->Nat->L2.St->Hp->Prop,(∃m,W 0 m ZV H1)/\∀i m Z H,W i m Z H ->
  (J0.stop i H/\D.nx Z H)\/(J0.go i H/\∃N:L2.St->Hp->Prop,(∀Z' H',N Z' H'->∃m',m'<m/\W (i+1) m' Z' H')/\∀x H',J0.yld i H x H'->gT X.K t x Z H' λZ2 H2=>∃RT Z,wS X RT Y J Z (exs P (call P n) Z b) { D with nx:=N,ct:=N,bk:=D.nx } Z2 H2):=by
 let f:Sg->Vl->O:=λZ x=>O.from Z (aY Z x t) λZ'=>exs P (call P n) Z' b
 have hx:OE X.K (XW X) RT Y J H (bB f xs.1 (freeze Z xs.2)) D:=hx;have Sf:=S1.frz xs.2;refine⟨λi m q5 Hc=>m=xs.1.length-i/\i<=xs.1.length/\∃I Z1,Kp (rtF RT Z ZV xs.2) H1 Hc/\(∀b,I b->rtF RT Z ZV xs.2 b\/H1 b=none)/\Sx X.K I Y J Z1 q5 Hc/\OE X.K (XW X) I Y J Hc (bB f (xs.1.drop i) Z1) D,
  ⟨_,rfl,Cm _,rtF RT Z ZV xs.2,freeze Z xs.2,Kp.refl _ _,aT,Sf,OE.mono k1 (λb z=>.inl z.1) hx⟩,?_⟩
 rintro i m q5 Hc ⟨hm,hi,I,Z1,kp,q2,Sc,M⟩;have q7:=ok.ok (rtF RT Z ZV xs.2) (λ_ z=>z) i Hc kp;by_cases q1:i<xs.1.length;refine .inr ⟨q7.1 q1,λZ' H'=>xs.1.length-(i+1)=xs.1.length-(i+1)/\i+1<=xs.1.length/\∃I Z1,Kp (rtF RT Z ZV xs.2) H1 H'/\(∀b,I b->rtF RT Z ZV xs.2 b\/H1 b=none)/\Sx X.K I Y J Z1 Z' H'/\OE X.K (XW X) I Y J H' (bB f (xs.1.drop (i+1)) Z1) D,
  λZ' H' hN=>⟨_,by omega,hN⟩,λx H' hy=>?_⟩
 have w3:xs.1[i]? = some xs.1[i]:=Ap q1;obtain⟨sm,w4,rv⟩:=q7.2.2 x H' hy xs.1[i] w3;have q4:xs.1[i]∈xs.1:=Bl q1;rw[CC q1] at M;have q8:=Sc.grow sm (w4 Sc.tk);have rep:Rep X.K H' (λa=>I a\/exB Y J xs.1[i].pa a) xs.1[i].d x:=rv.weak λa z=>by rcases z with z|z;rcases q2 a z with q|q;exact .inl (.inl ⟨q.1,λw=>q.2 (w.mono (ok.sub _ q4))⟩);exact .inr ⟨q,Sc.tk a (Sc.trk a (.inl z))⟩;exact .inl (.inr z)
 have M:OE X.K (XW X) I Y J Hc (match f Z1 xs.1[i] with
  | .next Z'=>bB f (xs.1.drop (i+1)) Z'|o=>o) D:=M
 cases U:aY Z1 xs.1[i] t with
 | exc e=>exact absurd U (jK _ _ _ _)|bad=>rw[show f Z1 xs.1[i]=.bad by show O.from Z1 (aY Z1 xs.1[i] t) _=_;rw[U];rfl] at M;exact M.elim|ok Z2=>
  rw[show f Z1 xs.1[i]=exs P (call P n) Z2 b by show O.from Z1 (aY Z1 xs.1[i] t) _=_;rw[U];rfl] at M;refine xI q8 (ok.nofr _ q4) rep U λw5 S2 _=>⟨I,Z2,S2,?_⟩
  have kS:Kp I Hc H':=Kp.same sm;have q6:∀{Z':Sg} {q0:Addr->Prop} {q3:L2.St} {L:Hp},Kp I H' L->(∀b,q0 b->I b\/H' b=none)->Sx X.K q0 Y J Z' q3 L->OE X.K (XW X) I Y J Hc (bB f (xs.1.drop (i+1)) Z') D ->
   (xs.1.length-(i+1)=xs.1.length-(i+1)/\i+1<=xs.1.length/\∃I Z1,Kp (rtF RT Z ZV xs.2) H1 L/\(∀b,I b->rtF RT Z ZV xs.2 b\/H1 b=none)/\Sx X.K I Y J Z1 q3 L/\OE X.K (XW X) I Y J L (bB f (xs.1.drop (i+1)) Z1) D):=λ{Z' q0 q3 L} k2 s2 S3 h3=>by have k3:Kp I Hc L:=kS.chain aT k2;have s3:∀b,q0 b->I b\/Hc b=none:=gL kS aT s2;exact⟨rfl,q1,q0,Z',kp.chain q2 k3,gL kp q2 s3,S3,OE.mono k3 s3 h3⟩
  cases q:exs P (call P n) Z2 b with
  | next Z'=>rw[q] at M;exact λq0 q3 L k2 s2 S3=>q6 k2 s2 S3 M|ret v=>rw[q] at M;exact OE.mono (o:=.ret v) kS aT M|exc e Z'=>rw[q] at M;exact OE.mono (o:=.exc e Z') kS aT M|bad=>rw[q] at M;exact M.elim
 have q9:i=xs.1.length:=by omega
 subst q9;rw[Df] at M;exact .inl ⟨q7.2.1 (An _),(show cO X.K I Y J Hc Z1 D.nx from M) I q5 Hc (Kp.refl _ _) aT Sc⟩
theorem aIR{t:T}{it:Hp.It}{b:Ss}{tg q:Ag}{body:List B5}(M:Mc X P Γ n)(I:fO Γ t tg=true)(hi:PI X tg q (wI X P n RT Y J Z it))(hb:∀RT Z,PSs X body (wS X RT Y J Z (exs P (call P n) Z b)))(hs:∀x,Bx q X.env x=pure x) :
 PS X (.For tg q body [] pos) (wS X RT Y J Z (ex P (call P n) Z (.for t it b))):=by
 have U:BE (Au X.prog X.w) X.A X.env X.xe:=M.own;refine bK (uO U M.calm hi (tB M I) (fC hb) hs) λL ZV H t0 ⟨S,h⟩=>?_;have h:=OE.tkE h;revert h;generalize tkE X.K L=D;intro h
 let f:Sg->Vl->O:=λZ x=>O.from Z (aY Z x t) λZ'=>exs P (call P n) Z' b
 have h:=OE.from S (show OE X.K (XW X) RT Y J H (O.from Z (walk P (call P n) Z it) λxs=>bB f xs.1 (freeze Z xs.2)) D from h);exact⟨S,h.mono λxs I J0 H1 W s1 ok=>jL (S.grow s1 W) (Kp.same s1) ok I⟩
theorem Sx.kill{K:Fg}{ZV:L2.St}{H:Hp}(S:Sx K RT Y J Z ZV H)(j:Nat)(v:Option V):Sx K RT Y J (Z.set j .dead) (ZV.set j v) H where
 sh:=λk L d q=>by
  rcases set_some q with⟨_,z,_⟩|⟨I,q⟩
  cases z;obtain⟨v,g1,g2⟩:=S.sh k L d q;exact⟨v,by rw[Ac I];exact g1,g2⟩
 own:=λk L dd q=>by
  rcases set_some q with⟨_,z,_⟩|⟨I,q⟩
  cases z;obtain⟨b,xs,g1,g2⟩:=S.own k L dd q;exact⟨b,xs,by rw[Ac I];exact g1,g2⟩
 trk:=S.trk
 yo:=S.yo
 tk:=S.tk
 rt:=S.rt
 inj:=λk k' L q3 dd q0 b U W v1 v2=>by
  rcases set_some U with⟨_,z,_⟩|⟨I,U⟩
  cases z;rcases set_some W with⟨_,z,_⟩|⟨n2,W⟩
  cases z;rw[Ac I] at v1;rw[Ac n2] at v2;exact S.inj k k' _ _ _ _ b U W v1 v2
 len:=by rw[Ax,Ax];exact S.len
 lx:=by
  have h:∀(k:Nat) (s:Sl),(HW Z j Sl.dead)[k]? = some s->s=.dead\/(Z[k]? = some s/\(ZV.set j v)[k]? = ZV[k]?):=λk s q=>by
   rcases set_some q with⟨_,z,_⟩|⟨I,q⟩
   exact .inl z.symm;exact .inr ⟨q,Ac I⟩
  exact S.lx.imp id (λk ds e=>(h k _ e).elim (λz=>by cases z) id) (λ_ _ _ _ _ _ e=>e) (λ_ _ e z _=>⟨e,z⟩) (λ_ _ r=>r) (λk ds e=>(h k _ e).elim (λz=>by cases z) id) (λ_ _ _ _ _ _ e=>e) (λp xs e z=>⟨e,z.1,z.2.1,λk pa ds q w=>(h k _ q).elim (λM=>by cases M) λM=>z.2.2 k pa ds M.1 (by rw[<-M.2];exact w)⟩) λ_ _ r=>r
theorem aIS{c nm y:Str}{i j:Nat}{b:Ss}{body:List B5}{np yp q6 ap hp:Cf}(M:Mc X P Γ n)(hg:bR Γ c=true)(ho:aZ c=true)(hc:c∈Γ.cls)(hr:c∈Γ.rsd)(hy:aS Γ i y=true)(hn:aS Γ j nm=true)(hl:Γ.sc.lookup nm=some .local)(U:i≠j)(q4:Γ.fn=true)
 (hb:∀{X':Cx},Mc X' P Γ n->∀RT Z,PSs X' body (wS X' RT Y J Z (exs P (call P n) Z b))) :
 PS X (.Try body [.ExceptHandler (some (.Name c np)) (some nm) [.Assign [.Name y yp] (.Name nm q6) ap] hp] [] [] pos) (wS X RT Y J Z (ex P (call P n) Z (.tryAs b c i j))):=by
 unfold aS at hy hn;obtain⟨y1,y2,y3⟩:=cK hy;obtain⟨n1,n2,n3⟩:=cK hn;obtain⟨q2,L⟩:=M.md.rsd c hr;obtain⟨C,E0⟩:=M.md.exc c q2 L;have hC:=E0.bd;refine bK (aAU (tb:=λW D ZV H=>Sx X.K RT Y J Z ZV H/\OE X.K (clW X.K W) RT Y J H (exs P (call P n) Z b) D) (C:=C) (newId:= "ValueError.__new__") (iy:=i) (jn:=j) (M.gl hg) hC (aF ho) E0.ex (M.stk q4) M.nd (by rw[M.N];exact eq_of_beq y1) (by rw[M.N];exact eq_of_beq n1) (M.loc y2) (by rw[M.sc];exact hl) (M.st y y2) (aF n3) (eL n3) rfl U λG E W own rs=>
  eC (hb (M.inTry own) RT Z) λD ZV H t ⟨S,h⟩=>⟨S,(OE.weak h λZV H x z=>clW.xw rs z).tkE⟩) λD ZV H t ⟨S,h⟩=>⟨S,?_⟩
 have h:OE X.K (XW X) RT Y J H (match exs P (call P n) Z b with
  | .exc x Z'=>(match isX [.own c] P x with
   | some true=>if nM x then .bad else .next ((Z'.set i (.sh true x)).set j .dead)|_=>.bad)
  | o=>o) D:=h
 cases q:exs P (call P n) Z b with
 | next Z'=>rw[q] at h;exact cO.tkE h|ret v=>rw[q] at h;exact λu H2 k t r _=>(show iP X.K RT Y J H v D.rt from h) u H2 k t r|bad=>rw[q] at h;exact h|exc x Z'=>
  rw[q] at h;have h:OE X.K (XW X) RT Y J H (match isX [.own c] P x with
   | some true=>if nM x then .bad else .next ((Z'.set i (.sh true x)).set j .dead)|_=>.bad) D:=h
  cases hi:isX [.own c] P x with
  | none=>rw[hi] at h;exact h.elim|some kk=>
   rw[hi] at h;cases kk with
   | false=>exact h.elim|true=>
    cases x with
    | err I fs=>
     by_cases lm:I=⟨#[]⟩
     exact(show False by
      have h:OE X.K (XW X) RT Y J H (if nM (.err I fs) then .bad else .next ((Z'.set i (.sh true (.err I fs))).set j .dead)) D:=h;rw[show nM (.err I fs)=true by simp[nM,lm]] at h;exact h).elim
     have h:cO X.K RT Y J H ((Z'.set i (.sh true (.err I fs))).set j .dead) D.nx:=by have h:OE X.K (XW X) RT Y J H (if nM (.err I fs) then .bad else .next ((Z'.set i (.sh true (.err I fs))).set j .dead)) D:=h;rw[show nM (.err I fs)=false by simp[nM,lm]] at h;exact h
     have hi:(match P.above.lookup I with|some ab=>some ([Cl.own c].any λa=>ab.contains a)|none=>none)=some true:=hi;split at hi;rename_i ab q3;obtain⟨C1,E⟩:=M.md.exc I ab q3;obtain⟨C',g1,_,g2⟩:=E.ow c hc;rw[hC] at g1;cases g1;have q5:ab.contains (.own c)=true:=by simpa using Ah hi
     intro q1 q7 H' kp sub S' cls q0;have e:cls=C1:=by have:=E.ns.symm.trans q0;simpa using this.symm
     subst e;refine⟨cls,by unfold exD;split <;> rfl,⟨_,E.ex⟩,(g2 q5).1,λa ha tk=>h q1 _ _ (kp.chain sub (Kp.same (aG.new ha))) sub ?_⟩;have S1:=S'.grow (aG.new ha) tk;have S2:=(((S1.kill j (some (.ref a))).setSh (i:=i) (pa:=true) (d:=.err I fs) (u:=.ref a) ⟨a,cls,rfl,aO,q0,lm⟩).kill j (some .non)).kill j none;have es:(((Z'.set j .dead).set i (.sh true (.err I fs))).set j .dead).set j .dead=(Z'.set i (.sh true (.err I fs))).set j .dead:=by rw[F0,List.set_comm _ _ U.symm,F0]
     rw[es] at S2;exact S2;cases hi
    | _=>cases hi
theorem aGd{I L c txt:Str}{e:E}{b:Ss}{body:List B5}{pA pB np q1 rp cp hp tp q4:Cf}{cx tj cj}(M:Mc X P Γ n)(gA:lT Γ I=true)(gB:lT Γ L=true)(gc:lT Γ c=true)(kA:I∈Γ.cls)(kB:L∈Γ.cls)(w5:Γ.fn=true)
 (hb:∀{X':Cx},Mc X' P Γ n->∀RT Z,PSs X' body (wS X' RT Y J Z (exs P (call P n) Z b))) :
 PS X (.Try body [.ExceptHandler (some (.Tuple [.Name I pA,.Name L pB] cx tp)) none [.Raise (some (.Call (.Name c np) [.Constant (.str txt) tj q4] [] q1)) (some (.Constant .none cj cp)) rp] hp] [] [] pos) (wS X RT Y J Z (ex P (call P n) Z (.tryR b [I,L] c e))):=by
 unfold lT at gA gB gc;obtain⟨A1,A2,A3⟩:=cK gA;obtain⟨B1,B2,B3⟩:=cK gB;obtain⟨c1,c2,c3⟩:=cK gc;obtain⟨q6,hA⟩:=M.md.rsd I (by simpa using A3);obtain⟨CA,EA⟩:=M.md.exc I q6 hA;obtain⟨q7,hB⟩:=M.md.rsd L (by simpa using B3);obtain⟨CB,EB⟩:=M.md.exc L q7 hB;obtain⟨q8,hc⟩:=M.md.rsd c (by simpa using c3);obtain⟨C,Ec⟩:=M.md.exc c q8 hc;refine bK (aDp (tb:=λW D ZV H=>Sx X.K RT Y J Z ZV H/\OE X.K (clW X.K W) RT Y J H (exs P (call P n) Z b) D) (W:=RX X) BO (by decide +kernel) (M.gl A1) EA.bd (aF A2) EA.ex (M.gl B1) EB.bd (aF B2) EB.ex (M.gl c1) Ec.bd (aF c2) Ec.ex (M.stk w5) (sB X) λG E W own rs=>
  eC (hb (M.inTry own) RT Z) λD ZV H t ⟨S,h⟩=>⟨S,(OE.weak h λZV H x z=>clW.xw rs z).tkE⟩) λD ZV H t ⟨S,h⟩=>⟨S,?_⟩
 have h:OE X.K (XW X) RT Y J H (match exs P (call P n) Z b with
  | .exc (.err U []) Z'=>match isX (([I,L]:List Str).map .own) P (.err U []) with|some true=>.exc (.err c [.non]) Z'|_=>.bad
  | .exc _ _=>.bad|o=>o) D:=h
 cases q:exs P (call P n) Z b with
 | next Z'=>rw[q] at h;exact cO.tkE h|ret v=>rw[q] at h;exact λu H2 k t r _=>(show iP X.K RT Y J H v D.rt from h) u H2 k t r|bad=>rw[q] at h;exact h|exc x Z'=>
  rw[q] at h;cases x with
  | err U fs=>
   cases fs with
   | cons _ _=>exact(show False from h).elim|nil=>
    have h:OE X.K (XW X) RT Y J H (match isX (([I,L]:List Str).map .own) P (.err U []) with
     | some true=>.exc (.err c [.non]) Z'|_=>.bad) D:=h
    cases hi:isX (([I,L]:List Str).map .own) P (.err U []) with
    | none=>rw[hi] at h;exact h.elim|some kk=>
     rw[hi] at h;cases kk with
     | false=>exact h.elim|true=>
      have h:cO X.K RT Y J H Z' (λZV H=>XW X ZV H (.err c [.non])):=h;have hi:(match P.above.lookup U with|some ab=>some ((([I,L]:List Str).map Cl.own).any λa=>ab.contains a)|none=>none)=some true:=hi;split at hi;rename_i ab w4;obtain⟨C1,E⟩:=M.md.exc U ab w4;obtain⟨A',q2,_,q9⟩:=E.ow I kA;obtain⟨B',q3,_,w3⟩:=E.ow L kB;rw[EA.bd] at q2;cases q2;rw[EB.bd] at q3;cases q3;have w6:ab.contains (.own I)=true\/ab.contains (.own L)=true:=by simpa using Ah hi
      intro q5 w8 H' kp sub S' q0 w7;have e:q0=C1:=by have:=E.ns.symm.trans w7;simpa using this.symm
      subst e;refine⟨q0,rfl,rfl,⟨_,E.ex⟩,w6.imp (λz=>(q9 z).1) (λz=>(w3 z).1),λp hp tk=>?_⟩;exact h q5 _ _ (kp.chain sub (Kp.same (aG.new hp))) sub (S'.grow (aG.new hp) tk) C Ec.ns;cases hi
  | _=>exact(show False from h).elim
end
section
variable {X:Cx} {P:Pg} {Γ:Ct} {n:Nat} {RT Y J:Addr->Prop} {Z:Sg} {pos:Cf} {l:Nat} {ZV:L2.St} {H H1 H2 H':Hp} {K:Fg}
noncomputable def KpL(RT:Addr->Prop)(ZV:L2.St)(l:Nat)(H H':Hp):Prop:=Kp (λb=>ZV[l]? = some (some (.ref b))/\RT b) H H'
theorem KpL.kp(h:KpL RT ZV l H H'):Kp RT H H':=λa o e q=>h a o e λz=>q z.2
theorem KpL.trans(a:KpL RT ZV l H H1)(b:KpL RT ZV l H1 H2):KpL RT ZV l H H2:=Kp.trans a b
theorem KpL.same(s:aG H H'):KpL RT ZV l H H':=Kp.same s
theorem Sx.free(S:Sx K RT Y J Z ZV H1)(k:Kp RT H H1){a:Addr}(h:H1 a=none):H a=none:=by
 cases e:H a with
 | none=>rfl|some o=>by_cases q:RT a;exact absurd h (S.trk a (.inl q));rw[k a o e q] at h;cases h
noncomputable def RvL(K:Fg)(RT Y J:Addr->Prop)(H:Hp)(v:Vl)(u:V):Prop:=Rep K H (λb=>RT b\/exB Y J v.pa b) v.d u
theorem RvL.go{v:Vl}{u:V}(h:RvL K RT Y J H v u)(S:Sx K RT Y J Z ZV H)(k:Kp RT H H'):RvL K RT Y J H' v u:=Rep.kp h k S.rt λb z=>.inl z
theorem RvL.nr{v:Vl}{u:V}(h:RvL K RT Y J H v u):Rv K RT Y J Z ZV H v.nr u:=Rep.weak h λb z=>z.imp (·.1) id
noncomputable def dY(K:Fg)(RT Y J:Addr->Prop)(H:Hp):List Vl->List V->Prop
 | [],us=>us=[]
 | v::vs,us=>∃u r,us=u::r/\RvL K RT Y J H v u/\dY K RT Y J H vs r
theorem dY.length:∀{vs:List Vl} {us:List V},dY K RT Y J H vs us->vs.length=us.length
 | [],_,h=>by rw[show _=[] from h];rfl|v::vs,_,h=>by obtain⟨u,r,e,_,q⟩:=h;subst e;rw[lC,lC,dY.length q]
theorem exB.mono{pa q:Bool}{b:Addr}(h:exB Y J q b)(I:pa=true->q=true):exB Y J pa b:=h.imp_right λz=>⟨by
 cases pa with
 | false=>rfl|true=>rw[I rfl] at z;exact z.1,z.2⟩
theorem dY.reps:∀{vs:List Vl} {us:List V} {pa:Bool},dY K RT Y J H vs us->(∀v∈vs,v.pa=true->pa=true)->Reps K H (λb=>RT b\/exB Y J pa b) (vs.map (·.d)) us
 | [],_,_,h,_=>h|v::vs,_,_,h,q=>by obtain⟨u,r,e,I,L⟩:=h;exact⟨u,r,e,Rep.weak I λb z=>z.imp id λz=>z.mono (q v Aj),dY.reps L λw M=>q w (Af _ M)⟩
structure RoL (K:Fg) (RT Y J:Addr->Prop) (Z':Sg) (ZV:L2.St) (l:Nat) (H H':Hp) (v:Vl) (u:V):Prop where
 sx:Sx K RT Y J Z' ZV H'
 kp:KpL RT ZV l H H'
 fr:v.fr=true->∃a xs ds,u=.ref a/\v.d=.lst ds/\H a=none/\H' a=some (.lst xs)/\Sx K (λb=>RT b\/b=a) Y J Z' ZV H'/\Reps K H' (λb=>(RT b\/b=a)\/exB Y J v.pa b) ds xs
 rv:RvL K RT Y J H' v u
theorem RoL.from{v:Vl}{u:V}{Z':Sg}(h:RoL K RT Y J Z' ZV l H1 H' v u)(S:Sx K RT Y J Z ZV H1)(k:KpL RT ZV l H H1):RoL K RT Y J Z' ZV l H H' v u:=
 ⟨h.sx,k.trans h.kp,λhf=>let ⟨a,xs,ds,e1,e2,e3,q⟩:=h.fr hf;⟨a,xs,ds,e1,e2,S.free k.kp e3,q⟩,h.rv⟩
theorem Sx.addR(S:Sx K RT Y J Z ZV H)(s:aG H H')(t:Tk K H'){a:Addr}{xs:List V}(M:H a=none)(I:H' a=some (.lst xs)):Sx K (λb=>RT b\/b=a) Y J Z ZV H':=by
 have L:=t a (by rw[I];simp);have w:∀{pa:Bool} b,(RT b\/b=a)\/exB Y J pa b->b=a\/RT b\/exB Y J pa b:=λ{pa} b z=>by rcases z with(z|z)|z;exact .inr (.inl z);exact .inl z;exact .inr (.inr z)
 exact {
  sh:=λj pa d e=>let ⟨v,h1,h2⟩:=S.sh j pa d e;⟨v,h1,((h2.out M L).grow s).weak w⟩
  own:=λj pa ds e=>let ⟨b,U,h1,h2,h3,h4,h5⟩:=S.own j pa ds e;⟨b,U,h1,s _ _ h2,.inl h3,h4,((h5.out M L).grow s).weak w⟩
  trk:=λb z q=>by rcases z with(z|z)|z;exact S.trk b (.inl z) (s.free q);rw[z,I] at q;cases q;exact S.trk b (.inr z) (s.free q)
  yo:=S.yo
  tk:=t
  rt:=λb z=>by rcases z with z|z;obtain⟨U,e⟩:=S.rt b z;exact⟨U,s _ _ e⟩;rw[z];exact⟨xs,I⟩
  inj:=S.inj
  len:=S.len
  lx:=S.lx.imp id (λ_ _ e=>⟨e,rfl⟩) (λ_ _ _ _ _ _ e=>e) (λ_ _ e z _=>⟨s _ _ e,.inl z⟩) (λ_ _ r=>((r.out M L).grow s).weak w) (λ_ _ e=>⟨e,rfl⟩) (λ_ _ _ _ _ _ e=>e) (λp xs e z=>⟨s _ _ e,.inl z.1,z.2⟩) λ_ _ r=>aG.seqT s r }
theorem Sx.putOwn{a:Addr}(S0:Sx K RT Y J Z ZV H)(S:Sx K (λb=>RT b\/b=a) Y J Z ZV H){i:Nat}{pa:Bool}{ds:List D}{xs:List V}(hn:¬ RT a)(ho:¬ J a)(ha:H a=some (.lst xs))(r:Reps K H (λb=>(RT b\/b=a)\/exB Y J pa b) ds xs) :
 Sx K (λb=>RT b\/b=a) Y J (Z.set i (.own pa ds)) (ZV.set i (some (.ref a))) H where
 sh:=λj pa' d' e=>by
  rcases set_some e with⟨rfl,e,hl⟩|⟨I,e⟩
  cases e;obtain⟨v,U,W⟩:=S.sh j pa' d' e;exact⟨v,by rw[Ac I];exact U,W⟩
 own:=λj pa' ds' e=>by
  rcases set_some e with⟨rfl,e,hl⟩|⟨I,e⟩
  cases e;exact⟨a,xs,As (by rw[<-S.len];exact hl),ha,.inr rfl,ho,r⟩;obtain⟨b,ys,U,W⟩:=S.own j pa' ds' e;exact⟨b,ys,by rw[Ac I];exact U,W⟩
 trk:=S.trk
 yo:=S.yo
 tk:=S.tk
 rt:=S.rt
 inj:=λj j' pa' q0 q1 q2 c M L e3 e4=>by
  have fr:∀{j:Nat} {pa:Bool} {ds:List D},Z[j]? = some (.own pa ds)->ZV[j]? = some (some (.ref a))->False:=λ{j pa ds} e q=>by obtain⟨a',q4,U,W,h3,_⟩:=S0.own j pa ds e;rw[q] at U;cases U;exact hn h3
  rcases set_some M with⟨rfl,e,hl⟩|⟨n1,M⟩
  rcases set_some L with⟨rfl,_,_⟩|⟨n2,L⟩
  rfl;rw[As (by rw[<-S.len];exact hl)] at e3;cases e3;rw[Ac n2] at e4;exact(fr L e4).elim;rw[Ac n1] at e3;rcases set_some L with⟨rfl,e,hl⟩|⟨n2,L⟩
  rw[As (by rw[<-S.len];exact hl)] at e4;cases e4;exact(fr M e3).elim;rw[Ac n2] at e4;exact S.inj j j' pa' q0 q1 q2 c M L e3 e4
 len:=by rw[Ax,Ax];exact S.len
 lx:={
  at':=λj ds e=>by
   rcases set_some e with⟨_,z,_⟩|⟨I,e⟩
   cases z;rw[Ac I];exact S.lx.at' j ds e
  inj:=λj j' ds ds' b M L=>by
   rcases set_some M with⟨_,z,_⟩|⟨U,M⟩
   cases z;rcases set_some L with⟨_,z,_⟩|⟨W,L⟩
   cases z;rw[Ac U,Ac W];exact S.lx.inj j j' ds ds' b M L
  at2:=λj dss e=>by
   rcases set_some e with⟨_,z,_⟩|⟨I,e⟩
   cases z;obtain⟨b,bs,U,W,h3,h4⟩:=S0.lx.at2 j dss e;refine⟨b,bs,by rw[Ac I];exact U,W,λp hp=>⟨.inl (h3 p hp).1,(h3 p hp).2.1,λk pa' ds' q v=>?_⟩,h4⟩;rcases set_some q with⟨rfl,_,hl⟩|⟨q3,q⟩
   rw[As (by rw[<-S.len];exact hl)] at v;cases v;exact hn (h3 _ hp).1;rw[Ac q3] at v;exact(h3 p hp).2.2 k pa' ds' q v
  one:=λj j' dss dss' M L=>by
   rcases set_some M with⟨_,z,_⟩|⟨U,M⟩
   cases z;rcases set_some L with⟨_,z,_⟩|⟨W,L⟩
   cases z;exact S.lx.one j j' dss dss' M L }
theorem isEmpty_nil{al:List Nat}(h:al.isEmpty=true):al=[]:=by
 cases al with
 | nil=>rfl|cons _ _=>cases h
theorem qP{x:Vl}{u:V}(S:Sx K RT Y J Z ZV H)(t:Tk K H1)(I:x.al=[])(r:Ro K RT Y J Z ZV H H1 x u):RoL K RT Y J Z ZV l H H1 x u where
 sx:=S.grow r.1 t
 kp:=KpL.same r.1
 fr:=λhf=>by have q:=r.2;rw[if_pos hf] at q;obtain⟨a,xs,ds,W,e2,M,U,rr⟩:=q;refine⟨a,xs,ds,W,e2,M,U,S.addR r.1 t M U,rr.weak λb z=>?_⟩;rcases z with(z|z)|z;refine .inr (.inl ⟨z,λ⟨j,L,_⟩=>?_⟩);rw[I] at L;cases L;exact .inl z;exact .inr (.inr z)
 rv:=Rep.weak (r.rv S) λb z=>by rcases z with z|z;refine .inl ⟨z,λ⟨j,L,_⟩=>?_⟩;rw[I] at L;cases L;exact .inr z
theorem RE.nx{α:Type}{x:R α}{p:α->Prop}{w:D->Prop}(h:RE NX x p):RE w x p:=by
 cases x with
 | ok a=>exact h|exc e=>exact h.elim|bad=>exact h.elim
theorem RE.eqN{α:Type}{x:R α}{p:α->Prop}(h:RE NX x p):∃a,x=.ok a/\p a:=by
 cases x with
 | ok a=>exact⟨a,rfl,h⟩|exc e=>exact h.elim|bad=>exact h.elim
theorem RE.noAl{v:Vl}{Z:Sg}{w:D->Prop}{p:Vl×Sg->Prop}(h:RE w (noAl v Z) p):v.al=[]/\p (v,Z):=by unfold Hp.noAl at h;split at h;rename_i q;exact⟨isEmpty_nil q,h⟩;exact h.elim
noncomputable def WL(X:Cx)(P:Pg)(n:Nat)(RT Y J:Addr->Prop)(l:Nat)(Z:Sg)(c:EL):TE:=λZV H Q=>Sx X.K RT Y J Z ZV H/\RE NX (evl P (call P n) l Z c) λr=>∀u H',Tk X.K H'->RoL X.K RT Y J r.2 ZV l H H' r.1 u->Q u H'
noncomputable def WLs(X:Cx)(P:Pg)(n:Nat)(RT Y J:Addr->Prop)(l:Nat)(Z:Sg)(cs:ELs):TA:=λZV H Q=>Sx X.K RT Y J Z ZV H/\RE NX (evls' P (call P n) l Z cs) λr=>∀us H',Tk X.K H'->Sx X.K RT Y J r.2 ZV H'->KpL RT ZV l H H'->dY X.K RT Y J H' r.1 us->Q us H'
theorem fD{L:Type}{e:Ag}{t:L->TE}(h:∀i,PE X e (t i)):PE X e (λZV H Q=>∃i,t i ZV H Q):=λG s ZV H Q I ⟨i,q⟩=>h i G s ZV H Q I q
theorem aGe{L:Type}{es:List Ag}{t:L->TA}(h:∀i,PA X es (t i)):PA X es (λZV H Q=>∃i,t i ZV H Q):=λpos G s ZV H Q I ⟨i,q⟩=>h i pos G s ZV H Q I q
theorem l_e{a:E}{e:Ag}(L:PE X e (WE X P n RT Y J Z a)):PE X e (WL X P n RT Y J l Z (.e a)):=L.imp λZV H Q t ⟨S,h⟩=>by have h:=RE.bind' (show RE _ (ev P (call P n) Z a >>= λx=>noAl x Z) _ from h);refine wE.one S h.nx λx u H1 I M S1 r1 t'=>?_;obtain⟨q,I⟩:=RE.noAl I;exact I u H1 t' (qP S M q r1)
theorem aKM{o:Operator}{a b:EL}{ea eb:Ag}(ha:PE X ea (WL X P n RT Y J l Z a))(hb:∀Z,PE X eb (WL X P n RT Y J l Z b)):PE X (.BinOp ea o eb pos) (WL X P n RT Y J l Z (.op o a b)):=by
 intro G s ZV H Q I hw;obtain⟨S,h⟩:=hw;have h:=RE.bind' (show RE _ (evl P (call P n) l Z a >>= λx=>evl P (call P n) l x.2 b >>= λy=>opD o x.1.nr y.1.nr >>= λz=>noAl z y.2) _ from h);refine Hn (thn (ha G s ZV H (λux H1=>∃x,RoL X.K RT Y J x.2 ZV l H H1 x.1 ux/\RE _ (evl P (call P n) l x.2 b) λy=>RE _ (opD o x.1.nr y.1.nr >>= λz=>noAl z y.2) λr=>∀u H',Tk X.K H'->RoL X.K RT Y J r.2 ZV l H H' r.1 u->Q u H') I
  ⟨S,h.mono λx M u H1 t1 r1=>⟨x,r1,RE.bind' M⟩⟩) λv s1 ⟨x',H1,I1,rx,x,r1,M⟩=>thn (hb x.2 G s1 ZV H1 (λuy H2=>∃y,RoL X.K RT Y J y.2 ZV l H1 H2 y.1 uy/\RE _ (opD o x.1.nr y.1.nr >>= λz=>noAl z y.2) λr=>∀u H',Tk X.K H'->RoL X.K RT Y J r.2 ZV l H H' r.1 u->Q u H') I1
  ⟨r1.sx,M.mono λy U u H2 t2 q=>⟨y,q,U⟩⟩) λu s2 ⟨y',H2,I2,ry,y,q,U⟩=>?_)
 refine sC I2 q.sx rx ry (x:=x.1.nr) (y:=y.1.nr) (r1.rv.go r1.sx q.kp.kp).nr q.rv.nr (λz=>by cases z) ((RE.bind' U).mono λz W u H' t r=>?_);obtain⟨L,W⟩:=RE.noAl W;exact W u H' t ((qP q.sx t L r).from q.sx (r1.kp.trans q.kp))
theorem aIT{a b:EL}{U I:Ag}(W:PE X U (WL X P n RT Y J l Z a))(hb:∀Z,PE X I (WL X P n RT Y J l Z b))(hp:aK I=true):PE X (.Subscript U I pos) (WL X P n RT Y J l Z (.idx a b)):=by refine(rT lQ W (fD hb) (dU hp)).imp λZV H Q t ⟨S,h⟩=>?_;have h:=RE.bind' (show RE _ (evl P (call P n) l Z a >>= λx=>evl P (call P n) l x.2 b >>= λy=>bW x.1.nr y.1.nr >>= λz=>noAl z y.2) _ from h);refine⟨S,h.mono λx hx u H1 t1 r1=>⟨x.2,r1.sx,(RE.bind' hx).mono λy hy uy H2 t2 q=>?_⟩⟩;refine oH (Z:=y.2) (ZV:=ZV) (RT:=RT) (Y:=Y) (J:=J) t2 (x:=x.1.nr) (y:=y.1.nr) (r1.rv.go r1.sx q.kp.kp).nr q.rv.nr ((RE.bind' hy).mono λz M u H' t r=>?_);obtain⟨L,M⟩:=RE.noAl M;exact M u H' t ((qP q.sx t L r).from q.sx (r1.kp.trans q.kp))
theorem aIU:PA X [] (WLs X P n RT Y J l Z .nil):=dG.imp λZV H Q t ⟨S,h⟩ t'=>(show ∀us H',Tk X.K H'->Sx X.K RT Y J Z ZV H'->KpL RT ZV l H H'->dY X.K RT Y J H' [] us->Q us H' from h) [] H t' S (KpL.same (aG.refl H)) rfl
theorem aGf{c:EL}{cs:ELs}{e:Ag}{es:List Ag}(I:PE X e (WL X P n RT Y J l Z c))(q:∀Z,PA X es (WLs X P n RT Y J l Z cs))(L:aK e=true):PA X (e::es) (WLs X P n RT Y J l Z (.cons c cs)):=by refine(cD I (aGe q) (aA L)).imp λZV H Q t ⟨S,h⟩=>?_;have h:=RE.bind' (show RE _ (evl P (call P n) l Z c >>= λx=>evls' P (call P n) l x.2 cs >>= λr=>R.ok (x.1::r.1,r.2)) _ from h);refine⟨S,h.mono λx M u H1 W r1=>⟨x.2,r1.sx,(RE.bind' M).mono λr q us H2 t2 S2 k2 U t'=>?_⟩⟩;exact(show ∀us H',Tk X.K H'->Sx X.K RT Y J r.2 ZV H'->KpL RT ZV l H H'->dY X.K RT Y J H' (x.1::r.1) us->Q us H' from q) (u::us) H2 t' S2 (r1.kp.trans k2) ⟨u,us,rfl,r1.rv.go r1.sx k2.kp,U⟩
theorem jM:∀{cs:ELs} {es:List Ag} {Z:Sg} {r:List Vl×Sg},chkELs Γ l cs es=true->evls' P (call P n) l Z cs=.ok r->r.1.length=es.length
 | .nil,[],Z,r,_,h=>by cases(show R.ok ([],Z)=R.ok r from h);rfl|.nil,_::_,_,_,h,_=>by cases h|.cons _ _,[],_,_,h,_=>by cases h|.cons c cs,e::es,Z,r,I,h=>by simp only[chkELs,bA] at I;obtain⟨x,_,h⟩:=R.bind_ok (show(evl P (call P n) l Z c >>= λx=>evls' P (call P n) l x.2 cs >>= λr=>R.ok (x.1::r.1,r.2))=R.ok r from h);obtain⟨q,L,h⟩:=R.bind_ok h;cases(show R.ok (x.1::q.1,q.2)=R.ok r from h);rw[lC,lC,jM I.2 L]
theorem aIV{cs:ELs}{es:List Ag}{k:Nat}(M:PA X es (WLs X P n RT Y J l Z cs))(U:chkELs Γ l cs es=true)(hl:es.length<=1000):PE X (.Tuple es k pos) (WL X P n RT Y J l Z (.tup cs)):=by
 refine(pJ M).imp λZV H Q t ⟨S,h⟩=>?_;obtain⟨r,e,I⟩:=RE.eqN (RE.bind' (show RE NX (evls' P (call P n) l Z cs >>= λr=>R.ok ((⟨.tup (r.1.map (·.d)),false,anyPa r.1,[]⟩:Vl),r.2)) _ from h));refine⟨S,?_⟩;rw[e];intro us H1 t1 S1 k1 L;have W:us.length<=sizeLine:=by rw[<-L.length,jM U e,AW];omega
 refine⟨W,λp q t'=>(show ∀u H',Tk X.K H'->RoL X.K RT Y J r.2 ZV l H H' (⟨.tup (r.1.map (·.d)),false,anyPa r.1,[]⟩:Vl) u->Q u H' from I) _ _ t' ⟨S1.grow (aG.new q) t',k1.trans (KpL.same (aG.new q)),(λz=>by cases z),?_⟩⟩;exact⟨p,us,rfl,SqT.of aO,(L.reps λv I z=>fR I z).grow (aG.new q)⟩
theorem xN{Z':Sg}{vs:List Vl}{us:List V}{p:Addr}(S:Sx K RT Y J Z ZV H)(S1:Sx K RT Y J Z' ZV H1)(k1:KpL RT ZV l H H1)(M:dY K RT Y J H1 vs us)(q:H1 p=none)(t':Tk K (upd H1 p (.lst us))):RoL K RT Y J Z' ZV l H (upd H1 p (.lst us)) ⟨.lst (vs.map (·.d)),true,anyPa vs,[]⟩ (.ref p):=by
 have sn:aG H1 (upd H1 p (.lst us)):=aG.new q;have I:=t' p (by rw[aO];simp);have rr:Reps K (upd H1 p (.lst us)) (λb=>(RT b\/b=p)\/exB Y J (anyPa vs) b) (vs.map (·.d)) us:=(((M.reps (pa:=anyPa vs) λv L z=>fR L z).out q I).grow sn).weak λb z=>by rcases z with(z|z)|z;exact .inr (.inl z);exact .inl z;exact .inr (.inr z)
 refine⟨S1.grow sn t',k1.trans (KpL.same sn),λ_=>⟨p,us,_,rfl,rfl,S1.free k1.kp q,aO,S1.addR sn t' q aO,rr⟩,p,us,rfl,SqL.of aO,λz=>?_,rr.weak λb z=>z.imp .inl id⟩;refine S1.trk p (z.imp id λz=>?_) q;rcases z with z|⟨_,z⟩
 exact .inl z;exact .inr z
theorem aIW{cs:ELs}{es:List Ag}(I:PA X es (WLs X P n RT Y J l Z cs))(L:chkELs Γ l cs es=true)(hl:es.length<=1000):PE X (.List es pos) (WL X P n RT Y J l Z (.lst cs)):=by
 refine(aAD I).imp λZV H Q t ⟨S,h⟩=>?_;obtain⟨r,e,W⟩:=RE.eqN (RE.bind' (show RE NX (evls' P (call P n) l Z cs >>= λr=>R.ok ((⟨.lst (r.1.map (·.d)),true,anyPa r.1,[]⟩:Vl),r.2)) _ from h));refine⟨S,?_⟩;rw[e];intro us H1 t1 S1 k1 q;have M:us.length<=sizeLine:=by rw[<-q.length,jM L e,AW];omega
 exact⟨M,λp U t'=>(show ∀u H',Tk X.K H'->RoL X.K RT Y J r.2 ZV l H H' (⟨.lst (r.1.map (·.d)),true,anyPa r.1,[]⟩:Vl) u->Q u H' from W) _ _ t' (xN S S1 k1 q U t')⟩
theorem aIX(M:Mc X P Γ n){o:CmpOp}{a b:EL}{U I:Ag}(W:PE X U (WL X P n RT Y J l Z a))(hb:∀Z,PE X I (WL X P n RT Y J l Z b))(hp:aK I=true):PE X (.Compare U [o] [I] pos) (WL X P n RT Y J l Z (.cmp o a b)):=by
 refine(vY (eB (RT:=RT) (Y:=Y) (J:=J) M o) W (fD hb) (fV hp)).imp λZV H Q t ⟨S,h⟩=>?_;have h:=RE.bind' (show RE _ (evl P (call P n) l Z a >>= λx=>evl P (call P n) l x.2 b >>= λy=>(match bT o x.1.d y.1.d with
  | some k=>R.ok (Vl.cl (.bl k),y.2)|none=>.bad)) _ from h)
 refine⟨S,h.mono λx hx u H1 t1 r1=>⟨x.2,r1.sx,(RE.bind' hx).mono λy L uy H2 t2 q=>?_⟩⟩;split at L;rename_i k hk;refine⟨y.2,ZV,x.1.nr,y.1.nr,k,(r1.rv.go r1.sx q.kp.kp).nr,q.rv.nr,hk,λt'=>?_⟩;exact(show ∀u H',Tk X.K H'->RoL X.K RT Y J y.2 ZV l H H' (.cl (.bl k)) u->Q u H' from L) _ _ t' ⟨q.sx,r1.kp.trans q.kp,(λz=>by cases z),rfl⟩;exact L.elim
theorem aIY(M:Mc X P Γ n){a:EL}{e:Ag}{x:Str}{p:Cf}(I:x=("int" : Str))(hg:bR Γ x=true)(ho:aZ x=true)(W:PE X e (WL X P n RT Y J l Z a))(U:aK e=true):PE X (.Call (.Name x p) [e] [] pos) (WL X P n RT Y J l Z (.int a)):=by subst I;refine(gI (wV M.calm M.room.gd M.units .int rfl) (M.gl hg) (M.md.blt _ (cY .int)) (wY .int rfl) (cD W dG (aA U)) (dQ .int) (aF ho) (aA U) rfl).imp λZV H Q t ⟨S,h⟩=>?_;have h:=RE.bind' (show RE _ (evl P (call P n) l Z a >>= λx=>biD .int [x.1.nr] >>= λz=>noAl z x.2) _ from h);refine⟨S,h.mono λx I u H1 t1 r1=>?_⟩;refine sF (b:=.int) rfl r1.sx (vs:=[x.1.nr]) (us:=[u]) ⟨u,[],rfl,r1.rv.nr,rfl⟩ ((RE.bind' I).mono λz L u H' t r=>?_);obtain⟨q,L⟩:=RE.noAl L;exact L u H' t ((qP r1.sx t q r).from r1.sx r1.kp)
theorem kY{pa:Bool}{cs:List D}(S:Sx K RT Y J Z ZV H)(h:bG Z l=some (pa,cs)):∃(lt:Bool) (p:Addr) (xs:List V),Z[l]? = some (eH lt pa cs)/\ZV[l]? = some (some (.ref p))/\H p=some (.lst xs)/\RT p/\Reps K H (λb=>RT b\/exB Y J pa b) cs xs/\∀pa' q,bU Z l pa' q=Z.set l (eH lt pa' q):=by
 unfold bG at h;cases e:Z[l]? with
 | none=>rw[e] at h;cases h|some sl=>
  rw[e] at h;cases sl with
  | own pa' ds'=>cases h;obtain⟨p,xs,I,L,M,W,U⟩:=S.own l pa cs e;exact⟨false,p,xs,rfl,I,L,M,U,λpa' q=>by unfold bU;rw[e];rfl⟩|lent ds'=>cases h;obtain⟨p,xs,I,L,M,W,U⟩:=S.lx.at' l cs e;exact⟨true,p,xs,rfl,I,L,M,U,λpa' q=>by unfold bU;rw[e];rfl⟩|_=>cases h
theorem aBu{X:Cx}{n:Nat}{fa:Addr}{fd:Cv}{ps:List Str}{sp:Sp}{x:Str}{p pos:Cf}{e:Ag}{es:List Ag}{M:TA}(h4:nJ X.prog X.w X.K X.mg X.base (CX1 X.prog X.w) n fa fd ps sp)(hr:jC n X.A)(hg:Gl X x)(U:X.mg x=some (.ref fa))(W:Da X.K (.ref fa)=true)(h3:iH X.K fd ps [])
 (ha:PA X (e::es) M) (ho:(x==("__debug__" : Str))=false) (hs:AI (e::es) X.env=(false,C4 e X.env)::AI es X.env) (hb:(CW pos (AI es X.env)).any (·.1)=false) :
 PE X (.Call (.Name x p) (e::es) [] pos) (λZV H Q=>M ZV H λus H1=>sp (us++[]) H1 Q (λc _ H'=>RX X c ZV H')):=by intro G s ZV H Q I hw;refine Bu (eR I hg U ?_ ho);refine EW (h₀:=X.base) I.ok.mod.kin W (thn (ha pos G s ZV H _ I hw) λus s1 ⟨vs,H1,L,r,q⟩=>⟨L.kIn,?_⟩) hs hb;exact thn (pU h4 hr h3 .nil (sB X) L r q) λu s2 z=>z
theorem aGg(M:Mc X P Γ n){f:Nat}{es:ELs}{g x:Str}{p p1:Cf}{ys:List Ag}(hf:Γ.fns[f]? = some g)(hg:bR Γ g=true)(ho:aZ g=true)(hx:bH Γ l x=true)(ha:PA X ys (WLs X P n RT Y J l Z es))(hp:ys.all aK=true) :
 PE X (.Call (.Name g p) (.Name x p1::ys) [] pos) (WL X P n RT Y J l Z (.call f es)):=by
 obtain⟨fa,fd,ps,h1,h2,h3,h4⟩:=M.md.fn f g hf;refine(aBu h4 M.room (M.gl hg) h1 h2 h3 (cD (dO M hx) ha (aA rfl)) (aF ho) (aA rfl) (cI hp)).imp λZV H Q t ⟨S,h⟩=>?_;obtain⟨hc,h⟩:=(show RE _ (R.iff ((bG Z l).isSome&&jY P f) (evls' P (call P n) l Z es >>= λr=>(match bG r.2 l with
  | some (pa,cs)=>call P n f (.err ⟨#[]⟩ cs::r.1.map (·.d)) >>= λq=>eU r.2 l pa r.1 q|none=>.bad))) _ from h).iff
 rw[bA] at hc;obtain⟨r,er,h⟩:=RE.eqN (RE.bind' h);obtain⟨⟨q8,q6⟩,e0⟩:=Br.mp hc.1;obtain⟨_,q,_,_,hq,_⟩:=kY S e0;refine⟨.ref q,hq,S,?_⟩;rw[er];intro us H1 t1 S1 k1 rs;cases e1:bG r.2 l with
 | none=>rw[e1] at h;exact h.elim|some pc=>
  obtain⟨pa,cs⟩:=pc;rw[e1] at h;obtain⟨rt,ec,h⟩:=RE.eqN (RE.bind' (show RE NX (call P n f (.err ⟨#[]⟩ cs::r.1.map (·.d)) >>= λq=>eU r.2 l pa r.1 q) _ from h));obtain⟨lt,p',xs,g1,g2,g3,g4,g5,g6⟩:=kY S1 e1;rw[hq] at g2;cases g2;have I:∀b,RT b\/exB Y J (pa||anyPa r.1) b->b=q\/(H1 b≠none/\b≠q/\(RT b\/exB Y J (pa||anyPa r.1) b)):=λb z=>by
   by_cases hb:b=q;exact .inl hb;refine .inr ⟨S1.trk b ?_,hb,z⟩;rcases z with z|z|⟨_,z⟩
   exact .inl z;exact .inr (.inl z);exact .inr (.inr z)
  have q4:∀b,b=q\/(H1 b≠none/\b≠q/\(RT b\/exB Y J (pa||anyPa r.1) b))->RT b\/exB Y J (pa||anyPa r.1) b:=λb z=>z.elim (λz=>.inl (by rw[z];exact g4)) λz=>z.2.2;refine .inr ⟨hc.2,cs,r.1.map (·.d),q,xs,us,λb=>H1 b≠none/\b≠q/\(RT b\/exB Y J (pa||anyPa r.1) b),by rw[BH],λa z=>z.1,g3,g5.weak λb z=>(q4 b z).imp id kW,
   (rs.reps (pa:=pa||anyPa r.1) λv U z=>by rw[fR U z,Bz]).weak q4,?_⟩
  rw[ec];unfold eU at h;cases eu:aAK rt.1 with
  | none=>rw[eu] at h;exact h.elim|some dc=>
   obtain⟨d,W⟩:=dc;rw[eu] at h;refine⟨d,W,eu,λu H' R2 q5 t' kp hR q7 q0 rr U _=>?_⟩;have h:∀u H',Tk X.K H'->RoL X.K RT Y J (bU r.2 l (pa||anyPa r.1) W) ZV l H H' (⟨d,rt.2.1,rt.2.2&&(pa||anyPa r.1),[]⟩:Vl) u->Q u H':=h;rw[g6] at h;have kL:KpL RT ZV l H1 H':=λb o e z=>kp b o e λw=>z (by rw[w];exact⟨hq,g4⟩);have out:∀b,RT b\/exB Y J (rt.2.2&&(pa||anyPa r.1)) b->R2 b\/(H1 b≠none/\b≠q/\(RT b\/exB Y J (pa||anyPa r.1) b))\/(rt.2.2=false/\H1 b≠none):=λb z=>by
    cases q3:rt.2.2 with
    | true=>rw[q3,Bool.true_and] at z;exact(I b z).elim (λw=>.inl (by rw[w];exact hR)) λw=>.inr (.inl w)|false=>
     rw[q3,Eo] at z;rcases z with z|z;exact(I b (.inl z)).elim (λw=>.inl (by rw[w];exact hR)) λw=>.inr (.inl w);refine .inr (.inr ⟨rfl,S1.trk b (.inr ?_)⟩);rcases z with z|⟨_,z⟩
     exact .inl z;exact .inr z
   have q2:∀{b},exB Y J (lt||(pa||anyPa r.1)) b->exB Y J (pa||anyPa r.1) b:=λ{b} z=>z.mono λw=>by rw[w,Bz]
   have S0:Sx X.K RT Y J (r.2.set l (eH lt (pa||anyPa r.1) W)) ZV H':=by refine S1.mutH g1 hq (λ_ z=>z) (λ_ z=>.inl z) (λb z=>?_) t' kp q0 (rr.weak λb z=>?_);by_cases hb:b=q;exact⟨q5,by rw[hb];exact q0⟩;obtain⟨zs,hz⟩:=S1.rt b z;exact⟨zs,kp b _ hz hb⟩;exact(I b (z.imp id q2)).imp (λw=>by rw[w];exact hR) id
   refine h u H' t' ⟨S0,k1.trans kL,λhf=>?_,?_⟩;have hf:rt.2.1=true:=hf;rw[if_pos hf] at U;obtain⟨a,L,q1,v1,v2,v3,v4,v5,v6⟩:=U;refine⟨a,L,q1,v1,v2,S1.free k1.kp v3,v5,?_,v6.weak λb z=>?_⟩;refine S1.mutH g1 hq (λ_ z=>.inl z) (λb z=>z.imp id λz=>by rw[z];exact v3) (λb z=>?_) t' kp q0 (rr.weak λb z=>?_);rcases z with z|z;exact S0.rt b z;rw[z];exact⟨L,v5⟩;rcases z with(z|z)|z;exact(I b (.inl z)).imp (λw=>by rw[w];exact hR) id;exact .inl (by rw[z];exact v4);exact(I b (.inr (q2 z))).imp (λw=>by rw[w];exact hR) id;rcases z with(z|z)|z;exact out b (.inl z);exact .inl (by rw[z];exact v4);exact out b (.inr z);by_cases hf:rt.2.1=true;rw[if_pos hf] at U;obtain⟨a,L,q1,v1,v2,v3,v4,v5,v6⟩:=U;show Rep X.K H' (λb=>RT b\/exB Y J (rt.2.2&&(pa||anyPa r.1)) b) d u;rw[v1,v2];refine⟨a,L,rfl,SqL.of v5,λz=>?_,v6.weak out⟩;have:H1 a≠none:=S1.trk a (z.imp id λz=>z.elim .inl λz=>.inr z.2);exact this v3;rw[if_neg hf] at U;exact Rep.weak U out
theorem Sx.reV{K:Fg}{ZV I:L2.St}{H:Hp}(S:Sx K RT Y J Z ZV H)(hl:I.length=ZV.length)(h:∀(j:Nat) (s:Sl),Z[j]? = some s->s=.dead\/I[j]? = ZV[j]?):Sx K RT Y J Z I H where
 sh:=λj pa d e=>by rcases h j _ e with z|z;cases z;rw[z];exact S.sh j pa d e
 own:=λj pa d e=>by rcases h j _ e with z|z;cases z;rw[z];exact S.own j pa d e
 trk:=S.trk
 yo:=S.yo
 tk:=S.tk
 rt:=S.rt
 inj:=λj1 j2 pa pa' ds ds' a L M U W=>by rcases h j1 _ L with z|z1;cases z;rcases h j2 _ M with z|z2;cases z;rw[z1] at U;rw[z2] at W;exact S.inj j1 j2 pa pa' ds ds' a L M U W
 len:=by rw[hl];exact S.len
 lx:=S.lx.imp id (λj ds e=>(h j _ e).elim (λz=>by cases z) λz=>⟨e,z⟩) (λ_ _ _ _ _ _ e=>e) (λ_ _ e z _=>⟨e,z⟩) (λ_ _ r=>r) (λj ds e=>(h j _ e).elim (λz=>by cases z) λz=>⟨e,z⟩) (λ_ _ _ _ _ _ e=>e) (λp xs e z=>⟨e,z.1,z.2.1,λk pa ds q=>(h k _ q).elim (λw=>by cases w) λw=>by rw[w];exact z.2.2 k pa ds q⟩) λ_ _ r=>r
theorem qQ{f:Sg->Vl->R (Vl×Sg)}{x:Vl}{xs q:List Vl}{Z Z':Sg}(h:cS f (x::xs) Z=.ok (q,Z')):∃y r,f Z x=.ok y/\cS f xs y.2=.ok (r,Z')/\q=y.1::r:=by obtain⟨y,I,h⟩:=R.bind_ok (show(f Z x >>= λy=>cS f xs y.2 >>= λr=>R.ok (y.1::r.1,r.2))=R.ok (q,Z') from h);obtain⟨r,L,h⟩:=R.bind_ok h;cases(show R.ok (y.1::r.1,r.2)=R.ok (q,Z') from h);exact⟨y,r.1,I,L,rfl⟩
theorem dY.snoc{K:Fg}{H:Hp}{v:Vl}{u:V}(q:RvL K RT Y J H v u):∀{vs:List Vl} {us:List V},dY K RT Y J H vs us->dY K RT Y J H (vs++[v]) (us++[u])
 | [],_,h=>by rw[show _=[] from h];exact⟨u,[],rfl,q,rfl⟩|w::vs,_,h=>by obtain⟨x,r,e,I,L⟩:=h;subst e;exact⟨x,r++[u],rfl,I,dY.snoc q L⟩
theorem dY.go{K:Fg}{ZV:L2.St}{H H':Hp}(S:Sx K RT Y J Z ZV H)(k:Kp RT H H'):∀{vs:List Vl} {us:List V},dY K RT Y J H vs us->dY K RT Y J H' vs us
 | [],_,h=>h|v::vs,_,h=>by obtain⟨u,r,e,q,I⟩:=h;exact⟨u,r,e,q.go S k,dY.go S k I⟩
theorem aDr{K:Fg}{ZV:L2.St}{H:Hp}(j:Int):pZ K RT Y J Z ZV H (Itr 0 j.toNat) ((bQ 0 j).map .cl) []:=by refine qF (lo:=0) (m:=j.toNat) ?_;rw[fA];simp
theorem aGh(M:Mc X P Γ n){k l':Nat}{caps:List Nat}{t:T}{c elt:EL}{e tg en:Ag}{f:Str}{p p2:Cf}{scope:Ck}{N':List Str}(CS:bX X scope k caps N')(z9:caps.Nodup)(hk:∀i∈tIx t,i<k)(z6:k<=l')(z3:caps[l'-k]? = some l)
 (hf:f=("range" : Str)) (hg:bR Γ f=true) (he:PE X en (WL X P n RT Y J l Z c)) (w7:aK en=true)
 (w4:∀C s₀ H₀ ex,PG (bI X scope N' C s₀ H₀ ex) tg (gT X.K t)/\∀pl E W,BE (Au X.prog X.w) X.A (bI X scope N' C s₀ H₀ ex).env E->Rs ((bI X scope N' C s₀ H₀ ex).inTry pl E) W->∀RT Z1,PE ((bI X scope N' C s₀ H₀ ex).inTry pl E) e (WL X P n RT Y J l' Z1 elt)) :
 PE X (.ListComp e [⟨tg,.Call (.Name f p) [en] [] p2,[],0⟩] scope pos) (WL X P n RT Y J l Z (.comp k caps t c l' elt)):=by
 subst hf;refine(pX (g:=gT X.K t) (tt:=λ_ H Q=>Q true H) (te:=λ_ ZV H Q=>∃RT Z1,WL X P n RT Y J l' Z1 elt ZV H Q) (WX:=λ_ _ _=>False) CS M.calm (jA (M.gl hg) (M.md.blt _ (by decide +kernel)) (cD he dG (aA w7)) (aA w7)) (λC s₀ H₀ ex=>⟨(w4 C s₀ H₀ ex).1,wW,λpl E W own rs=>fD λRT=>fD ((w4 C s₀ H₀ ex).2 pl E W own rs RT)⟩) (λ_ _ _ z=>z.elim) (cX rfl)).imp λZV H Q t0 ⟨S,h⟩=>?_
 let F:Sg->Vl->R (Vl×Sg):=λZ x=>aY (ch0 k caps Z) x t >>= λZ1=>evl P (call P n) l' Z1 elt >>= λy=>(match bG Z l,bG y.2 l' with
  | some _,some (pa,cs)=>R.ok (y.1,bU Z l pa cs)|_,_=>.bad)
 have h:=RE.bind' (show RE _ (evl P (call P n) l Z c >>= λr=>(match r.1.d with
  | .int j=>R.iff (aR j) (cS F ((bQ 0 j).map .cl) r.2 >>= λq=>R.iff (decide (q.1.length<=lim)) (.ok ((⟨.lst (q.1.map (·.d)),true,anyPa q.1,[]⟩:Vl),q.2)))|_=>.bad)) _ from h)
 refine⟨S,h.mono λr hr u H1 t1 ro=>?_⟩;cases hd:r.1.d with
 | int jj=>
  rw[hd] at hr;obtain⟨hs,hr⟩:=RE.iff (show RE _ (R.iff (aR jj) _) _ from hr);obtain⟨⟨vs,Ze⟩,er,hr⟩:=RE.eqN (RE.bind' hr);obtain⟨U,hr⟩:=RE.iff (show RE _ (R.iff (decide (vs.length<=lim)) (.ok ((⟨.lst (vs.map (·.d)),true,anyPa vs,[]⟩:Vl),Ze))) _ from hr);have U:=of_decide_eq_true U;have hs:=eM hs;have ok:pZ X.K RT Y J r.2 ZV H1 (Itr 0 jj.toNat) ((bQ 0 jj).map .cl) []:=aDr jj;refine⟨jj,by rw[(ro.rv.nr (Z:=r.2) (ZV:=ZV)).int hd],hs.1,hs.2,?_⟩;have S1:=ro.sx;revert er ok S1;generalize (bQ 0 jj).map Vl.cl=xs;intro er ok S1;refine⟨λj m ys q1 Hc=>m=xs.length-j/\j<=xs.length/\KpL RT ZV l H1 Hc/\∃Zc,Sx X.K RT Y J Zc ZV Hc/\q1.length=(eZ k caps ZV).length/\(∀j,k<=j->q1[j]? = (eZ k caps ZV)[j]?) /\
   ∃ws rs,vs=ws++rs/\cS F (xs.drop j) Zc=.ok (rs,Ze)/\dY X.K RT Y J Hc ws ys,⟨_,rfl,Cm _,KpL.same (aG.refl _),r.2,S1,rfl,λ_ _=>rfl,[],vs,rfl,er,rfl⟩,?_⟩
  rintro j m ys q1 Hc ⟨hm,hj,kp,Zc,Sc,z8,q4,ws,rs,I,q2,q8⟩;have q7:=ok.ok RT (λb z=>⟨z,λ⟨_,hj,_⟩=>by cases hj⟩) j Hc kp.kp;have w6:=q8.length;have x5:ws.length<=vs.length:=by rw[I,lA];omega
  have x3:lim=1000000:=rfl;by_cases q0:j<xs.length;refine .inr ⟨q7.1 q0,by rw[<-w6,AW];omega,λx H' hy=>?_⟩;have x1:xs[j]? = some xs[j]:=Ap q0;obtain⟨sm,x2,rv⟩:=q7.2.2 x H' hy xs[j] x1;have q5:xs[j]∈xs:=Bl q0;have x0:=ok.nofr _ q5;rw[CC q0] at q2;obtain⟨y,r',L,q9,z2⟩:=qQ q2;obtain⟨Z1,w3,L⟩:=R.bind_ok L;obtain⟨q,eq,L⟩:=R.bind_ok L;have Sg:=Sc.grow sm (x2 Sc.tk);have rep:Rep X.K H' (λa=>RT a\/exB Y J xs[j].pa a) xs[j].d x:=rv.weak λa z=>by
   rcases z with z|z;exact .inl (.inl ⟨z,λw=>by
    obtain⟨j',z4,_⟩:=w;have:=ok.sub _ q5 j' z4;cases this⟩)
   exact .inl (.inr z)
  have w9:Sx X.K RT Y J (ch0 k caps Zc) q1 H':=(Sg.child z9).reV z8 λj' s hs=>by by_cases w5:j'<k;exact .inl (tD w5 hs);exact .inr (q4 j' (F8 w5))
  refine xI w9 x0 rep w3 λz0 S2 q6=>?_;show(if true=true then _ else _);rw[if_pos rfl];refine⟨RT,Z1,S2,?_⟩;rw[eq];intro u H4 t4 ro;have q3:∀j,k<=j->z0[j]? = (eZ k caps ZV)[j]? := λj hj=>by rw[q6 j λz=>absurd (hk j z) (BI.mpr hj),q4 j hj]
  cases e1:bG Zc l with
  | none=>simp only[e1] at L;cases L|some pc=>
   obtain⟨x7,x4⟩:=pc;simp only[e1] at L;cases e2:bG q.2 l' with
   | none=>simp only[e2] at L;cases L|some pc=>
    obtain⟨pa,cs⟩:=pc;simp only[e2] at L;cases(show R.ok (q.1,bU Zc l pa cs)=R.ok y from L);obtain⟨lt,a,x8,g1,g2,g3,g4,g5,g6⟩:=kY ro.sx e2;obtain⟨x6,a0,x9,b1,b2,b3,b4,b5,b6⟩:=kY Sg e1;have hV:ZV[l]? = some (some (.ref a)):=by
     rw[q3 l' z6] at g2;have z7:l'=k+(l'-k):=by omega
     rw[z7] at g2;exact iO z3 g2
    rw[hV] at b2;cases b2;have w8:Kp (λb=>b=a) H' H4:=λb o eb nb=>ro.kp b o eb λz=>nb (by
     have z1:=z.1;rw[g2] at z1;exact(V.ref.inj (Ah (Ah z1))).symm)
    have kL:KpL RT ZV l H' H4:=λb o eb nb=>w8 b o eb λz=>nb (by rw[z];exact⟨hV,b4⟩);have S4:Sx X.K RT Y J (bU Zc l pa cs) ZV H4:=by rw[b6];refine Sg.mutH b1 hV (λ_ z=>z) (λ_ z=>.inl z) (λb z=>ro.sx.rt b z) t4 w8 g3 (g5.weak λb z=>z.imp id λz=>z.mono λw=>by rw[w,Bz])
    refine⟨xs.length-(j+1),by omega,rfl,q0,kp.trans ((KpL.same sm).trans kL),bU Zc l pa cs,S4,?_,q3,ws++[q.1],r',by rw[I,z2];simp,q9,dY.snoc ro.rv (dY.go Sc ((Kp.same sm).trans kL.kp) q8)⟩;rw[<-S2.len,sY w3];unfold ch0 eZ;simp
  have z5:j=xs.length:=by omega
  subst z5;rw[Df] at q2;cases(show R.ok ([],Zc)=R.ok (rs,Ze) from q2);rw[BH] at I;subst I;refine .inl ⟨q7.2.1 (An _),by rw[<-w6];exact dS U,λq hq t'=>?_⟩;exact(show ∀u H',Tk X.K H'->RoL X.K RT Y J Ze ZV l H H' (⟨.lst (vs.map (·.d)),true,anyPa vs,[]⟩:Vl) u->Q u H' from hr) _ _ t' (xN S Sc (ro.kp.trans kp) q8 hq t')
 | _=>rw[hd] at hr;exact hr.elim
theorem xO{Γ:Ct}{k l l':Nat}{caps:List Nat}{t:T}{c:EL}{elt:EL}{e:Ag}(h:aV Γ l (.comp k caps t c l' elt) e=true) :
 ∃L tg f p en U scope pos,e=.ListComp L [⟨tg,.Call (.Name f p) [en] [] U,[],0⟩] scope pos/\aAa Γ tg caps scope k t/\fO (mI Γ tg caps scope) t tg=true/\(f=("range" : Str)/\bR Γ f=true/\aV Γ l c en=true)/\(k<=l'/\caps[l'-k]? = some l)/\aV (mI Γ tg caps scope) l' elt L=true:=by
 unfold aV at h;obtain⟨⟨L,gens,scope⟩,⟨pos,rfl⟩,g⟩:=aC h;clear h;have h:=g;clear g;rcases gens with _|⟨⟨tg,I,M,as⟩,_|⟨_,_⟩⟩
 cases h;cases M with
 | cons _ _=>cases h|nil=>
  have h:(as==0&&(cN tg).length==k&&(caps.all λi=>decide (i<Γ.N.length))&&decide caps.Nodup&&scope.kind==.function&&decide (cN tg++caps.filterMap λi=>Γ.N[i]?).Nodup &&
   ((caps.filterMap λi=>Γ.N[i]?).all λx=>scope.names.lookup x==some .free&&Γ.sc.lookup x==some .cell) &&
   (scope.names.all λp=>p.2 != .cell&&(p.2 != .local||scope.names.lookup p.1==some .local)&&(p.2 != .free||Γ.sc.lookup p.1==some .cell)) &&
   ((tIx t).all λi=>decide (i<k)) &&
   fO (mI Γ tg caps scope) t tg&&(oS (jE I) λq=>(q.1==("range" : Str))&&bR Γ q.1&&(match q.2 with|[x]=>aV Γ l c x|_=>false))&&(decide (k<=l')&&(caps[l'-k]?==some l))&&aV (mI Γ tg caps scope) l' elt L)=true:=h
  simp only[bA,beq_iff_eq,AS,AT,Cw,bne_iff_ne,ne_eq] at h;obtain⟨⟨⟨⟨⟨⟨⟨⟨⟨⟨⟨⟨h0,h1⟩,h2⟩,h3⟩,h4⟩,h5⟩,h6⟩,h7⟩,h8⟩,q0⟩,q4⟩,q5⟩,q6⟩:=h;subst h0;obtain⟨⟨f,xs⟩,⟨p1,U,W⟩,g⟩:=aC q4;have W:I=.Call (.Name f p1) xs [] U:=W;subst W;obtain⟨g1,g2,g3⟩:=cK g;rcases xs with _|⟨x,_|⟨_,_⟩⟩
  cases g3;refine⟨L,tg,f,p1,x,U,scope,pos,rfl,⟨h1,h2,h3,h4,h5,h6,λp hp=>?_,h8⟩,q0,⟨eq_of_beq g1,g2,g3⟩,q5,q6⟩;obtain⟨⟨q1,q2⟩,q3⟩:=h7 p hp;exact⟨q1,λe=>q2.resolve_left λz=>z e,λe=>q3.resolve_left λz=>z e⟩;cases g3
 cases M <;> cases h
theorem bP{c:EL}{e:Ag}(h:aV Γ l c e=true):aK e=true:=by
 cases c with
 | e a=>exact aH (c:=a) (by exact h)|op o a b=>obtain⟨_,⟨_,rfl⟩,_⟩:=aC (by unfold aV at h;exact h);rfl|idx a b=>obtain⟨_,⟨_,rfl⟩,_⟩:=aC (by unfold aV at h;exact h);rfl|tup es=>obtain⟨_,⟨_,_,rfl⟩,_⟩:=aC (by unfold aV at h;exact h);rfl|call f es=>obtain⟨_,⟨_,_,rfl⟩,_⟩:=aC (by unfold aV at h;exact h);rfl|lst es=>obtain⟨_,⟨_,rfl⟩,_⟩:=aC (by unfold aV at h;exact h);rfl|cmp o a b=>obtain⟨_,⟨_,rfl⟩,_⟩:=aC (by unfold aV at h;exact h);rfl|int a=>obtain⟨_,⟨_,_,rfl⟩,_⟩:=aC (by unfold aV at h;exact h);rfl|comp k caps t c l' elt=>obtain⟨_,_,_,_,_,_,_,_,rfl,_⟩:=xO h;rfl
theorem iQ:∀{cs:ELs} {es:List Ag},chkELs Γ l cs es=true->es.all aK=true
 | .nil,[],_=>rfl|.nil,_::_,h=>by cases h|.cons _ _,[],h=>by cases h|.cons c cs,e::es,h=>by simp only[chkELs,bA] at h;rw[Dh,bP h.1,iQ h.2];rfl
mutual
theorem qEL{X:Cx}{Γ:Ct}{l:Nat}(M:Mc X P Γ n):(c:EL)->∀{e:Ag},aV Γ l c e=true->∀(RT:Addr->Prop) (Z:Sg),PE X e (WL X P n RT Y J l Z c)
 | .e a,e,h,RT,Z=>l_e (sE a M (by unfold aV at h;exact h) RT Y J Z)|.op o a b,e,h,RT,Z=>by unfold aV at h;obtain⟨⟨x,o',y⟩,⟨p,rfl⟩,g⟩:=aC h;obtain⟨L,I,h3⟩:=cK g;have e:o=o':=eq_of_beq L;subst e;exact aKM (qEL M a I RT Z) λZ=>qEL M b h3 RT Z|.idx a b,e,h,RT,Z=>by unfold aV at h;obtain⟨⟨x,y⟩,⟨p,rfl⟩,g⟩:=aC h;obtain⟨L,I⟩:=cA g;exact aIT (qEL M a L RT Z) (λZ=>qEL M b I RT Z) (bP I)|.tup es,e,h,RT,Z=>by unfold aV at h;obtain⟨xs,⟨k,p,rfl⟩,g⟩:=aC h;obtain⟨L,I⟩:=cA g;exact aIV (qELs M es I RT Z) I (of_decide_eq_true L)|.call f es,e,h,RT,Z=>by
  unfold aV at h;obtain⟨⟨g,xs⟩,⟨p1,p2,rfl⟩,q⟩:=aC h;obtain⟨L,I,h3,U⟩:=aAb q;cases xs with
  | nil=>cases U|cons x xs=>obtain⟨U,h5⟩:=cA U;obtain⟨y,⟨p3,e3⟩,U⟩:=aC U;subst e3;exact aGg M (eq_of_beq L) I h3 U (qELs M es h5 RT Z) (iQ h5)
 | .lst es,e,h,RT,Z=>by unfold aV at h;obtain⟨xs,⟨p,rfl⟩,g⟩:=aC h;obtain⟨L,I⟩:=cA g;exact aIW (qELs M es I RT Z) I (of_decide_eq_true L)|.cmp o a b,e,h,RT,Z=>by
  unfold aV at h;obtain⟨⟨x,os,rs⟩,⟨p,rfl⟩,g⟩:=aC h;rcases os with _|⟨o',_|⟨_,_⟩⟩
  cases g;rcases rs with _|⟨r,_|⟨_,_⟩⟩
  cases g;obtain⟨L,I,h3⟩:=cK g;have e:o=o':=eq_of_beq L;subst e;exact aIX M (qEL M a I RT Z) (λZ=>qEL M b h3 RT Z) (bP h3);cases g;cases g
 | .int a,e,h,RT,Z=>by
  unfold aV at h;obtain⟨⟨g,xs⟩,⟨p1,p2,rfl⟩,q⟩:=aC h;obtain⟨L,I,h3,U⟩:=aAb q;rcases xs with _|⟨x,_|⟨_,_⟩⟩
  cases U;exact aIY M (eq_of_beq L) I h3 (qEL M a U RT Z) (bP U);cases U
 | .comp k caps t c l' elt,e,h,RT,Z=>by obtain⟨el,tg,f,p,en,p2,scope,pos,rfl,O,g1,⟨f1,f2,f3⟩,⟨k1,k2⟩,g3⟩:=xO h;refine aGh M (O.scope M) O.ndc O.tk k1 k2 f1 f2 (qEL M c f3 RT Z) (bP f3) λC s₀ H₀ ex=>?_;have M':=O.mc M C s₀ H₀ ex;exact⟨tB M' g1,λpl E W own rs RT Z1=>qEL (l:=l') (M'.inTry own) elt g3 RT Z1⟩
theorem qELs{X:Cx}{Γ:Ct}{l:Nat}(M:Mc X P Γ n):(cs:ELs)->∀{es:List Ag},chkELs Γ l cs es=true->∀(RT:Addr->Prop) (Z:Sg),PA X es (WLs X P n RT Y J l Z cs)
 | .nil,[],_,RT,Z=>aIU|.nil,_::_,h,_,_=>by cases h|.cons _ _,[],h,_,_=>by cases h|.cons c cs,e::es,h,RT,Z=>by obtain⟨q,I⟩:=cA (show(aV Γ l c e&&chkELs Γ l cs es)=true from h);exact aGf (qEL M c q RT Z) (λZ=>qELs M cs I RT Z) (bP q)
end
end
theorem OE.fromN{K:Fg}{w:L2.St->Hp->D->Prop}{RT Y J:Addr->Prop}{Z:Sg}{H:Hp}{D:Ends}{α:Type}{x:R α}{f:α->O}(h:OE K w RT Y J H (O.from Z x.calm f) D):RE NX x λa=>OE K w RT Y J H (f a) D:=by
 cases x with
 | ok a=>exact h|exc e=>exact h.elim|bad=>exact h.elim
section
variable {X:Cx} {P:Pg} {Γ:Ct} {n:Nat} {RT Y J:Addr->Prop} {Z:Sg} {pos:Cf} {l:Nat}
theorem aGi{i:Nat}{U c:E}{x:Str}{p p2:Cf}{ix v:Ag}(M:Mc X P Γ n)(hx:bH Γ i x=true)(hk:PE X ix (WE X P n RT Y J Z U))(he:PE X v (WE X P n RT Y J Z c))(q0:aK ix=true):PS X (.Assign [.Subscript (.Name x p) ix p2] v pos) (wS X RT Y J Z (ex P (call P n) Z (.lset i U c))):=by
 refine bK (pI he (uK (dO M hx) hk lR (by intro _;cases ix <;> first|rfl|cases q0)) (by cases v <;> rfl) (by cases v <;> rfl)) λD ZV H t ⟨S,h⟩=>?_;have h:=OE.from S (show OE X.K (XW X) RT Y J H (O.from Z (ev P (call P n) Z c) λv=>O.from Z (ev P (call P n) Z U).calm λkv=>(match Z[i]?,kv.d with
  | some (.lent ds),.int k=>(match ixN ds.length k with|some j=>if noL v.d then .next (Z.set i (.lent (ds.set j v.d))) else .bad|none=>.bad)
  | _,_=>.bad)) D from h)
 refine wE.one S h λv u H1 q t1 S1 r1=>?_;obtain⟨kv,ek,q⟩:=RE.eqN (OE.fromN q);cases e:Z[i]? with
 | none=>rw[e] at q;exact q.elim|some sl=>
  rw[e] at q;cases sl with
  | lent ds=>
   cases hd:kv.d with
   | int k=>
    rw[hd] at q;have q:OE X.K (XW X) RT Y J H (match ixN ds.length k with|some j=>if noL v.d then .next (Z.set i (.lent (ds.set j v.d))) else .bad|none=>.bad) D:=q;obtain⟨b,xs,h1,h2,h3,h4,h5⟩:=S.lx.at' i ds e;cases W:ixN ds.length k with
    | none=>rw[W] at q;exact q.elim|some j=>rw[W] at q;have q:OE X.K (XW X) RT Y J H (if noL v.d then .next (Z.set i (.lent (ds.set j v.d))) else .bad) D:=q;split at q;rename_i hn;refine⟨.ref b,h1,S1,?_⟩;rw[ek];intro uk H2 t2 L;have I:=h5.length;refine⟨b,xs,k,j,rfl,(L.rv S1).int hd,L.1 _ _ (r1.1 _ _ h2),by rw[<-I,<-eW];exact W,λ_=>?_⟩;have s2:=r1.1.trans L.1;exact(show cO X.K RT Y J H (Z.set i (.lent (ds.set j v.d))) D.nx from q) RT ZV _ (Kp.upd s2 h3) aT ((S.grow s2 t2).mutA (lt:=true) (pa:=true) (pa':=true) e h1 ((h5.grow s2).set j (Rep.free _ _ hn ((r1.rv S).grow L.1))));exact q.elim
   | _=>rw[hd] at q;exact q.elim
  | _=>exact q.elim
theorem aDs{Z':Sg}{ZV:L2.St}{H H1:Hp}{v:Vl}{u:V}(S:Sx X.K RT Y J Z ZV H)(I:RoL X.K RT Y J Z' ZV l H H1 v u)(i:Nat):∃q,Sx X.K q Y J (Z'.set i v.slot) (ZV.set i (some u)) H1/\∀b,q b->RT b\/H b=none:=by by_cases hf:v.fr=true;obtain⟨a,xs,ds,M,U,L,W,S2,r⟩:=I.fr hf;rw[xH hf U,M];exact⟨_,I.sx.putOwn S2 (λz=>S.trk a (.inl z) L) (λz=>S.trk a (.inr (.inr z)) L) W r,λb z=>z.imp id λz=>by rw[z];exact L⟩;rw[eN (by simpa using hf)];exact⟨_,I.sx.setSh I.rv,aT⟩
theorem Kp.rtF{H H1:Hp}{ZV:L2.St}{al:List Nat}(k:Kp (rtF RT Z ZV al) H H1):Kp RT H H1:=λa o e q=>k a o e λz=>q z.1
theorem aGj{c:EL}{e:Ag}{i:Nat}{fz:List Nat}{x:Str}{p:Cf}(M:Mc X P Γ n)(U:aS Γ i x=true)(he:∀RT Z,PE X e (WL X P n RT Y J l Z c))(hs:fP e=false):PS X (.Assign [.Name x p] e pos) (wS X RT Y J Z (ex P (call P n) Z (.setL i l fz c))):=by unfold aS at U;obtain⟨h1,L,h3⟩:=cK U;refine bK (lK (i:=i) M.nd (by rw[M.N];exact eq_of_beq h1) (M.loc L) (fD λRT=>fD (he RT)) (by cases e <;> first|rfl|cases hs) (M.st x L)) λD ZV H t ⟨S,h⟩=>?_;have h:=OE.fromN (show OE X.K (XW X) RT Y J H (O.from Z (evl P (call P n) l (freeze Z fz) c).calm λr=>.next (r.2.set i r.1.slot)) D from h);refine⟨rtF RT Z ZV fz,freeze Z fz,S.frz fz,h.mono λr hr u H1 t1 W=>?_⟩;obtain⟨I,S',q⟩:=aDs (S.frz fz) W i;exact λ_=>(show cO X.K RT Y J H (r.2.set i r.1.slot) D.nx from hr) I _ H1 (Kp.rtF W.kp.kp) (λb z=>(q b z).imp (·.1) id) S'
theorem aGk{i:Nat}{c:EL}{e a:Ag}(M:Mc X P Γ n)(hc:sA Γ i "append" e=some [a])(ha:PE X a (WL X P n RT Y J l Z c))(W:aK a=true):PS X (.Expr e pos) (wS X RT Y J Z (ex P (call P n) Z (.appL i l c))):=by obtain⟨x,p,ap,cp,rfl,hx,hl⟩:=xM hc;refine bK (pG (aEb DN DF DG nY (dO M hx) (cD ha dG (aA W)) rfl (by rw[aA W];rfl) hl (aA W) rfl)) λD ZV H t ⟨S,h⟩=>?_;have h:OE X.K (XW X) RT Y J H (if (jX Z i).isSome then O.from Z (evl P (call P n) l Z c).calm λr=>put r.2 i r.1.nr λds=>some (ds++[r.1.d]) else .bad) D:=h;split at h;rename_i U;obtain⟨⟨q5,L⟩,U⟩:=Br.mp U;have q0:=tJ U;obtain⟨r,ee,h⟩:=RE.eqN (OE.fromN h);obtain⟨b,xs,g1,g2,g3,g4,g5⟩:=S.own i q5 L q0;refine⟨.ref b,g1,.inl ⟨rfl,xs,SqL.of g2⟩,S,?_⟩;rw[ee];intro u H1 t1 I;obtain⟨pa,ds,ds',q1,q2,q3,q4,q⟩:=vJ h;cases q3;obtain⟨b',q6,k1,k2,k3,k4,k5⟩:=I.sx.own i pa ds q1;rw[g1] at k1;cases k1;have q7:=k5.length;refine⟨b,q6,u,rfl,rfl,k2,?_,λ_=>?_⟩;rw[lA,AX] at q4;have:=aBs;omega;exact mK I.sx (aG.refl H1) t1 q1 q2 g1 (((mJ I.sx (aG.refl H1) q1 g1 k2).weak λc z=>z.imp id kW).append (.cons (Rep.weak I.rv λc z=>z.imp (·.1) xL) .nil)) (q.mono I.kp.kp aT);exact h.elim
theorem tK{v:Vl}{D:Ends}{H:Hp}(h:OE X.K (XW X) RT Y J H (jZ v Z) D):∃cs,Z[(0:Nat)]? = some (.lent cs)/\iP X.K RT Y J H ⟨.tup [v.d,.err ⟨#[]⟩ cs],v.fr,v.pa,[]⟩ D.rt:=by unfold jZ at h;split at h;rename_i cs e;exact⟨cs,e,h⟩;exact h.elim
theorem aBv{b:Addr}(h:Y b):exB Y J true b:=.inl h
theorem aGl{c:EL}{e:Ag}(he:PE X e (WL X P n RT Y J 0 Z c)):PS X (.Return (some e) pos) (wS X RT Y J Z (ex P (call P n) Z (.retL c))):=by refine bK (pH he) λD ZV H t ⟨S,h⟩=>?_;have h:=OE.fromN (show OE X.K (XW X) RT Y J H (O.from Z (evl P (call P n) 0 Z c).calm λr=>jZ r.1 r.2) D from h);refine⟨S,h.mono λr W u H1 t1 q _=>?_⟩;obtain⟨cs,e0,W⟩:=tK W;refine W u H1 q.kp.kp t1 (.inr ?_);by_cases hf:r.1.fr=true;obtain⟨a,ys,es,e1,e2,e3,e4,S2,rr⟩:=q.fr hf;obtain⟨p,xs,h1,I,L,M,U⟩:=S2.lx.at' 0 cs e0;refine⟨r.1.d,cs,λb=>RT b\/b=a,p,xs,rfl,λb z=>z.imp id λz=>by rw[z];exact e3,L,M,I,U.weak λb z=>z.imp id aBv,?_⟩;rw[if_pos hf];exact⟨a,ys,es,e1,e2,λz=>S.trk a (.inr (.inr z)) e3,.inr rfl,e4,rr⟩;obtain⟨p,xs,h1,I,L,M,U⟩:=q.sx.lx.at' 0 cs e0;refine⟨r.1.d,cs,RT,p,xs,rfl,aT,L,M,I,U.weak λb z=>z.imp id aBv,?_⟩;rw[if_neg hf];exact q.rv
theorem aDt{i:Nat}{x:Str}{p:Cf}(M:Mc X P Γ n)(hx:bH Γ i x=true):PS X (.Return (some (.Name x p)) pos) (wS X RT Y J Z (ex P (call P n) Z (.retvL i))):=by refine bK (pH (dO M hx)) λD ZV H t ⟨S,h⟩=>?_;have h:OE X.K (XW X) RT Y J H (match Z[i]? with|some (.own pa ds)=>jZ ⟨.lst ds,true,pa,[]⟩ Z|_=>.bad) D:=h;split at h;rename_i pa ds e;obtain⟨cs,q,hr⟩:=tK h;obtain⟨a,ys,U,W,h3,h4,h5⟩:=S.own i pa ds e;obtain⟨p,xs,g1,g2,g3,I,L⟩:=S.lx.at' 0 cs q;exact⟨.ref a,U,λ_=>hr (.ref a) H (Kp.refl RT H) t (.inr ⟨.lst ds,cs,RT,p,xs,rfl,aT,g3,I,g2,L.weak λb z=>z.imp id aBv,by rw[if_pos rfl];exact⟨a,ys,ds,rfl,rfl,h4,h3,W,h5⟩⟩)⟩;exact h.elim
theorem aGm(M:Mc X P Γ n){o:CmpOp}{a:EL}{b:E}{x y:Ss}{W U:Ag}{xa xb:List B5}{p:Cf}(ha:PE X W (WL X P n RT Y J 0 Z a))(hb:∀Z,PE X U (WE X P n RT Y J Z b))(hp:aK U=true)(hx:∀RT Z,PSs X xa (wS X RT Y J Z (exs P (call P n) Z x)))(hy:∀RT Z,PSs X xb (wS X RT Y J Z (exs P (call P n) Z y))) :
 PS X (.If (.Compare W [o] [U] p) xa xb pos) (wS X RT Y J Z (ex P (call P n) Z (.iffL o a b x y))):=by
 refine bK (aDY (vZ (eB (RT:=RT) (Y:=Y) (J:=J) M o) ha (fD hb) (fV hp)) (fC hx) (fC hy)) λD ZV H t ⟨S,h⟩=>?_;have h:=OE.fromN (show OE X.K (XW X) RT Y J H (O.from Z (evl P (call P n) 0 Z a).calm λr=>O.from r.2 (ev P (call P n) r.2 b).calm λz=>(match bT o r.1.d z.d with
  | some k=>if k then exs P (call P n) r.2 x else exs P (call P n) r.2 y|none=>.bad)) D from h)
 refine⟨S,h.mono λr hr u H1 t1 I=>⟨r.2,I.sx,(OE.fromN hr).nx.mono λz q uz H2 t2 L=>?_⟩⟩;have S2:=I.sx.grow L.1 t2;have k2:Kp RT H H2:=I.kp.kp.trans (Kp.same L.1);split at q;rename_i k hk;refine⟨r.2,ZV,r.1.nr,z,k,(I.rv.nr).grow L.1,L.rv I.sx,hk,k,rfl,?_⟩;cases k with
 | true=>rw[if_pos rfl] at q ⊢;exact⟨RT,r.2,S2,(OE.mono k2 aT q).tkE⟩|false=>rw[if_neg bN] at q ⊢;exact⟨RT,r.2,S2,(OE.mono k2 aT q).tkE⟩
 exact q.elim
theorem aGn{t:T}{c:EL}{b:Ss}{tg e:Ag}{body:List B5}{f:Str}{p p2:Cf}(M:Mc X P Γ n)(hx:fO Γ t tg=true)(hf:f=("range" : Str))(hg:bR Γ f=true)(W:PE X e (WL X P n RT Y J 0 Z c))(I:aK e=true)(hb:∀RT Z,PSs X body (wS X RT Y J Z (exs P (call P n) Z b))) :
 PS X (.For tg (.Call (.Name f p) [e] [] p2) body [] pos) (wS X RT Y J Z (ex P (call P n) Z (.forL t c b))):=by
 subst hf;have hp:BE (Au X.prog X.w) X.A X.env X.xe:=M.own;refine bK (uO hp M.calm (jA (M.gl hg) (M.md.blt _ (by decide +kernel)) (cD W dG (aA I)) (aA I)) (tB M hx) (fC hb) (cX rfl)) λU ZV H t0 ⟨S,h⟩=>?_;have h:=OE.tkE h;revert h;generalize tkE X.K U=D;intro h;have h:=OE.fromN (show OE X.K (XW X) RT Y J H (O.from Z (evl P (call P n) 0 Z c).calm λr=>(match r.1.d with
  | .int j=>if aR j then bB (λZ x=>O.from Z (aY Z x t) λZ'=>exs P (call P n) Z' b) ((bQ 0 j).map .cl) r.2 else .bad|_=>.bad)) D from h)
 refine⟨S,h.mono λr q u H1 t1 L=>?_⟩;cases hd:r.1.d with
 | int j=>rw[hd] at q;have q:OE X.K (XW X) RT Y J H (if aR j then bB (λZ x=>O.from Z (aY Z x t) λZ'=>exs P (call P n) Z' b) ((bQ 0 j).map .cl) r.2 else .bad) D:=q;split at q;rename_i hs;have hs:=eM hs;refine⟨j,by rw[(L.rv.nr (Z:=r.2) (ZV:=ZV)).int hd],hs.1,hs.2,jL (xs:=((bQ 0 j).map .cl,[])) L.sx L.kp.kp (qF ?_) q⟩;rw[fA];simp;exact q.elim|_=>rw[hd] at q;exact q.elim
theorem aGo{t:T}{c:EL}{b:Ss}{tg e:Ag}{body:List B5}{fz:List Nat}(M:Mc X P Γ n)(hx:fO Γ t tg=true)(he:∀RT Z,PE X e (WL X P n RT Y J l Z c))(U:aK e=true)(hb:∀RT Z,PSs X body (wS X RT Y J Z (exs P (call P n) Z b))) :
 PS X (.For tg e body [] pos) (wS X RT Y J Z (ex P (call P n) Z (.forC t l fz c b))):=by
 have hp:BE (Au X.prog X.w) X.A X.env X.xe:=M.own;refine bK (uO hp M.calm (aCN (fD λRT=>fD (he RT))) (tB M hx) (fC hb) (cX U)) λD0 ZV H t0 ⟨S,h⟩=>?_;have h:=OE.tkE h;revert h;generalize tkE X.K D0=D;intro h;have h:=OE.fromN (show OE X.K (XW X) RT Y J H (O.from Z (evl P (call P n) l (freeze Z fz) c).calm λr=>(match r.1.fr,r.1.d with
  | true,.lst ds=>if noLs ds then bB (λZ x=>O.from Z (aY Z x t) λZ'=>exs P (call P n) Z' b) (items (.cl (.lst ds)) ds) r.2 else .bad|_,_=>.bad)) D from h)
 refine⟨rtF RT Z ZV fz,freeze Z fz,S.frz fz,h.mono λr q u H1 t1 I=>?_⟩;cases hf:r.1.fr with
 | false=>rw[hf] at q;exact q.elim|true=>
  obtain⟨a,xs,ds,rfl,e2,L,W,S2,rr⟩:=I.fr hf;rw[hf,e2] at q;have q:OE X.K (XW X) RT Y J H (if noLs ds then bB (λZ x=>O.from Z (aY Z x t) λZ'=>exs P (call P n) Z' b) (items (.cl (.lst ds)) ds) r.2 else .bad) D:=q;split at q;rename_i hn;have nn:¬ exV (rtF RT Z ZV fz) Y J r.2 ZV (Vl.cl (.lst ds)).pa (Vl.cl (.lst ds)).al a:=by rintro (z|z|z);exact(S.frz fz).trk a (.inl z.1) L;exact(S.frz fz).trk a (.inr (.inl z)) L;exact(S.frz fz).trk a (.inr (.inr z.2)) L
  exact⟨a,rfl,⟨xs,SqL.of W⟩,jL (xs:=(items (.cl (.lst ds)) ds,[])) I.sx I.kp.kp (xG I.sx (SqL.of W) nn (Reps.free _ _ hn rr)) (OE.mono (Kp.refl _ _) (λb z=>.inl z.1) q)⟩;exact q.elim
end
section
variable {K:Fg}
theorem mL{ds:List D}{vs:List V}{H:Hp}{Y:Addr->Prop}{m:Nat}{R0:Addr->Prop}(U:∀a,Y a->H a≠none)(t:Tk K H)(M:∀a,R0 a->∃xs,H a=some (.lst xs))(r:Reps K H (λb=>R0 b\/Y b) ds vs):Sx K R0 Y (λb=>H b≠none) ((ds.map λd=>Sl.sh true d)++Ae m Sl.dead) (vs.map some++Ae m none) H:=by
 have len:=r.length;have get:∀{i:Nat} {s:Sl},((ds.map λd=>Sl.sh true d)++Ae m Sl.dead)[i]? = some s->s=.dead\/∃d,s=.sh true d/\ds[i]? = some d:=λ{i s} e=>by by_cases hi:i<ds.length;rw[Ba (by simpa using hi),A6,Ap hi] at e;cases e;exact .inr ⟨ds[i],rfl,Ap hi⟩;rw[AN (by simpa using hi),BF] at e;split at e;cases e;exact .inl rfl;cases e
 exact {
  sh:=λi pa d e=>by
   rcases get e with z|⟨d',z,q⟩
   cases z;cases z;obtain⟨v,W,rv⟩:=r.get q;have hi:i<vs.length:=(Az.mp W).1;refine⟨v,?_,rv.weak λa z=>?_⟩;rw[Ba (by simpa using hi),A6,W];rfl;rcases z with z|z|⟨z,_⟩
   exact .inl z;exact .inr z;cases z
  own:=λi pa ds' e=>by
   rcases get e with z|⟨d',z,q⟩
   cases z;cases z
  trk:=λa z=>by rcases z with z|z|z;obtain⟨xs,e⟩:=M a z;rw[e];simp;exact U a z;exact z
  yo:=U
  tk:=t
  rt:=M
  inj:=λi j pa pa' I L a e=>by
   rcases get e with z|⟨d',z,q⟩
   cases z;cases z
  len:=by rw[lA,lA,lM,lM,AO,AO,len]
  lx:={
   at':=λi ds' e=>by
    rcases get e with z|⟨d',z,q⟩
    cases z;cases z
   inj:=λi j I L a e=>by
    rcases get e with z|⟨d',z,q⟩
    cases z;cases z
   at2:=λi ds' e=>by
    rcases get e with z|⟨d',z,q⟩
    cases z;cases z
   one:=λi j I L e=>by
    rcases get e with z|⟨d',z,q⟩
    cases z;cases z } }
end
section
variable {K:Fg} {H H':Hp}
theorem Rws.get:∀{dss:List (List D)} {bs:List Addr},Rws K H dss bs->dss.length=bs.length/\∀(k:Nat) (ds:List D) (c:Addr),dss[k]? = some ds->bs[k]? = some c->∃xs,H c=some (.lst xs)/\noLs ds=true/\Reps K H (λ_=>False) ds xs
 | [],_,h=>by rw[show _=[] from h];exact⟨rfl,λk ds c e=>by simp at e⟩|ds::dss,_,h=>by
  obtain⟨b,r,xs,rfl,L,M,U,W⟩:=h;obtain⟨g1,g2⟩:=Rws.get W;refine⟨by rw[lC,lC,g1],λk ds' c q I=>?_⟩;cases k with
  | zero=>cases q;cases I;exact⟨xs,L,M,U⟩|succ k=>exact g2 k ds' c q I
theorem Rws.of:∀{dss:List (List D)} {bs:List Addr},dss.length=bs.length->(∀(k:Nat) (ds:List D) (c:Addr),dss[k]? = some ds->bs[k]? = some c->∃xs,H c=some (.lst xs)/\noLs ds=true/\Reps K H (λ_=>False) ds xs)->Rws K H dss bs
 | [],bs,h,_=>by
  cases bs with
  | nil=>rfl|cons _ _=>cases h
 | ds::dss,bs,h,g=>by
  cases bs with
  | nil=>cases h|cons b r=>obtain⟨xs,L,M,U⟩:=g 0 ds b rfl rfl;exact⟨b,r,xs,rfl,L,M,U,Rws.of (by simpa using h) λk ds' c q I=>g (k+1) ds' c q I⟩
end
section
variable {RT Y J:Addr->Prop} {Z:Sg}
theorem Sx.put2{K:Fg}{ZV:L2.St}{H H':Hp}{N:Addr->Prop}(S:Sx K RT Y J Z ZV H){i:Nat}{dss:List (List D)}{a:Addr}{bs:List Addr}
 (u:∀j dd,Z[j]? = some (.own2 dd)->j=i) (t:Tk K H') (hN:∀b,N b->H b=none/\∃xs,H' b=some (.lst xs))
 (kp:∀b o,H b=some o->¬ Pt RT J Z ZV b->H' b=some o) (kr:∀b,Pt RT J Z ZV b->∃xs,H' b=some (.lst xs))
 (hb:∀b∈a::bs,N b\/Pt RT J Z ZV b) (nd:(a::bs).Nodup) (ha:H' a=some (.lst (bs.map V.ref))) (hr:Rws K H' dss bs) :
 Sx K (λb=>RT b\/N b) Y J (Z.set i (.own2 dss)) (ZV.set i (some (.ref a))) H':=by
 have np:∀b o,H b=some o->(∀xs,o≠.lst xs)->¬ Pt RT J Z ZV b:=λb o e n z=>by obtain⟨xs,e'⟩:=S.rt b z.1;rw[e'] at e;cases e;exact n xs rfl
 have kT:∀b ks,SqT K H b ks->SqT K H' b ks:=λb ks q=>by rcases q with(q|⟨o,q⟩)|q;exact .inl (.inl (kp _ _ q (np _ _ q λ_ e=>by cases e)));exact .inl (.inr ⟨o,kp _ _ q (np _ _ q λ_ e=>by cases e)⟩);exact .inr q
 have kL:∀b xs,¬ RT b->SqL K H b xs->¬ N b/\SqL K H' b xs:=λb xs n q=>by
  have np:¬ Pt RT J Z ZV b:=λz=>n z.1;refine⟨λz=>?_,?_⟩;obtain⟨z1,ys,z2⟩:=hN b z;rcases q with(q|⟨o,q⟩)|⟨o,q3,m,q,_⟩
  rw[z1] at q;cases q;rw[z1] at q;cases q;rw[t b (by rw[z2];simp)] at q;cases q;rcases q with(q|⟨o,q⟩)|q;exact .inl (.inl (kp _ _ q np));exact .inl (.inr ⟨o,kp _ _ q np⟩);exact .inr q
 have kD:∀b o,(∀xs,o≠.lst xs)->H b=some o->H' b=some o:=λb o nl q=>kp _ _ q (np _ _ q nl);have kX:∀(pa:Bool) b xs,¬ (RT b\/exB Y J pa b)->SqL K H b xs->¬ ((RT b\/N b)\/exB Y J pa b)/\SqL K H' b xs:=λpa b xs n q=>by obtain⟨k1,k2⟩:=kL b xs (λz=>n (.inl z)) q;refine⟨λz=>?_,k2⟩;rcases z with(z|z)|z;exact n (.inl z);exact k1 z;exact n (.inr z)
 have q0:∀b,H b≠none->H' b≠none:=λb q=>by
  by_cases hp:Pt RT J Z ZV b;obtain⟨xs,e⟩:=kr b hp;rw[e];simp;cases e:H b with
  | none=>exact absurd e q|some o=>rw[kp b o e hp];simp
 exact {
  sh:=λj pa d e=>by
   rcases set_some e with⟨_,z,_⟩|⟨I,e⟩
   cases z;obtain⟨v,L,M⟩:=S.sh j pa d e;exact⟨v,by rw[Ac I];exact L,Rep.imp kT (kX pa) kD d v M⟩
  own:=λj pa ds e=>by
   rcases set_some e with⟨_,z,_⟩|⟨I,e⟩
   cases z;obtain⟨b,xs,L,M,h3,h4,h5⟩:=S.own j pa ds e;exact⟨b,xs,by rw[Ac I];exact L,kp _ _ M λz=>z.2.2 j pa ds e L,.inl h3,h4,Reps.imp kT (kX pa) kD ds xs h5⟩
  trk:=λb z=>by rcases z with(z|z)|z;exact q0 b (S.trk b (.inl z));obtain⟨_,xs,e⟩:=hN b z;rw[e];simp;exact q0 b (S.trk b (.inr z))
  yo:=S.yo
  tk:=t
  rt:=λb z=>by rcases z with z|z;by_cases hp:Pt RT J Z ZV b;exact kr b hp;obtain⟨xs,e⟩:=S.rt b z;exact⟨xs,kp _ _ e hp⟩;exact(hN b z).2
  inj:=λj j' pa pa' ds ds' b U W e3 e4=>by
   rcases set_some U with⟨_,z,_⟩|⟨L,U⟩
   cases z;rcases set_some W with⟨_,z,_⟩|⟨M,W⟩
   cases z;rw[Ac L] at e3;rw[Ac M] at e4;exact S.inj j j' pa pa' ds ds' b U W e3 e4
  len:=by rw[Ax,Ax];exact S.len
  lx:={
   at':=λj ds e=>by
    rcases set_some e with⟨_,z,_⟩|⟨I,e⟩
    cases z;obtain⟨b,xs,L,M,h3,h4,h5⟩:=S.lx.at' j ds e;exact⟨b,xs,by rw[Ac I];exact L,kp _ _ M λz=>z.2.1 h4,.inl h3,h4,Reps.imp kT (kX true) kD ds xs h5⟩
   inj:=λj j' ds ds' b U W e3 e4=>by
    rcases set_some U with⟨_,z,_⟩|⟨L,U⟩
    cases z;rcases set_some W with⟨_,z,_⟩|⟨M,W⟩
    cases z;rw[Ac L] at e3;rw[Ac M] at e4;exact S.lx.inj j j' ds ds' b U W e3 e4
   at2:=λj dd e=>by
    rcases set_some e with⟨rfl,z,hl⟩|⟨I,e⟩
    cases z;refine⟨a,bs,As (by rw[<-S.len];exact hl),ha,λb hm=>?_,nd,hr⟩;have own:∀(p:∀(k:Nat) (pa:Bool) (ds:List D),Z[k]? = some (.own pa ds)->ZV[k]?≠some (some (.ref b))) (k:Nat) (pa:Bool) (ds:List D),(Z.set i (.own2 dss))[k]? = some (.own pa ds)->(ZV.set i (some (.ref a)))[k]?≠some (some (.ref b)):=λp k pa ds e=>by
     rcases set_some e with⟨_,z,_⟩|⟨q2,e⟩
     cases z;rw[Ac q2];exact p k pa ds e
    rcases hb b hm with z|z;have z1:=(hN b z).1;refine⟨.inr z,λo=>S.trk b (.inr (.inr o)) z1,own λk pa ds e v=>?_⟩;obtain⟨c,xs,L,M,_⟩:=S.own k pa ds e;rw[v] at L;cases L;rw[z1] at M;cases M;exact⟨.inl z.1,z.2.1,own z.2.2⟩;exact absurd (u j dd e).symm I
   one:=λj j' dd q1 U W=>by
    have k:∀j dd,(Z.set i (.own2 dss))[j]? = some (.own2 dd)->j=i:=λj dd e=>by
     rcases set_some e with⟨rfl,_,_⟩|⟨_,e⟩
     rfl;exact u j dd e
    rw[k j dd U,k j' q1 W] } }
theorem Sx.kill2{K:Fg}{ZV:L2.St}{H H':Hp}(S:Sx K RT Y J Z ZV H){i:Nat}
 (u:∀j dd,Z[j]? = some (.own2 dd)->j=i) (t:Tk K H')
 (kp:∀b o,H b=some o->¬ Pt RT J Z ZV b->H' b=some o) (kr:∀b,Pt RT J Z ZV b->∃xs,H' b=some (.lst xs)) :
 Sx K RT Y J (Z.set i .dead) ZV H':=by
 have np:∀b o,H b=some o->(∀xs,o≠.lst xs)->¬ Pt RT J Z ZV b:=λb o e n z=>by obtain⟨xs,e'⟩:=S.rt b z.1;rw[e'] at e;cases e;exact n xs rfl
 have kT:∀b ks,SqT K H b ks->SqT K H' b ks:=λb ks q=>by rcases q with(q|⟨o,q⟩)|q;exact .inl (.inl (kp _ _ q (np _ _ q λ_ e=>by cases e)));exact .inl (.inr ⟨o,kp _ _ q (np _ _ q λ_ e=>by cases e)⟩);exact .inr q
 have kL:∀b xs,¬ RT b->SqL K H b xs->SqL K H' b xs:=λb xs n q=>by have np:¬ Pt RT J Z ZV b:=λz=>n z.1;rcases q with(q|⟨o,q⟩)|q;exact .inl (.inl (kp _ _ q np));exact .inl (.inr ⟨o,kp _ _ q np⟩);exact .inr q
 have kD:∀b o,(∀xs,o≠.lst xs)->H b=some o->H' b=some o:=λb o nl q=>kp _ _ q (np _ _ q nl);have kX:∀(pa:Bool) b xs,¬ (RT b\/exB Y J pa b)->SqL K H b xs->¬ (RT b\/exB Y J pa b)/\SqL K H' b xs:=λpa b xs n q=>⟨n,kL b xs (λz=>n (.inl z)) q⟩
 have q0:∀b,H b≠none->H' b≠none:=λb q=>by
  by_cases M:Pt RT J Z ZV b;obtain⟨xs,e⟩:=kr b M;rw[e];simp;cases e:H b with
  | none=>exact absurd e q|some o=>rw[kp b o e M];simp
 have dd:∀{j:Nat} {s:Sl},(Z.set i .dead)[j]? = some s->s≠.dead->Z[j]? = some s/\i≠j:=λ{j s} e n=>by
  rcases set_some e with⟨_,z,_⟩|⟨h,e⟩
  exact absurd z.symm n;exact⟨e,h⟩
 exact {
  sh:=λj pa d e=>by obtain⟨v,I,L⟩:=S.sh j pa d (dd e (λz=>by cases z)).1;exact⟨v,I,Rep.imp kT (kX pa) kD d v L⟩
  own:=λj pa ds e=>by have e:=(dd e (λz=>by cases z)).1;obtain⟨b,xs,I,L,h3,U,h5⟩:=S.own j pa ds e;exact⟨b,xs,I,kp _ _ L λz=>z.2.2 j pa ds e I,h3,U,Reps.imp kT (kX pa) kD ds xs h5⟩
  trk:=λb z=>q0 b (S.trk b z)
  yo:=S.yo
  tk:=t
  rt:=λb z=>by by_cases M:Pt RT J Z ZV b;exact kr b M;obtain⟨xs,e⟩:=S.rt b z;exact⟨xs,kp _ _ e M⟩
  inj:=λj W pa pa' ds ds' b e1 e2=>S.inj j W pa pa' ds ds' b (dd e1 (λz=>by cases z)).1 (dd e2 (λz=>by cases z)).1
  len:=by rw[Ax];exact S.len
  lx:={
   at':=λj ds e=>by obtain⟨b,xs,I,L,h3,U,h5⟩:=S.lx.at' j ds (dd e (λz=>by cases z)).1;exact⟨b,xs,I,kp _ _ L λz=>z.2.1 U,h3,U,Reps.imp kT (kX true) kD ds xs h5⟩
   inj:=λj W ds ds' b e1 e2=>S.lx.inj j W ds ds' b (dd e1 (λz=>by cases z)).1 (dd e2 (λz=>by cases z)).1
   at2:=λj dss e=>by obtain⟨e,n⟩:=dd e (λz=>by cases z);exact absurd (u j dss e).symm n
   one:=λj W dss dss' e e'=>by
    obtain⟨e,n⟩:=dd e (λz=>by cases z);exact absurd (u j dss e).symm n } }
theorem Sx.shrink{K:Fg}{ZV:L2.St}{H:Hp}{bs:List Addr}(S:Sx K RT Y J Z ZV H)(M:∀b∈bs,Pt RT J Z ZV b)(U:∀(j:Nat) (dd:List (List D)),Z[j]?≠some (Sl.own2 dd)):Sx K (λc=>RT c/\c∉bs) Y J Z ZV H where
 sh:=λj pa d q=>by obtain⟨v,g1,g2⟩:=S.sh j pa d q;exact⟨v,g1,g2.weak λc z=>z.imp (·.1) id⟩
 own:=λj pa ds q=>by obtain⟨c,xs,g1,g2,g3,I,L⟩:=S.own j pa ds q;exact⟨c,xs,g1,g2,⟨g3,λz=>(M c z).2.2 j pa ds q g1⟩,I,L.weak λc z=>z.imp (·.1) id⟩
 trk:=λc z=>S.trk c (z.imp (·.1) id)
 yo:=S.yo
 tk:=S.tk
 rt:=λc z=>S.rt c z.1
 inj:=S.inj
 len:=S.len
 lx:={
  at':=λj ks q=>by obtain⟨c,xs,g1,g2,g3,I,L⟩:=S.lx.at' j ks q;exact⟨c,xs,g1,g2,⟨g3,λz=>(M c z).2.1 I⟩,I,L.weak λc z=>z.imp (·.1) id⟩
  inj:=S.lx.inj
  at2:=λj dd q=>absurd q (U j dd)
  one:=S.lx.one }
theorem Sx.putOw{K:Fg}{ZV:L2.St}{H:Hp}{i:Nat}{pa:Bool}{ds:List D}{a:Addr}{xs:List V}(S:Sx K RT Y J (Z.set i .dead) ZV H)(n2:∀(j:Nat) (dd:List (List D)),(Z.set i .dead)[j]?≠some (Sl.own2 dd))(hv:ZV[i]? = some (some (.ref a)))(ha:H a=some (.lst xs))(hr:RT a)(ho:¬ J a)
 (hn:∀(k:Nat) (pa:Bool) (ds:List D),(Z.set i .dead)[k]? = some (.own pa ds)->ZV[k]?≠some (some (.ref a))) (r:Reps K H (λa=>RT a\/exB Y J pa a) ds xs):Sx K RT Y J (Z.set i (.own pa ds)) ZV H:=by
 have o:∀{j:Nat} {s:Sl},(Z.set i (.own pa ds))[j]? = some s->(j=i/\s=.own pa ds)\/(Z.set i .dead)[j]? = some s:=λ{j s} q=>by
  rcases set_some q with⟨rfl,z,_⟩|⟨n,q⟩
  exact .inl ⟨rfl,z.symm⟩;exact .inr (by rw[Ac n];exact q)
 exact {
  sh:=λj pb dd q=>S.sh j pb dd ((o q).resolve_left λz=>by cases z.2)
  own:=λj pb dd q=>by rcases o q with⟨rfl,z⟩|q;cases z;exact⟨a,xs,hv,ha,hr,ho,r⟩;exact S.own j pb dd q
  trk:=S.trk
  yo:=S.yo
  tk:=S.tk
  rt:=S.rt
  inj:=λj M pa pa' ds ds' c L I U W=>by rcases o L with⟨rfl,_⟩|L;rcases o I with⟨rfl,_⟩|I;rfl;rw[hv] at U;cases U;exact absurd W (hn _ _ _ I);rcases o I with⟨rfl,_⟩|I;rw[hv] at W;cases W;exact absurd U (hn _ _ _ L);exact S.inj j M pa pa' ds ds' c L I U W
  len:=by have:=S.len;rw[Ax] at this ⊢;exact this
  lx:={
   at':=λj ks q=>S.lx.at' j ks ((o q).resolve_left λz=>by cases z.2)
   inj:=λj M ks q0 c L I=>S.lx.inj j M ks q0 c ((o L).resolve_left λz=>by cases z.2) ((o I).resolve_left λz=>by cases z.2)
   at2:=λj dd q=>absurd ((o q).resolve_left λz=>by cases z.2) (n2 j dd)
   one:=λj M dd q3 q _=>absurd ((o q).resolve_left λz=>by cases z.2) (n2 j dd) } }
theorem Sx.thaw{K:Fg}{ZV:L2.St}{H H':Hp}(S:Sx K RT Y J Z ZV H){i:Nat}{dss:List (List D)}{a:Addr}{bs:List Addr}{pa:Bool}{ds:List D}(e:Z[i]? = some (.own2 dss))(U:ZV[i]? = some (some (.ref a)))(W:H a=some (.lst (bs.map V.ref)))(I:∀b∈a::bs,Pt RT J Z ZV b)(nd:(a::bs).Nodup)(t:Tk K H')
 (kp:∀b o,H b=some o->b∉bs->H' b=some o) (kr:∀b∈bs,∃xs,H' b=some (.lst xs)) (r:Reps K H' (λb=>(RT b/\b∉bs)\/exB Y J pa b) ds (bs.map V.ref)):Sx K (λc=>RT c/\c∉bs) Y J (Z.set i (.own pa ds)) ZV H':=by
 have u:∀j dd,Z[j]? = some (.own2 dd)->j=i:=λj dd q=>S.lx.one j i dd dss q e;have S1:=S.kill2 (i:=i) (H':=H') u t (λb o q n=>by
  by_cases hb:b∈bs;exact absurd (I b (Af _ hb)) n;exact kp b o q hb) (λb z=>by
  by_cases hb:b∈bs;exact kr b hb;obtain⟨xs,q⟩:=S.rt b z.1;exact⟨xs,kp b _ q hb⟩)
 have M:∀(j:Nat) (dd:List (List D)),(Z.set i .dead)[j]?≠some (Sl.own2 dd):=λj dd q=>by
  rcases set_some q with⟨_,z,_⟩|⟨n,q⟩
  cases z;exact n (u j dd q).symm
 have pt:∀b∈a::bs,Pt RT J (Z.set i .dead) ZV b:=λb hb=>⟨(I b hb).1,(I b hb).2.1,λk pa ds q=>by
  rcases set_some q with⟨_,z,_⟩|⟨n,q⟩
  cases z;exact(I b hb).2.2 k pa ds q⟩
 have L:a∉bs:=(Bd.mp nd).1;exact(S1.shrink (bs:=bs) (λb hb=>pt b (Af _ hb)) M).putOw M U (kp _ _ W L) ⟨(I a Aj).1,L⟩ (I a Aj).2.1 (pt a Aj).2.2 r
end
section
variable {X:Cx} {P:Pg} {Γ:Ct} {n:Nat} {RT Y J:Addr->Prop} {Z:Sg} {pos:Cf}
theorem tL:∀{ds:List D} {dss:List (List D)},fN ds=some dss->ds=dss.map .lst/\∀es∈dss,noLs es=true
 | [],_,h=>by cases h;exact⟨rfl,λ_ z=>by cases z⟩|d::ds,_,h=>by
  unfold fN at h;split at h;rename_i e;cases e;rename_i es r e;cases e;split at h;rename_i U;cases q:fN ds with
  | none=>rw[q] at h;cases h|some dss=>rw[q] at h;cases h;obtain⟨L,M⟩:=tL q;refine⟨by rw[L];rfl,λx I=>?_⟩;rcases A8.mp I with rfl|I;exact U;exact M x I
  cases h;cases h
theorem aGp{i y:Nat}{x:Str}{p q8:Cf}(M:Mc X P Γ n)(hx:aS Γ i x=true){e tg q5:Ag}{w4:List Ag}{scope:Ck}{N':List Str}(CS:bX X scope 1 [] N')
 (hi:PI X tg q5 (wI X P n RT Y J Z (.seq (.v y))))
 (w6:∀C s₀ H₀ ex,PG (bI X scope N' C s₀ H₀ ex) tg (gT X.K (.n 0))/\(∀RT Y J Z1,PTs (bI X scope N' C s₀ H₀ ex) w4 (tE X.K P n RT Y J Z1 .nil))/\∀pl E W,BE (Au X.prog X.w) X.A (bI X scope N' C s₀ H₀ ex).env E->Rs ((bI X scope N' C s₀ H₀ ex).inTry pl E) W->∀RT Y J Z1,PE ((bI X scope N' C s₀ H₀ ex).inTry pl E) e (wE0 X.K P n W RT Y J Z1 (.bi .list (.cons (.v 0) .nil))))
 (hs:∀x,Bx q5 X.env x=pure x):PS X (.Assign [.Name x p] (.ListComp e [⟨tg,q5,w4,0⟩] scope q8) pos) (wS X RT Y J Z (ex P (call P n) Z (.set2 i y))):=by
 unfold aS at hx;obtain⟨h1,h2,h3⟩:=cK hx;refine bK (lW (g:=gT X.K (.n 0)) (tt:=λZV H Q=>∃RT Y J Z1,tE X.K P n RT Y J Z1 .nil ZV H Q) (te:=λW ZV H Q=>∃RT Y J Z1,wE0 X.K P n W RT Y J Z1 (.bi .list (.cons (.v 0) .nil)) ZV H Q) (WX:=λ_ _ _=>False) CS M.calm hi (λC s₀ H₀ ex=>?_) (λ_ _ _ z=>z.elim) hs M.nd (by rw[M.N];exact eq_of_beq h1) (M.loc h2) (M.st x h2)) λD0 ZV H t0 ⟨S,h⟩=>?_;obtain⟨h1,h2,h3⟩:=w6 C s₀ H₀ ex;exact⟨h1,λG s ZV H Q I ⟨RT,Y,J,Z1,hw⟩=>h2 RT Y J Z1 G s ZV H Q I hw,λpl E W own rs G s ZV H Q I ⟨RT,Y,J,Z1,hw⟩=>h3 pl E W own rs RT Y J Z1 G s ZV H Q I hw⟩;have h:=OE.fromc (show OE X.K (XW X) RT Y J H (O.from Z (bJ Z y) λv=>match v.d with
  | .lst ds=>(match fN ds,aCZ Z with
   | some dss,true=>if ds.length<=lim then .next (Z.set i (.own2 dss)) else .bad|_,_=>.bad)
  | _=>.bad) D0 from h) λz e=>by unfold bJ at e;split at e;rename_i s _;cases s <;> cases e;cases e
 obtain⟨v,ev,h⟩:=h;cases hd:v.d with
 | lst ds=>
  rw[hd] at h;have h:OE X.K (XW X) RT Y J H (match fN ds,aCZ Z with
   | some dss,true=>if ds.length<=lim then .next (Z.set i (.own2 dss)) else .bad|_,_=>.bad) D0:=h
  cases hr:fN ds with
  | none=>rw[hr] at h;exact h.elim|some dss=>
   rw[hr] at h;cases hn:aCZ Z with
   | false=>rw[hn] at h;exact h.elim|true=>
    rw[hn] at h;have h:OE X.K (XW X) RT Y J H (if ds.length<=lim then .next (Z.set i (.own2 dss)) else .bad) D0:=h;split at h;rename_i z6;obtain⟨rd,rn⟩:=tL hr;have z4:∀j dd,Z[j]? = some (.own2 dd)->j=i:=λj dd ej=>by have:=AS.mp hn _ (mG ej);cases this
    have hw:RE NX (walk P (call P n) Z (.seq (.v y))) λxs=>xs=(items v ds,v.al):=by
     show RE NX (bJ Z y >>= λx=>(match x.d with
      | .lst ds=>R.ok (items x ds,x.al)|.tup ds=>R.ok (items x ds,x.al)|.str a=>R.iff (decide (a.length<=lim)) (R.ok (a.cps.toList.map λn=>Vl.cl (.str ⟨#[n]⟩),[]))|_=>.bad)) _
     rw[ev];show RE NX (match v.d with
      | .lst ds=>R.ok (items v ds,v.al)|.tup ds=>R.ok (items v ds,v.al)|.str a=>R.iff (decide (a.length<=lim)) (R.ok (a.cps.toList.map λn=>Vl.cl (.str ⟨#[n]⟩),[]))|_=>.bad) _
     rw[hd];rfl
    refine⟨S,hw.nx.mono λxs hx J0 H1 t1 s1 ok=>?_⟩;subst hx;have q6:(items v ds).length=dss.length:=by rw[rd];simp[items]
    have lend:ds.length=dss.length:=by rw[rd];simp
    refine⟨λk m ys L Hc=>m=dss.length-k/\k<=dss.length/\aG H1 Hc/\Tk X.K Hc/\L.length=1/\∃bs,ys=bs.map V.ref/\bs.Nodup/\(∀b∈bs,H1 b=none)/\Rws X.K Hc (dss.take k) bs,⟨_,rfl,Cm _,aG.refl _,t1,rfl,[],rfl,List.nodup_nil,λ_ z=>(by cases z),rfl⟩,?_⟩;rintro k m ys L Hc ⟨hm,hk,sc,tc,w3,bs,rfl,nd,q4,U⟩;have q7:=ok.ok (λ_=>False) (λ_ z=>z.elim) k Hc (Kp.same sc);obtain⟨rl,rg⟩:=U.get;rw[Bv] at rl;by_cases q0:k<dss.length;refine .inr ⟨q7.1 (by rw[q6];exact q0),by rw[lM,AW];have:lim=1000000:=rfl;omega,λu H' hy=>?_⟩;have w7:ds[k]? = some (.lst dss[k]):=by rw[rd,A6,Ap q0];rfl
    obtain⟨sm,z5,rv⟩:=q7.2.2 u H' hy (v.sub (.lst dss[k])) (by unfold items;rw[A6,w7];rfl);have rv:Rep X.K H' (λ_=>False) (.lst dss[k]) u:=by
     have e:(v.sub (.lst dss[k])).d=.lst dss[k]:=by unfold Vl.sub Vl.cl;split <;> rfl
     rw[e] at rv;exact rv.weak λ_ z=>z.elim
    have t2:=z5 tc;have es:L.set 0 (some u)=[some u]:=by
     cases L with
     | nil=>cases w3|cons a r=>cases r with|nil=>rfl|cons _ _=>cases w3
    have z2:∀Q:L2.St->Hp->Prop,Q [some u] H'->gT X.K (.n 0) u L H' Q:=λQ q=>by show Q (L.set 0 (some u)) H';rw[es];exact q
    refine z2 _ ?_;have Sc:∀{H3:Hp},aG H' H3->Tk X.K H3->Sx X.K (λ_=>False) (λ_=>False) (λb=>H3 b≠none) [.sh true (.lst dss[k])] [some u] H3:=λ{H3} s3 t3=>mL (ds:=[.lst dss[k]]) (vs:=[u]) (m:=0) (R0:=λ_=>False) (Y:=λ_=>False) (λ_ z=>z.elim) t3 (λ_ z=>z.elim) ⟨u,[],rfl,(rv.grow s3).weak λ_ z=>z.elim id id,rfl⟩;refine⟨_,_,_,_,Sc (aG.refl _) t2,λH3 t3 s3=>?_⟩;dsimp only;rw[if_pos rfl];have nk:noLs dss[k]=true:=rn _ (Bl q0);refine⟨_,_,_,_,Sc s3 t3,?_⟩;show RE _ (R.ok (Vl.mk (.lst dss[k]) true ((true&&!noL (.lst dss[k]))&&!noLs dss[k]) (if noLs dss[k] then [] else []))) _;intro u4 H4 t4 w5;have hf:=w5.2;rw[if_pos rfl] at hf;obtain⟨c,zs,z7,e1,e2,e3,e4,rr⟩:=hf;cases e2;subst e1;have s4:aG Hc H4:=sm.trans (s3.trans w5.1);have q9:Hc c=none:=sm.free (s3.free e3);refine⟨_,by omega,rfl,q0,sc.trans s4,t4,rfl,bs++[c],by simp,?_,?_,?_⟩;rw[List.nodup_append];refine⟨nd,by simp,λa ha b hb=>?_⟩;have:b=c:=by simpa using hb
    subst this;intro z;subst z;obtain⟨xs,q⟩:=U.lst a ha;rw[q9] at q;cases q;intro b hb;rcases Bc.mp hb with z|z;exact q4 b z;have:b=c:=by simpa using z
    rw[this];exact sc.free q9;refine Rws.of (by rw[Bv,lA,AX];omega) λj es b g1 g2=>?_;by_cases hj:j<bs.length;rw[Ba hj] at g2;rw[D1,if_pos (by omega)] at g1;obtain⟨xs,q1,q2,q3⟩:=rg j es b (by rw[D1,if_pos (by omega)];exact g1) g2;exact⟨xs,s4 _ _ q1,q2,q3.grow s4⟩;rw[AN (by omega)] at g2;have w8:j-bs.length=0:=by have:=(Az.mp g2).1;simp at this;omega
    rw[w8] at g2;cases g2;have w9:j=k:=by omega
    subst w9;rw[D1,if_pos (Bk j),Ap q0] at g1;cases g1;exact⟨zs,e4,nk,rr.weak λ_ z=>z.elim⟩;have z0:k=dss.length:=by omega
    subst z0;rw[DL] at U rg;refine .inl ⟨q7.2.1 (by rw[q6];exact An _),by rw[lM,AW];have:lim=1000000:=rfl;omega,λa ha=>?_⟩;intro t';have s2:aG H Hc:=s1.trans sc;have z1:∀d,d≠a->upd Hc a (.lst (bs.map V.ref)) d=Hc d:=λd z=>aJ z;have z3:∀d∈bs,d≠a:=λd hd z=>by obtain⟨xs,q⟩:=U.lst d hd;rw[z,ha] at q;cases q
    have s3:aG Hc (upd Hc a (.lst (bs.map V.ref))):=λd o eo=>by rw[z1 d (λz=>by rw[z,ha] at eo;cases eo)];exact eo
    have S2:=S.put2 (N:=λd=>d=a\/d∈bs) (i:=i) (dss:=dss) (a:=a) (bs:=bs) z4 t' (λd z=>by
     rcases z with z|z;subst z;exact⟨s2.free ha,_,aO⟩;obtain⟨xs,q⟩:=U.lst d z;exact⟨s1.free (q4 d z),xs,s3 _ _ q⟩) (λd o eo _=>s3 _ _ (s2 _ _ eo)) (λd z=>by
     obtain⟨xs,q⟩:=S.rt d z.1;exact⟨xs,s3 _ _ (s2 _ _ q)⟩) (λd hd=>.inl ((A8.mp hd).imp id id)) (Bd.mpr ⟨λhm=>z3 a hm rfl,nd⟩) aO (U.imp (λ_ _ q=>aG.seqT s3 q) λd _ xs q=>s3 _ _ q)
    refine h _ _ _ (Kp.same (s2.trans s3)) (λd z=>z.imp id λz=>?_) S2;rcases z with z|z;rw[z];exact s2.free ha;exact s1.free (q4 d z);exact h.elim
 | _=>rw[hd] at h;exact h.elim
theorem Rws.reps_set{K:Fg}{H H':Hp}{ex:Addr->Prop}{c:Addr}{W:List V}{es:List D}(I:∀b o,H b=some o->b≠c->H' b=some o)(L:H' c=some (.lst W))(he:Reps K H' ex es W)(hl:∃xs,H c=some (.lst xs)):∀{dss:List (List D)} {bs:List Addr} {k:Nat},Rws K H dss bs->bs.Nodup->bs[k]? = some c->(∀b∈bs,¬ ex b)->Reps K H' ex ((dss.map D.lst).set k (.lst es)) (bs.map V.ref)
 | [],bs,k,h,_,e,_=>by rw[show bs=[] from h] at e;cases e|ds::dss,_,k,h,nd,e,n=>by
  obtain⟨b,r,xs,rfl,h1,h2,h3,h4⟩:=h;obtain⟨nb,nr⟩:=Bd.mp nd;have kT:∀b ks,SqT K H b ks->SqT K H' b ks:=λb ks q=>by
   have ne:∀o,H b=some o->(∀xs,o≠.lst xs)->b≠c:=λo e n z=>by obtain⟨xs,q⟩:=hl;rw[z,q] at e;cases e;exact n xs rfl
   rcases q with(q|⟨o,q⟩)|q;exact .inl (.inl (I _ _ q (ne _ q λ_ e=>by cases e)));exact .inl (.inr ⟨o,I _ _ q (ne _ q λ_ e=>by cases e)⟩);exact .inr q
  have sq:∀b,(∃xs,H b=some (.lst xs))->b≠c->H' b=H b:=λb ⟨xs,q⟩ n=>by rw[I b _ q n,q]
  cases k with
  | zero=>cases e;refine⟨.ref c,r.map V.ref,rfl,⟨c,W,rfl,SqL.of L,n c Aj,he⟩,?_⟩;have M:Rws K H' dss r:=h4.imp kT λb hb xs q=>I b _ q λz=>nb (by rw[<-z];exact hb);exact M.reps λb hb=>n b (Af _ hb)|succ k=>have e:r[k]? = some c:=e;have U:b≠c:=λz=>nb (by rw[z];exact mG e);exact⟨.ref b,r.map V.ref,rfl,⟨b,xs,rfl,SqL.of (I b _ h1 U),n b Aj,Reps.free _ _ h2 (Reps.noT kT ds xs h2 h3)⟩,Rws.reps_set I L he hl h4 nr e λc hc=>n c (Af _ hc)⟩
theorem aGq{i:Nat}{ss:Ss}{xs:List B5}(hs:∀RT Z,PSs X xs (wS X RT Y J Z (exs P (call P n) Z ss))):PSs X xs (wS X RT Y J Z (exs P (call P n) Z (.cons (.thaw i) ss))):=by
 refine eC (fC hs) λD ZV H t ⟨S,h⟩=>?_;have h:OE X.K (XW X) RT Y J H (O.on (match Z[i]? with|some (.own2 dss)=>O.next (Z.set i (.own false (dss.map .lst)))|_=>.bad) λZ'=>exs P (call P n) Z' ss) D:=h;split at h;rename_i dss e;have h:OE X.K (XW X) RT Y J H (exs P (call P n) (Z.set i (.own false (dss.map .lst))) ss) D:=h;obtain⟨a,bs,M,U,I,W,L⟩:=S.lx.at2 i dss e;have out:∀b∈bs,¬ ((RT b/\b∉bs)\/exB Y J false b):=λb hb z=>by have p:=I b (Af _ hb);rcases z with z|z|z;exact z.2 hb;exact p.2.1 (S.yo b z);exact p.2.1 z.2
 exact⟨_,_,S.thaw e M U I W t (λ_ _ q _=>q) (λb hb=>L.lst b hb) (L.reps out),(OE.mono (Kp.refl RT H) (λb z=>.inl z.1) h).tkE⟩;exact h.elim
theorem aIZ{i:Nat}{ck cj c:E}{x:Str}{p p1 p2:Cf}{ix jx v:Ag}(M:Mc X P Γ n)(hx:bH Γ i x=true)(hk:PE X ix (WE X P n RT Y J Z ck))(hj:PE X jx (WE X P n RT Y J Z cj))(he:PE X v (WE X P n RT Y J Z c))(w5:aK ix=true)(w4:aK jx=true) :
 PS X (.Assign [.Subscript (.Subscript (.Name x p) ix p1) jx p2] v pos) (wS X RT Y J Z (ex P (call P n) Z (.ixF i ck cj c))):=by
 refine bK (pI he (uK (rT lQ (dO M hx) hk (dU w5)) hj lR (by intro _;cases jx <;> first|rfl|cases w4)) (by cases v <;> rfl) (by cases v <;> rfl)) λD ZV H t ⟨S,h⟩=>?_;have h:=OE.from S (show OE X.K (XW X) RT Y J H (O.from Z (ev P (call P n) Z c) λv=>O.from Z (ev P (call P n) Z ck).calm λkv=>O.from Z (ev P (call P n) Z cj).calm λjv=>(match Z[i]?,kv.d,jv.d with
  | some (.own2 dss),.int k,.int j=>(match ixN dss.length k with
   | some k=>(match dss[k]? with
    | some ds=>(match ixN ds.length j with
     | some j=>if v.al=[]/\v.fr=false then .next (Z.set i (.own v.pa ((dss.map Hp.D.lst).set k (.lst (ds.set j v.d))))) else .bad|none=>.bad)
    | none=>.bad)
   | none=>.bad)
  | _,_,_=>.bad)) D from h)
 refine wE.one S h λv u H1 L t1 S1 r1=>?_;obtain⟨kv,ek,L⟩:=RE.calmEq (OE.from S L);obtain⟨jv,ej,L⟩:=RE.calmEq (OE.from S L);split at L;rename_i dss k j e1 e2 e3;split at L;rename_i I q9;split at L;rename_i ds q5;split at L;rename_i j' q8;split at L;rename_i w6;obtain⟨a,bs,h1,h2,h3,h4,h5⟩:=S.lx.at2 i dss e1;obtain⟨q0,q6⟩:=h5.get;have w3:I<bs.length:=by rw[<-q0];exact(Az.mp q5).1
 have hc:bs[I]? = some bs[I]:=Ap w3;obtain⟨U,q2,q3,q7⟩:=q6 I ds _ q5 hc;refine⟨.ref a,h1,S1,?_⟩;rw[ek];intro uk H2 t2 r2;have s2:=r1.1.trans r2.1;refine .inl ⟨a,bs.map V.ref,k,.ref bs[I],rfl,(r2.rv S1).int e2,SqL.of (s2 _ _ h2),?_,S1.grow r2.1 t2,?_⟩;unfold atI;rw[lM,<-q0,<-eW,q9];show(bs.map V.ref)[I]? = _;rw[A6,hc];rfl;rw[ej];intro uj W t3 r3;have s3:=s2.trans r3.1;have q1:bs[I]∈bs:=mG hc;refine⟨bs[I],U,j,j',rfl,(r3.rv (S1.grow r2.1 t2)).int e3,s3 _ _ q2,by rw[<-q7.length,<-eW];exact q8,λt4=>?_⟩;have hR:∀b∈bs,Pt RT J Z ZV b:=λb hb=>h3 b (Af _ hb);have lc:∀b o,W b=some o->b≠bs[I]->(upd W bs[I] (.lst (U.set j' u))) b=some o:=λb o q n=>by rw[aJ n];exact q
 have nl:∀b o,W b=some o->(∀zs,o≠.lst zs)->b≠bs[I]:=λb o q n z=>by rw[z,s3 _ _ q2] at q;cases q;exact n U rfl
 have kT:∀b ks,SqT X.K W b ks->SqT X.K (upd W bs[I] (.lst (U.set j' u))) b ks:=λb ks q=>by rcases q with(q|⟨o,q⟩)|q;exact .inl (.inl (lc _ _ q (nl _ _ q λ_ e=>by cases e)));exact .inl (.inr ⟨o,lc _ _ q (nl _ _ q λ_ e=>by cases e)⟩);exact .inr q
 have rv:=r1.rv S;unfold Rv at rv;rw[w6.1] at rv;have w7:=rv.grow (r2.1.trans r3.1);have w8:Rep X.K (upd W bs[I] (.lst (U.set j' u))) (λb=>(RT b/\b∉bs)\/exB Y J v.pa b) v.d u:=Rep.imp kT (λb xs ne q=>by
  have nb:b≠bs[I]:=λz=>ne (.inl ⟨by rw[z];exact(hR _ q1).1,λ⟨_,w,_⟩=>by cases w⟩);refine⟨λz=>ne (z.imp (λz=>⟨z.1,λ⟨_,w,_⟩=>by cases w⟩) id),?_⟩;rcases q with(q|⟨o,q⟩)|q;exact .inl (.inl (lc _ _ q nb));exact .inl (.inr ⟨o,lc _ _ q nb⟩);exact .inr q) (λb o n q=>lc b o q (nl b o q n)) v.d u w7
 have ry:Reps X.K (upd W bs[I] (.lst (U.set j' u))) (λb=>(RT b/\b∉bs)\/exB Y J v.pa b) ds U:=Reps.free _ _ q3 (Reps.noT kT ds U q3 (Reps.noT (λ_ _ q=>aG.seqT s3 q) ds U q3 q7));have q4:Rws X.K W dss bs:=h5.imp (λ_ _ q=>aG.seqT s3 q) λb hb xs q=>s3 _ _ q;have out:∀b∈bs,¬ ((RT b/\b∉bs)\/exB Y J v.pa b):=λb hb z=>by rcases z with z|z|z;exact z.2 hb;exact(hR b hb).2.1 (S.yo b z);exact(hR b hb).2.1 z.2
 have r:=Rws.reps_set (H':=upd W bs[I] (.lst (U.set j' u))) lc aO (ry.set j' w8) ⟨U,s3 _ _ q2⟩ q4 (Bd.mp h4).2 hc out;have S4:=(S.grow s3 t3).thaw e1 h1 (s3 _ _ h2) h3 h4 t4 (λb o q n=>lc b o q λz=>n (by rw[z];exact q1)) (λb hb=>by
  by_cases z:b=bs[I];rw[z];exact⟨_,aO⟩;obtain⟨xs,q⟩:=q4.lst b hb;exact⟨xs,lc _ _ q z⟩) r
 exact(show cO X.K RT Y J H (Z.set i (.own v.pa ((dss.map Hp.D.lst).set I (.lst (ds.set j' v.d))))) D.nx from L) _ _ _ (λb o q n=>lc b o (s3 _ _ q) λz=>n (by rw[z];exact(hR _ q1).1)) (λb z=>.inl z.1) S4;exact L.elim;exact L.elim;exact L.elim;exact L.elim;exact L.elim
end
section
variable {P:Pg} {n:Nat} {Y J:Addr->Prop}
theorem aBw{Γ:Ct}{is:List Nat}{tg:Ag}(h:fO Γ (.t is) tg=true):∃es k p,tg=.Tuple es k p:=by
 cases tg with
 | Tuple es k p=>exact⟨es,k,p,rfl⟩|_=>cases h
theorem aAd{Γ:Ct}{i:Nat}{tg:Ag}(h:fO Γ (.n i) tg=true):∃x p,tg=.Name x p/\aS Γ i x=true:=by
 cases tg with
 | Name x p=>exact⟨x,p,rfl,h⟩|_=>cases h
theorem aAe{c:E}(q:isC c=true):∃k caps t it cond elt,c=.comp k caps t it cond elt:=by cases c <;> first|exact⟨_,_,_,_,_,_,rfl⟩|cases q
theorem m1{Γ:Ct}{i:Nat}{m:Str}{c:Ag}{f:Ag->Bool}(h:(match sA Γ i m c with|some [a]=>f a|_=>false)=true):∃a,sA Γ i m c=some [a]/\f a=true:=by split at h;rename_i a q;exact⟨a,q,h⟩;cases h
abbrev QS(P:Pg)(n:Nat)(Y J:Addr->Prop)(c:S):Prop:=∀{X:Cx} {Γ:Ct},Mc X P Γ n->∀{st:B5},cW Γ c st=true->∀(RT:Addr->Prop) (Z:Sg),PS X st (wS X RT Y J Z (ex P (call P n) Z c))
abbrev QSs(P:Pg)(n:Nat)(Y J:Addr->Prop)(c:Ss):Prop:=∀{X:Cx} {Γ:Ct},Mc X P Γ n->∀{st:List B5},chkSs Γ c st=true->∀(RT:Addr->Prop) (Z:Sg),PSs X st (wS X RT Y J Z (exs P (call P n) Z c))
theorem aJa{t:T}{e:E}:QS P n Y J (.set t e):=λ{X Γ} M {st} h RT Z=>by
 unfold cW at h;obtain⟨⟨tg,v⟩,⟨p,rfl⟩,g⟩:=aC h;clear h;obtain⟨h1,h2,h3,h4⟩:=aAb g;clear g;have h5:fP v=isC e:=eq_of_beq h4;clear h4;cases t with
 | n i=>
  obtain⟨x,p,q,hx⟩:=aAd h1;have q:tg=.Name x p:=q;subst q;cases hc:fP v with
  | false=>exact aGb M hx (sE e M h2 RT Y J Z) hc|true=>obtain⟨k,caps,t,it,cond,elt,rfl⟩:=aAe (h5.symm.trans hc);obtain⟨el,tg,L,q0,scope,I,e2,O,cm,g1,g2,g3,g4,g5⟩:=qK h2;have e2:v=.ListComp el [⟨tg,L,q0,0⟩] scope I:=e2;subst e2;refine aAc M hx (O.scope M) O.ndc O.tk cm (sI it M g3 RT Y J Z) (λC s₀ H₀ ex=>?_) (cX (fB g3));have U:=O.mc M C s₀ H₀ ex;exact⟨tB U g2,λRT Y J Z1=>qH (sTs cond U g1 g4 RT Y J Z1),λpl E W own rs RT Y J Z1=>vF rs (sE elt (U.inTry own) g5 RT Y J Z1)⟩
 | t is=>obtain⟨es,k,p,q⟩:=aBw h1;have q:tg=.Tuple es k p:=q;subst q;refine aGc M h1 (sE e M h2 RT Y J Z) ?_;have:(false||!uX v)=true:=h3;simpa using this
theorem aJb{i j:Nat}:QS P n Y J (.mov i j):=λ{X Γ} M {st} h RT Z=>by unfold cW at h;obtain⟨⟨tg,v⟩,⟨p,rfl⟩,g⟩:=aC h;clear h;obtain⟨x,⟨W,q⟩,g⟩:=aC g;obtain⟨y,⟨p2,I⟩,g⟩:=aC g;have q:tg=.Name x W:=q;have I:v=.Name y p2:=I;subst q I;obtain⟨L,U⟩:=cA g;exact aIQ M L U
theorem aDu{i:Nat}{k e:E}:QS P n Y J (.setIx i k e):=λ{X Γ} M {st} h RT Z=>by unfold cW at h;obtain⟨⟨tg,v⟩,⟨p,rfl⟩,g⟩:=aC h;clear h;obtain⟨⟨o,ix⟩,⟨p1,q⟩,g⟩:=aC g;obtain⟨x,⟨p2,I⟩,g⟩:=aC g;have q:tg=.Subscript o ix p1:=q;have I:o=.Name x p2:=I;subst q I;obtain⟨U,L,W⟩:=cK g;exact aDq M U (sE k M L RT Y J Z) (sE e M W RT Y J Z) (aH L)
theorem aJc{i:Nat}{e:E}:QS P n Y J (.app i e):=λ{X Γ} M {st} h RT Z=>by unfold cW at h;obtain⟨c,⟨p,rfl⟩,g⟩:=aC h;obtain⟨a,I,q⟩:=m1 (f:=λa=>aM Γ e a) g;exact aIP M I (sE e M q RT Y J Z) (aH q)
theorem aJd{e:E}:QS P n Y J (.ret e):=λ{X Γ} M {st} h RT Z=>by unfold cW at h;obtain⟨r,⟨p,rfl⟩,g⟩:=aC h;clear h;obtain⟨v,q,g⟩:=sN g;subst q;exact aIO (sE e M g RT Y J Z)
theorem aGr{i:Nat}:QS P n Y J (.retv i):=λ{X Γ} M {st} h RT Z=>by unfold cW at h;obtain⟨r,⟨p,rfl⟩,g⟩:=aC h;clear h;obtain⟨v,I,g⟩:=sN g;subst I;obtain⟨x,⟨L,q⟩,g⟩:=aC g;have q:v=.Name x L:=q;subst q;exact aGa M g
theorem aJe{c:E}{a b:Ss}(U:QSs P n Y J a)(hb:QSs P n Y J b):QS P n Y J (.iff c a b):=λ{X Γ} M {st} h RT Z=>by unfold cW at h;obtain⟨⟨t,x,y⟩,⟨p,rfl⟩,g⟩:=aC h;obtain⟨q,I,L⟩:=cK g;exact aKL (sT c M q RT Y J Z) (U M I) (hb M L)
theorem aJf{t:T}{it:Hp.It}{b:Ss}(hb:QSs P n Y J b):QS P n Y J (.for t it b):=λ{X Γ} M {st} h RT Z=>by unfold cW at h;obtain⟨⟨tg,I,body⟩,⟨p,rfl⟩,g⟩:=aC h;obtain⟨L,q,U⟩:=cK g;exact aIR M L (sI it M q RT Y J Z) (hb M U) (cX (fB q))
theorem aKN{e:E}:QS P n Y J (.ex e):=λ{X Γ} M {st} h RT Z=>by unfold cW at h;obtain⟨v,⟨p,rfl⟩,g⟩:=aC h;obtain⟨q,I⟩:=cA g;exact aKK (sE e M q RT Y J Z) (by simpa using I)
theorem aJg{c:Str}{k:Bool}{e:E}:QS P n Y J (.rse c k (.cons e .nil)):=λ{X Γ} M {st} h RT Z=>by unfold cW at h;obtain⟨⟨x,a⟩,⟨np,U,p,rfl⟩,g⟩:=aC h;simp only[bA] at g;obtain⟨⟨⟨⟨g1,g2⟩,g3⟩,L⟩,q⟩:=g;have I:x=c:=eq_of_beq g1;subst I;exact aIN M g2 g3 (by simpa using L) (sE e M q RT Y J Z) (aH q)
theorem aJh{b:Ss}{c:Str}{i j:Nat}(hb:QSs P n Y J b):QS P n Y J (.tryAs b c i j):=λ{X Γ} M {st} h RT Z=>by unfold cW at h;obtain⟨⟨body,x,nm,y⟩,⟨np,yp,q0,ap,hp,p,rfl⟩,g⟩:=aC h;simp only[bA] at g;obtain⟨⟨⟨⟨⟨⟨⟨⟨⟨⟨⟨g1,g2⟩,g3⟩,g4⟩,g5⟩,g6⟩,g7⟩,g8⟩,g9⟩,q⟩,I⟩,L⟩:=g;have W:x=c:=eq_of_beq g1;subst W;exact aIS M g2 g3 (by simpa using g4) (by simpa using g5) g6 g7 (eq_of_beq g8) (by simpa using q) I λU RT Z=>hb U L RT Z
theorem aJi{i:Nat}{k j e:E}:QS P n Y J (.ixF i k j e):=λ{X Γ} M {st} h RT Z=>by unfold cW at h;obtain⟨⟨tg,v⟩,⟨p,rfl⟩,g⟩:=aC h;obtain⟨⟨u,W⟩,⟨p2,L⟩,g⟩:=aC g;obtain⟨⟨w,ix⟩,⟨p1,I⟩,g⟩:=aC g;obtain⟨x,⟨p0,q⟩,g⟩:=aC g;have L:tg=.Subscript u W p2:=L;have I:u=.Subscript w ix p1:=I;have q:w=.Name x p0:=q;subst L I q;obtain⟨g,U⟩:=cA g;obtain⟨g1,g2,g3⟩:=cK g;exact aIZ M g1 (sE k M g2 RT Y J Z) (sE j M g3 RT Y J Z) (sE e M U RT Y J Z) (aH g2) (aH g3)
theorem aGs{b:Ss}{cs:List Str}{c:Str}{e:E}(hb:QSs P n Y J b):QS P n Y J (.tryR b cs c e):=λ{X Γ} M {st} h RT Z=>by unfold cW at h;obtain⟨⟨body,xA,xB,xc,txt⟩,⟨pA,pB,cx,tp,np,tj,L,I,cj,cp,rp,hp,p,rfl⟩,g⟩:=aC h;simp only[bA] at g;obtain⟨⟨⟨⟨⟨⟨⟨⟨⟨g1,g2⟩,g3⟩,g4⟩,g5⟩,g6⟩,g7⟩,_⟩,g9⟩,q⟩:=g;have W:cs=[xA,xB]:=eq_of_beq g1;have e2:xc=c:=eq_of_beq g2;subst W e2;exact aGd M g3 g4 g5 (by simpa using g6) (by simpa using g7) g9 λU RT Z=>hb U q RT Z
theorem xP{c:S}(z:∀Γ st,cW Γ c st=false):QS P n Y J c:=by intro X Γ M st h RT Z;rw[z] at h;cases h
theorem aGt{i y:Nat}:QS P n Y J (.set2 i y):=λ{X Γ} M {st} h RT Z=>by unfold cW at h;obtain⟨⟨tg,v⟩,⟨p,rfl⟩,g⟩:=aC h;obtain⟨x,⟨p1,U⟩,g⟩:=aC g;have U:tg=.Name x p1:=U;subst U;obtain⟨hx,h2⟩:=cA g;obtain⟨el,tg,I,q0,scope,q,e2,O,cm,g1,g2,g3,g4,g5⟩:=qK h2;have e2:v=.ListComp el [⟨tg,I,q0,0⟩] scope q:=e2;subst e2;refine aGp M hx (O.scope M) (sI (.seq (.v y)) M g3 RT Y J Z) (λC s₀ H₀ ex=>?_) (cX (fB g3));have L:=O.mc M C s₀ H₀ ex;exact⟨tB L g2,λRT Y J Z1=>qH (sTs .nil L g1 g4 RT Y J Z1),λpl E W own rs RT Y J Z1=>vF rs (sE _ (L.inTry own) g5 RT Y J Z1)⟩
theorem aGu{i:Nat}{k e:E}:QS P n Y J (.lset i k e):=λ{X Γ} M {st} h RT Z=>by unfold cW at h;obtain⟨⟨tg,v⟩,⟨p,rfl⟩,g⟩:=aC h;clear h;obtain⟨⟨o,ix⟩,⟨p1,q⟩,g⟩:=aC g;obtain⟨x,⟨p2,I⟩,g⟩:=aC g;have q:tg=.Subscript o ix p1:=q;have I:o=.Name x p2:=I;subst q I;obtain⟨U,L,W⟩:=cK g;exact aGi M U (sE k M L RT Y J Z) (sE e M W RT Y J Z) (aH L)
theorem aGv{i l:Nat}{fz:List Nat}{e:EL}:QS P n Y J (.setL i l fz e):=λ{X Γ} M {st} h RT Z=>by unfold cW at h;obtain⟨⟨tg,v⟩,⟨p,rfl⟩,g⟩:=aC h;clear h;obtain⟨x,⟨W,q⟩,g⟩:=aC g;have q:tg=.Name x W:=q;subst q;obtain⟨I,L,U⟩:=cK g;exact aGj M I (qEL M e L) (by simpa using U)
theorem aGw{i l:Nat}{e:EL}:QS P n Y J (.appL i l e):=λ{X Γ} M {st} h RT Z=>by unfold cW at h;obtain⟨c,⟨p,rfl⟩,g⟩:=aC h;obtain⟨a,I,q⟩:=m1 (f:=λa=>aV Γ l e a) g;exact aGk M I (qEL M e q RT Z) (bP q)
theorem aGx{e:EL}:QS P n Y J (.retL e):=λ{X Γ} M {st} h RT Z=>by unfold cW at h;obtain⟨r,⟨p,rfl⟩,g⟩:=aC h;clear h;obtain⟨v,q,g⟩:=sN g;subst q;exact aGl (qEL M e g RT Z)
theorem aDv{i:Nat}:QS P n Y J (.retvL i):=λ{X Γ} M {st} h RT Z=>by unfold cW at h;obtain⟨r,⟨p,rfl⟩,g⟩:=aC h;clear h;obtain⟨v,I,g⟩:=sN g;subst I;obtain⟨x,⟨L,q⟩,g⟩:=aC g;have q:v=.Name x L:=q;subst q;exact aDt M g
theorem aGy{o:CmpOp}{a:EL}{b:E}{x y:Ss}(hx:QSs P n Y J x)(hy:QSs P n Y J y):QS P n Y J (.iffL o a b x y):=λ{X Γ} M {st} h RT Z=>by
 unfold cW at h;obtain⟨⟨t,u,v⟩,⟨p,rfl⟩,I⟩:=aC h;obtain⟨L,h2,h3⟩:=cK I;obtain⟨⟨l,os,U⟩,⟨p2,q⟩,g⟩:=aC L;clear L I h;have q:t=.Compare l os U p2:=q;subst q;rcases os with _|⟨o',_|⟨_,_⟩⟩
 cases g;rcases U with _|⟨z,_|⟨_,_⟩⟩
 cases g;obtain⟨g1,g2,g3⟩:=cK g;have W:o=o':=eq_of_beq g1;subst W;exact aGm M (qEL M a g2 RT Z) (λZ=>sE b M g3 RT Y J Z) (aH g3) (hx M h2) (hy M h3);cases g;cases g
theorem aGz{t:T}{e:EL}{b:Ss}(hb:QSs P n Y J b):QS P n Y J (.forL t e b):=λ{X Γ} M {st} h RT Z=>by
 unfold cW at h;obtain⟨⟨tg,q,body⟩,⟨p,rfl⟩,L⟩:=aC h;obtain⟨W,U,h3⟩:=cK L;obtain⟨⟨f,xs⟩,⟨p1,p2,I⟩,g⟩:=aC U;clear U L h;have I:q=.Call (.Name f p1) xs [] p2:=I;subst I;obtain⟨g1,g2,g3⟩:=cK g;rcases xs with _|⟨x,_|⟨_,_⟩⟩
 cases g3;exact aGn M W (eq_of_beq g1) g2 (qEL M e g3 RT Z) (bP g3) (hb M h3);cases g3
theorem aGA{t:T}{l:Nat}{fz:List Nat}{e:EL}{b:Ss}(hb:QSs P n Y J b):QS P n Y J (.forC t l fz e b):=λ{X Γ} M {st} h RT Z=>by unfold cW at h;obtain⟨⟨tg,I,body⟩,⟨p,rfl⟩,L⟩:=aC h;obtain⟨U,q,W⟩:=cK L;exact aGo M U (qEL M e q) (bP q) (hb M W)
theorem aGB{cs:Ss}:QSs P n Y J (.cons .lend cs):=λ{X Γ} M {st} h RT Z=>eC (t:=λ_ _ _=>False) (λG s ZV H D I U=>U.elim) λD ZV H t ⟨S,q⟩=>by
 have q:OE X.K (XW X) RT Y J H (O.on (match Z[(0:Nat)]? with|some (.sh true (.err c ds))=>if c=⟨#[]⟩ then .next (Z.set 0 (.lent ds)) else .bad|_=>.bad) λZ'=>exs P (call P n) Z' cs) D:=q;split at q;rename_i c ds e;by_cases L:c=⟨#[]⟩
 obtain⟨v,_,_,_,_,_,_,z⟩:=S.sh 0 true (.err c ds) e;exact z L;rw[if_neg L] at q;exact q.elim;exact q.elim
theorem aJj:QSs P n Y J .nil:=λ{X Γ} M {st} h RT Z=>by
 cases st with
 | nil=>exact aIL|cons _ _=>exact nf h
noncomputable def aJk:S->Bool
 | .lend=>true|.thaw _=>true|_=>false
theorem vK{Γ:Ct}{c:S}{cs:Ss}{st:List B5}(q:aJk c=false)(h:chkSs Γ (.cons c cs) st=true):∃x xs,st=x::xs/\cW Γ c x=true/\chkSs Γ cs xs=true:=by
 cases st with
 | nil=>cases c <;> first|exact nf h|cases q
 | cons x xs=>
  have h:(cW Γ c x&&chkSs Γ cs xs)=true:=by cases c <;> first|exact h|cases q
  obtain⟨I,L⟩:=cA h;exact⟨x,xs,rfl,I,L⟩
theorem aGC{c:S}{cs:Ss}(L:QS P n Y J c)(hs:QSs P n Y J cs)(U:aJk c=false):QSs P n Y J (.cons c cs):=λ{X Γ} M {st} h RT Z=>by obtain⟨x,xs,rfl,q,I⟩:=vK U h;exact aFZ (L M q) (hs M I)
theorem aGD{i:Nat}{cs:Ss}(hs:QSs P n Y J cs):QSs P n Y J (.cons (.thaw i) cs):=λ{X Γ} M {st} h RT Z=>by
 have h:chkSs Γ cs st=true:=by cases st <;> exact h
 exact aGq (hs M h)
theorem aDw{c:S}{cs:Ss}(q:QS P n Y J c)(hs:QSs P n Y J cs):QSs P n Y J (.cons c cs):=by
 cases c with
 | lend=>exact aGB|thaw i=>exact aGD hs|_=>exact aGC q hs rfl
mutual
theorem sS:(c:S)->QS P n Y J c
 | .set _ _=>aJa|.mov _ _=>aJb|.setIx _ _ _=>aDu|.app _ _=>aJc|.ret _=>aJd|.retv _=>aGr|.iff _ a b=>aJe (sSs a) (sSs b)|.for _ _ b=>aJf (sSs b)|.ex _=>aKN|.rse _ _ (.cons _ .nil)=>aJg|.rse _ _ .nil=>xP λ_ _=>rfl|.rse _ _ (.cons _ (.cons _ _))=>xP λ_ _=>rfl|.tryAs b _ _ _=>aJh (sSs b)|.tryR b _ _ _=>aGs (sSs b)|.ixF _ _ _ _=>aJi|.thaw _=>xP λ_ _=>rfl|.set2 _ _=>aGt|.lend=>xP λ_ _=>rfl|.lset _ _ _=>aGu|.setL _ _ _ _=>aGv|.appL _ _ _=>aGw|.retL _=>aGx|.retvL _=>aDv|.iffL _ _ _ x y=>aGy (sSs x) (sSs y)|.forL _ _ b=>aGz (sSs b)|.forC _ _ _ _ b=>aGA (sSs b)
theorem sSs:(c:Ss)->QSs P n Y J c
 | .nil=>aJj|.cons c cs=>aDw (sS c) (sSs cs)
end
end
structure Tx where
 x:Str
 qual:Str
 st:B5
 N:List Str
noncomputable def oM(Γ:Ct)(F:Fn)(t:Tx):Bool:=
 t.N.length==F.ns&&decide (F.np<=F.ns)&&decide t.N.Nodup&&(bO t.st).kind==.function&&!(bO t.st).isCoroutine&&!(bO t.st).isGenerator &&
 ((t.N.take F.np).all λx=>(bO t.st).names.lookup x==some .local||(bO t.st).names.lookup x==some .cell)&&((bO t.st).names.all λp=>p.2 != .free) &&
 chkSs { Γ with N:=t.N,sc:=(bO t.st).names,fn:=true } F.body (iI t.st)
noncomputable def fX(Γ:Ct):List Fn->List Tx->Bool
 | [],[]=>true|F::Fs,t::ts=>oM Γ F t&&fX Γ Fs ts|_,_=>false
theorem fE{Γ:Ct}:∀{q:List Fn} {ts:List Tx},fX Γ q ts=true->∀{f:Nat} {t:Tx},ts[f]? = some t->∃F,q[f]? = some F/\oM Γ F t=true
 | [],[],_,_,_,e=>by simp at e|[],_::_,h,_,_,_=>by cases h|_::_,[],h,_,_,_=>by cases h|F::q,t::ts,h,0,t',e=>by
  obtain⟨I,L⟩:=cA (show(oM Γ F t&&fX Γ q ts)=true from h);have U:t=t':=by simpa using e
  subst U;exact⟨F,rfl,I⟩
 | F::q,t::ts,h,f+1,t',e=>by obtain⟨I,L⟩:=cA (show(oM Γ F t&&fX Γ q ts)=true from h);obtain⟨M,W,q2⟩:=fE L (f:=f) (t:=t') (by simpa using e);exact⟨M,by simpa using W,q2⟩
section
variable {prog:A5} {w:AM} {K:Fg} {mg:Str->Option Value} {base:Heap} {P:Pg} {Γ:Ct} {txs:List Tx}
structure Top (prog:A5) (w:AM) (K:Fg) (mg:Str->Option Value) (P:Pg) (Γ:Ct) (txs:List Tx):Prop where
 fn:∀(f:Nat) (t:Tx),txs[f]? = some t->∃fa fd,mg t.x=some (.ref fa)/\Fun K t.x t.qual t.st fa fd/\∀F,P.fns[f]? = some F->iH K fd (t.N.take F.np) []
 fns:∀(f:Nat) (x:Str),Γ.fns[f]? = some x->∃t,txs[f]? = some t/\t.x=x
 blt:∀x∈bltNames,mg x=none
 cns:∀(x:Str) (d:D),Γ.cns.lookup x=some d->∃u v,mg x=some u/\bC v u/\∀H ex,Rep K H ex d v
 tab:∀(i:Nat) (x:Str),Γ.tbs[i]? = some x->∃a t,mg x=some (.ref a)/\P.tabs[i]? = some t/\oG prog w K a t
 exc:∀(c:Str) (ab:List Cl),P.above.lookup c=some ab->∃C,oI K mg Γ.cls c ab C
 rsd:∀c∈Γ.rsd,∃ab,P.above.lookup c=some ab
 cls:∀x∈Γ.cls,∃C2,mg x=some (.ref C2)
 chk:fX Γ P.fns txs=true
theorem xQ{k f:Nat}{F:Fn}(I:P.fns[f]? = some F){vs:List V}{H:Hp}{Q:VK}{E:XK}(h:spF K P (k+1) f vs H Q E):vs.length=F.np:=by obtain⟨ds,Y,_,r,q⟩:=h;have q:RE (xE K H E) (gW P (call P k) f ds) _:=q;unfold gW at q;rw[I] at q;have q:RE (xE K H E) (if ds.length=F.np then _ else R.bad) _:=q;split at q;rename_i L;rw[<-r.length];exact L;exact q.elim
theorem xR{k f:Nat}{F:Fn}(q:P.fns[f]? = some F){vs:List V}{H:Hp}{Q:VK}{E:XK}(h:spL K P (k+1) f vs H Q E):vs.length=F.np:=by obtain⟨_,cs,ds,p,xs,us,Y,rfl,_,_,_,r,L⟩:=h;obtain⟨x,e,_⟩:=RE.eqN L;have e:gW P (call P k) f (.err ⟨#[]⟩ cs::ds)=.ok x:=e;unfold gW at e;rw[q] at e;have e:(if (D.err ⟨#[]⟩ cs::ds).length=F.np then _ else R.bad)=R.ok x:=e;split at e;rename_i I;rw[<-I,lC,lC,r.length];cases e
theorem aDx{ds cs:List D}{us xs:List V}{p:Addr}{H:Hp}{Y:Addr->Prop}{m:Nat}(hY:∀a,Y a->H a≠none)(t:Tk K H)(hp:H p=some (.lst xs))(rc:Reps K H (λb=>b=p\/Y b) cs xs)(r:Reps K H (λb=>b=p\/Y b) ds us) :
 Sx K (λb=>b=p) Y (λb=>H b≠none) ((((D.err ⟨#[]⟩ cs::ds).map λd=>Sl.sh true d)++Ae m Sl.dead).set 0 (.lent cs)) (((V.ref p::us).map some)++Ae m none) H:=by
 have q:Sx K (λb=>b=p) Y (λb=>H b≠none) (((D.non::ds).map λd=>Sl.sh true d)++Ae m Sl.dead) (((V.non::us).map some)++Ae m none) H:=mL hY t (λa z=>⟨xs,by rw[z];exact hp⟩) (.cons rfl r);have tl:∀{j:Nat},0≠j->(((V.ref p::us).map some)++Ae m none)[j]? = (((V.non::us).map some)++Ae m none)[j]? := λ{j} I=>by
  cases j with
  | zero=>exact absurd rfl I|succ j=>rfl
 have sl:∀{j:Nat} {s:Sl},((((D.err ⟨#[]⟩ cs::ds).map λd=>Sl.sh true d)++Ae m Sl.dead).set 0 (.lent cs))[j]? = some s->(j=0/\s=.lent cs)\/(0≠j/\(((D.non::ds).map λd=>Sl.sh true d)++Ae m Sl.dead)[j]? = some s):=λ{j s} e=>by
  cases j with
  | zero=>exact .inl ⟨rfl,(Ah e).symm⟩|succ j=>exact .inr ⟨by omega,e⟩
 have q0:∀{j:Nat} {ds':List D},(((D.non::ds).map λd=>Sl.sh true d)++Ae m Sl.dead)[j]? = some (.lent ds')->False:=λ{j ds'} e=>by rcases Bc.mp (mG e) with z|z;obtain⟨_,_,e⟩:=Aw.mp z;cases e;cases Cd z
 have q1:∀{j:Nat} {ds':List (List D)},(((D.non::ds).map λd=>Sl.sh true d)++Ae m Sl.dead)[j]? = some (.own2 ds')->False:=λ{j ds'} e=>by rcases Bc.mp (mG e) with z|z;obtain⟨_,_,e⟩:=Aw.mp z;cases e;cases Cd z
 exact {
  sh:=λj pa d e=>by
   rcases sl e with⟨_,z⟩|⟨I,e⟩
   cases z;rw[tl I];exact q.sh j pa d e
  own:=λj pa d e=>by
   rcases sl e with⟨_,z⟩|⟨I,e⟩
   cases z;rw[tl I];exact q.own j pa d e
  trk:=q.trk
  yo:=q.yo
  tk:=q.tk
  rt:=q.rt
  inj:=λi j pa pa' L M a U W e3 e4=>by
   rcases sl U with⟨_,z⟩|⟨h1,U⟩
   cases z;rcases sl W with⟨_,z⟩|⟨h2,W⟩
   cases z;rw[tl h1] at e3;rw[tl h2] at e4;exact q.inj i j pa pa' L M a U W e3 e4
  len:=by rw[Ax];exact q.len
  lx:={
   at':=λj ds' e=>by
    rcases sl e with⟨rfl,z⟩|⟨I,e⟩
    cases z;exact⟨p,xs,rfl,hp,rfl,by rw[hp];simp,rc.weak λb z=>z.imp id λz=>z.elim id λz=>by cases z.1⟩;exact(q0 e).elim
   inj:=λi j L M a U W e3 e4=>by
    rcases sl U with⟨rfl,_⟩|⟨h1,U⟩
    rcases sl W with⟨rfl,_⟩|⟨h2,W⟩
    rfl;exact(q0 W).elim;exact(q0 U).elim
   at2:=λj ds' e=>by
    rcases sl e with⟨rfl,z⟩|⟨I,e⟩
    cases z;exact(q1 e).elim
   one:=λi j L M e=>by
    rcases sl e with⟨rfl,z⟩|⟨I,e⟩
    cases z;exact(q1 e).elim } }
theorem aBx{b:Ss}(h:wK b=true):∃r,b=.cons .lend r:=by unfold wK at h;split at h;exact⟨_,rfl⟩;cases h
theorem vL{Γ:Ct}{cs:Ss}{st:List B5}(h:chkSs Γ (.cons .lend cs) st=true):chkSs Γ cs st=true:=by cases st <;> exact h
theorem aDy{x d:D}{cs:List D}(h:aAK x=some (d,cs)):x=.tup [d,.err ⟨#[]⟩ cs]:=by unfold aAK at h;split at h;split at h;rename_i c;subst c;cases h;rfl;cases h;cases h
theorem xT{k f:Nat}{t:Tx}{F:Fn}{fa:Addr}{fd:Cv}(w6:∀(f:Nat) (x:Str),Γ.fns[f]? = some x->∃fa fd ps,mg x=some (.ref fa)/\Da K (.ref fa)=true/\iH K fd ps []/\nJ prog w K mg base (CX1 prog w) k fa fd ps (spA K P k f))
 (q5:∀x∈bltNames,mg x=none) (q7:∀(x:Str) (d:D),Γ.cns.lookup x=some d->∃u v,mg x=some u/\bC v u/\∀H ex,Rep K H ex d v) (w3:∀(i:Nat) (x:Str),Γ.tbs[i]? = some x->∃a t,mg x=some (.ref a)/\P.tabs[i]? = some t/\oG prog w K a t) (q8:∀(c:Str) (ab:List Cl),P.above.lookup c=some ab->∃C,oI K mg Γ.cls c ab C) (q9:∀c∈Γ.rsd,∃ab,P.above.lookup c=some ab) (q6:∀x∈Γ.cls,∃C2,mg x=some (.ref C2)) (h2:Fun K t.x t.qual t.st fa fd) (hF:P.fns[f]? = some F) (hc:oM Γ F t=true) :
 nJ prog w K mg base (CX1 prog w) (k+1) fa fd (t.N.take F.np) (spA K P (k+1) f):=by
 unfold oM at hc;simp only[bA,beq_iff_eq,AT,Dc,AS,Cw,bne_iff_ne,ne_eq] at hc;obtain⟨⟨⟨⟨⟨⟨⟨⟨c1,c2⟩,c3⟩,c4⟩,c5⟩,c6⟩,c7⟩,c8⟩,c9⟩:=hc;have lt:(t.N.take F.np).length=F.np:=by rw[Bv];omega
 have sc:pK t.N (t.N.take F.np) (bO t.st):=⟨c4,c5,c6,c3,by rw[lt],c7,c8⟩
 obtain⟨oc,od,kV,doc,pm,an,cdv,ct,osl,rfl,lk,w5⟩:=h2.ex;refine aHI lk w5 sc (λvs H Q E h=>by rw[lt];exact h.elim (xQ hF) (xR hF)) λA outer s H vs Q E hr h=>?_;have M:Mc (pL (CX1 prog w) prog w K mg base t.N t.qual (bO t.st) fa cdv A outer s H E) P { Γ with N:=t.N,sc:=(bO t.st).names,fn:=true } k:={
  md:=⟨w6,q5,q7,w3,q8,q9,q6⟩
  N:=rfl
  nd:=c3
  sc:=rfl
  calm:=rfl
  room:=hr
  own:=HI
  st:=λ_ _=>.inl rfl
  fk:=c4
  stk:=λ_=>rfl }
 rcases h with h|h;have q0:=xQ hF h;obtain⟨ds,Y,hY,r,L⟩:=h;have L:RE (xE K H E) (gW P (call P k) f ds) _:=L;unfold gW at L;rw[hF] at L;have q2:ds.length=F.np:=by rw[r.length];exact q0
 have L:RE (xE K H E) (if ds.length=F.np then (match exs P (call P k) ((ds.map λd=>Sl.sh true d)++Ae (F.ns-F.np) Sl.dead) F.body with
  | .ret v=>R.ok (v.d,v.fr,v.pa)|.next _=>R.ok (.non,false,false)|.exc x _=>R.exc x|_=>R.bad) else R.bad) λr=>∀u H',Tk K H'->aG H H'->Rr K H H' Y r u->Q u H':=L
 rw[if_pos q2] at L;refine⟨_,eC (t':=λD ZV H'=>Tk K H'->wS _ (λ_=>False) Y (λb=>H b≠none) ((ds.map λd=>Sl.sh true d)++Ae (F.ns-F.np) Sl.dead) (exs P (call P k) ((ds.map λd=>Sl.sh true d)++Ae (F.ns-F.np) Sl.dead) F.body) D ZV H') (sSs (Y:=Y) (J:=λb=>H b≠none) F.body M c9 (λ_=>False) ((ds.map λd=>Sl.sh true d)++Ae (F.ns-F.np) Sl.dead)) (λD ZV H' tk hw=>⟨(hw tk).1,OE.tkE (hw tk).2⟩),λtk=>⟨?_,?_⟩⟩;have e:L2.start t.N vs=vs.map some++Ae (F.ns-F.np) none:=by unfold L2.start;rw[q0,c1]
 rw[e];exact mL hY tk (λ_ z=>z.elim) (r.weak λa z=>z.elim Cr id);have same:∀{H':Hp},Kp (λ_=>False) H H'->aG H H':=λk b o e=>k b o e id;show OE K (XW _) (λ_=>False) Y (λb=>H b≠none) H (exs P (call P k) ((ds.map λd=>Sl.sh true d)++Ae (F.ns-F.np) Sl.dead) F.body) _;cases q:exs P (call P k) ((ds.map λd=>Sl.sh true d)++Ae (F.ns-F.np) Sl.dead) F.body with
 | next Z'=>rw[q] at L;exact λw4 q4 H' kp sub S'=>L .non H' S'.tk (same kp) (show(if false=true then _ else _) from aHP rfl)|ret v=>
  rw[q] at L;refine λu H' kp q3 rt=>L u H' q3 (same kp) ?_;replace rt:Rtv K Y (λb=>H b≠none) H' v u:=rt.resolve_right λ⟨_,_,R2,p,_,_,q1,hR,ho,_⟩=>(q1 p hR).elim id ho;unfold Rr;unfold Rtv at rt;cases W:v.fr with
  | true=>rw[W,if_pos rfl] at rt;obtain⟨a,xs,ds',e1,e2,e3,e4,rr⟩:=rt;exact aKt ⟨a,xs,ds',e1,e2,F1.mp e3,e4,rr⟩|false=>rw[W,if_neg bN] at rt;exact aHP rt
 | exc e Z'=>
  rw[q] at L;have L:xE K H E e:=L;intro w4 q4 H' kp sub S';cases e with
  | err c fs=>exact λcls hn G s1 a I fl=>vA G q4 H' s1 a _ I fl (L cls H' hn S'.tk (same kp))|_=>exact L.elim
 | bad=>rw[q] at L;exact L.elim
 have q0:=xR hF h;obtain⟨hl,cs,ds,p,xs,us,Y,rfl,hY,hp,rc,r,L⟩:=h;unfold jY at hl;rw[hF] at hl;obtain⟨rest,hb⟩:=aBx (show wK F.body=true from hl);rw[hb] at c9;have c9:=vL c9;obtain⟨res,U,L⟩:=RE.eqN L;obtain⟨d,w9,eu,L⟩:=L;have U:gW P (call P k) f (.err ⟨#[]⟩ cs::ds)=.ok res:=U;unfold gW at U;rw[hF] at U;have U:(if (D.err ⟨#[]⟩ cs::ds).length=F.np then (match exs P (call P k) (((D.err ⟨#[]⟩ cs::ds).map λd=>Sl.sh true d)++Ae (F.ns-F.np) Sl.dead) F.body with
  | .ret v=>R.ok (v.d,v.fr,v.pa)|.next _=>R.ok (.non,false,false)|.exc x _=>R.exc x|_=>R.bad) else R.bad)=R.ok res:=U
 have q2:(D.err ⟨#[]⟩ cs::ds).length=F.np:=by rw[lC,r.length,<-lC (a:=V.ref p)];exact q0
 rw[if_pos q2,hb] at U;have U:(match exs P (call P k) ((((D.err ⟨#[]⟩ cs::ds).map λd=>Sl.sh true d)++Ae (F.ns-F.np) Sl.dead).set 0 (.lent cs)) rest with
  | .ret v=>R.ok (v.d,v.fr,v.pa)|.next _=>R.ok (.non,false,false)|.exc x _=>R.exc x|_=>R.bad)=R.ok res:=U
 have S0:Tk K H->Sx K (λb=>b=p) Y (λb=>H b≠none) ((((D.err ⟨#[]⟩ cs::ds).map λd=>Sl.sh true d)++Ae (F.ns-F.np) Sl.dead).set 0 (.lent cs)) (((V.ref p::us).map some)++Ae (F.ns-F.np) none) H:=λtk=>aDx hY tk hp rc r;revert U S0;generalize (((D.err ⟨#[]⟩ cs::ds).map λd=>Sl.sh true d)++Ae (F.ns-F.np) Sl.dead).set 0 (.lent cs)=Z0;intro U S0;refine⟨_,eC (t':=λD ZV H'=>Tk K H'->wS _ (λb=>b=p) Y (λb=>H b≠none) Z0 (exs P (call P k) Z0 rest) D ZV H') (sSs (Y:=Y) (J:=λb=>H b≠none) rest M c9 (λb=>b=p) Z0) (λD ZV H' tk hw=>⟨(hw tk).1,OE.tkE (hw tk).2⟩),λtk=>⟨?_,?_⟩⟩;have e:L2.start t.N (V.ref p::us)=(V.ref p::us).map some++Ae (F.ns-F.np) none:=by unfold L2.start;rw[q0,c1]
 rw[e];exact S0 tk;show OE K (XW _) (λb=>b=p) Y (λb=>H b≠none) H (exs P (call P k) Z0 rest) _;cases q:exs P (call P k) Z0 rest with
 | next Z'=>rw[q] at U;cases(show R.ok (D.non,false,false)=R.ok res from U);cases eu|ret v=>
  rw[q] at U;cases(show R.ok (v.d,v.fr,v.pa)=R.ok res from U);have eu:=aDy eu;intro u H' kp q3 rt;rcases rt with rt|⟨d2,z0,R2,p2,w8,e2,q1,hR,ho,hx,rr,hv⟩
  exfalso;unfold Rtv at rt;cases W:v.fr with
  | true=>rw[W,if_pos rfl] at rt;obtain⟨_,_,_,_,e3,_⟩:=rt;rw[show v.d=_ from eu] at e3;cases e3|false=>rw[W,if_neg bN,show v.d=_ from eu] at rt;obtain⟨_,_,_,_,x1,r1,_,_,x2,r2,_,z,_⟩:=rt;obtain⟨_,_,_,_,_,z⟩:=z;exact z rfl
  rw[show v.d=_ from eu] at e2;cases e2;have w7:p2=p:=(q1 p2 hR).resolve_right ho;subst w7;refine L u H' R2 w8 q3 kp hR q1 hx rr ?_;show(if v.fr=true then _ else _);by_cases W:v.fr=true;rw[if_pos W] at hv ⊢;obtain⟨a,ys,es,v1,v2,v3,v4,v5,v6⟩:=hv;exact⟨a,ys,es,v1,v2,F1.mp v3,v4,v5,v6⟩;rw[if_neg W] at hv ⊢;exact hv
 | exc e Z'=>rw[q] at U;cases U|bad=>rw[q] at U;cases U
theorem aBy(T:Top prog w K mg P Γ txs):∀(k f:Nat) (x:Str),Γ.fns[f]? = some x->∃fa fd ps,mg x=some (.ref fa)/\Da K (.ref fa)=true/\iH K fd ps []/\nJ prog w K mg base (CX1 prog w) k fa fd ps (spA K P k f)
 | 0,f,x,hf=>by
  obtain⟨t,q,rfl⟩:=T.fns f x hf;obtain⟨fa,fd,M,I,U⟩:=T.fn f t q;obtain⟨F,L,_⟩:=fE T.chk q;have no:∀vs H Q E,¬ spA K P 0 f vs H Q E:=λvs H Q E h=>by
   rcases h with⟨ds,Y,_,r,W⟩|⟨_,_,_,_,_,_,_,_,_,_,_,_,W⟩
   exact W;exact W
  exact⟨fa,fd,_,M,I.kp,U F L,λvs H Q E h=>absurd h (no vs H Q E),λA outer s H args us vs Q E _ _ _ _ h=>absurd h (no vs H Q E)⟩
 | k+1,f,x,hf=>by obtain⟨t,q,rfl⟩:=T.fns f x hf;obtain⟨fa,fd,M,I,U⟩:=T.fn f t q;obtain⟨F,L,hc⟩:=fE T.chk q;exact⟨fa,fd,_,M,I.kp,U F L,xT (λf x hf=>aBy T k f x hf) T.blt T.cns T.tab T.exc T.rsd T.cls I L hc⟩
theorem aGE(T:Top prog w K mg P Γ txs){f:Nat}{t:Tx}{F:Fn}{fa:Addr}{fd:Cv}(W:txs[f]? = some t)(L:P.fns[f]? = some F)(M:Fun K t.x t.qual t.st fa fd)(k:Nat):nJ prog w K mg base (CX1 prog w) (k+1) fa fd (t.N.take F.np) (spF K P (k+1) f):=by obtain⟨F',I,U⟩:=fE T.chk W;rw[L] at I;cases I;have h:=xT (aBy (base:=base) T k) T.blt T.cns T.tab T.exc T.rsd T.cls M L U;exact⟨λvs H Q E q=>h.1 vs H Q E (.inl q),λA outer s H args us vs Q E a b c d q=>h.2 A outer s H args us vs Q E a b c d (.inl q)⟩
theorem aGF{k f:Nat}{K:Fg}{H:Hp}{a:Addr}{ns:List Int}(U:aCY H)(I:SqL K H a (ns.map V.int))(h:∃fr pa,call P k f [.lst (ns.map D.int)]=.ok (.bl true,fr,pa)) :
 spF K P k f [.ref a] H (λv _=>v=.bl true) λ_ _ _=>False:=by
 obtain⟨fr,pa,e⟩:=h;have M:∀(ns:List Int),Reps K H (λ_=>False) (ns.map D.int) (ns.map V.int):=by
  intro ns
  induction ns with
  | nil=>exact .nil|cons i ns L=>exact .cons rfl L
 refine⟨[.lst (ns.map D.int)],λ_=>False,λ_ z=>z.elim,.cons ⟨a,_,rfl,I,id,M ns⟩ .nil,?_⟩;rw[e];intro u H' _ _ rr;unfold Rr at rr;cases fr with
 | true=>rw[if_pos rfl] at rr;obtain⟨_,_,_,_,q,_⟩:=rr;cases q|false=>rw[if_neg bN] at rr;exact rr
theorem aAf{H:Hp}{s:Ad}{e:Value}{q:Ad}{out:List En}(h:CX1 prog w out H s (λ_ _ _=>False) e q):False:=by obtain⟨_,_,_,_,_,_,_,_,_,z⟩:=h;exact z
noncomputable def vM(K:Fg)(C:Addr)(cs:List (Addr×Bool))(ve:Bool):Bool:=
 Be K C bmV "ValueError.__new__" && (PySem.W.clsIn K C).isSome&&(PySem.W.subIn K (.ref C) (.type "BaseException")==some true)&&(Ex K (.ref C) "__getattribute__" == some (some (.builtin "BaseException.__getattribute__"))) &&
 (Ex K (.ref C) "__getattr__" == some none)&&(Ex K (.ref C) "__class__" == some (some (.builtin "object.__class__")))&&(PySem.W.mroIn K C (.type "object")==some true)&&(C6 K (.ref C) (.type "ValueError")==some ve) &&
 cs.all λp=>(C6 K (.ref C) (.ref p.1)==some p.2)&&(!p.2||(kF K C p.1&&Be K p.1 bmV "ValueError.__new__"))
noncomputable def tM(mg:Str->Option Value):List Str->List Addr->Prop
 | [],[]=>True|x::xs,a::as=>mg x=some (.ref a)/\tM mg xs as|_,_=>False
theorem jN{f:Str->Bool}:∀{xs:List Str} {as:List Addr},tM mg xs as->∀x∈xs,∃a,mg x=some (.ref a)/\(a,f x)∈as.zip (xs.map f)
 | [],_,_,x,q=>by cases q|y::ys,[],h,_,_=>h.elim|y::ys,a::as,h,x,q=>by rcases A8.mp q with rfl|q;exact⟨a,h.1,Aj⟩;obtain⟨b,I,L⟩:=jN (f:=f) h.2 x q;exact⟨b,I,Af _ L⟩
theorem aAg{xs:List Str}{as:List Addr}(h:tM mg xs as):∀x∈xs,∃C2,mg x=some (.ref C2):=λx I=>by obtain⟨a,q,_⟩:=jN (f:=λ_=>true) h x I;exact⟨a,q⟩
theorem aBz{cls:List Str}{c:Str}{ab:List Cl}{C:Addr}{as:List Addr}(hm:mg c=some (.ref C))(hn:Db K AF c=some (some (.ref C)))
 (h:vM K C (as.zip (cls.map λx=>ab.contains (.own x))) (ab.contains .tValueError)=true) (ha:tM mg cls as):oI K mg cls c ab C:=by unfold vM at h;simp only[bA,beq_iff_eq,AS] at h;obtain⟨⟨⟨⟨⟨⟨⟨⟨q,I⟩,L⟩,M⟩,U⟩,W⟩,h7⟩,h8⟩,h9⟩:=h;refine⟨hm,hn,q,⟨I,L,M,U,W,h7⟩,h8,λx hx=>?_⟩;obtain⟨a,q1,q2⟩:=jN (f:=λx=>ab.contains (.own x)) ha x hx;obtain⟨g1,g2⟩:=h9 _ q2;refine⟨a,q1,g1,λz=>?_⟩;have g2:(!ab.contains (.own x)||(kF K C a&&Be K a bmV "ValueError.__new__"))=true:=g2;rw[z] at g2;simpa using g2
end
end Hp
end
namespace Hp
open PySem PySem.Spec PyProof.Rows L2
noncomputable def ER(w:AM)(K:Fg)(e:Dt)(p:Str×D):Prop:=e.hash=HB w p.1/\(∃tk,e.key=.str p.1 tk)/\∃v,bC v e.val/\∀(H:Hp) (ex:Addr->Prop),Rep K H ex p.2 v
theorem oN{K:Fg}{H:Hp}{ex:Addr->Prop}:∀xs:List Str,Reps K H ex (xs.map D.str) (xs.map V.str)
 | []=>rfl|x::xs=>⟨.str x,xs.map V.str,rfl,rfl,oN xs⟩
theorem aBA{K:Fg}{b:Addr}{od:Option Addr}{q:Array Value}{n:Nat}{sl:Array (Option Value)}(h:K.lookup b=some ⟨.type "tuple",od,.seq q n,sl⟩)(xs:List Str)(L:q.size<=1000)(I:aQ (xs.map V.str) q.toList) :
 ∀(H:Hp) (ex:Addr->Prop),Rep K H ex (.tup (xs.map D.str)) (.ref b):=λH ex=>
 ⟨b,xs.map V.str,rfl,.inr ⟨_,q,n,h,rfl,rfl,AH L (by rw[AW];decide),I⟩,oN xs⟩
theorem aBB{prog:A5}{w:AM}{K:Fg}:∀{es:List Dt} {t:List (Str×D)},EK (ER w K) es t->∃vs:List (Key×Value),(∀e∈es,∃k:Key,(dN prog w).is k e.key=true/\e.hash=(dN prog w).hash k) /\
 Pairs (dN prog w) es vs/\vs.map (·.1)=t.map (λp=>(B4 p.1:Key)) /\
 ∀k:Str,(t.lookup k=none/\Ea vs (B4 k:Key)=none)\/∃d u v,t.lookup k=some d/\Ea vs (B4 k:Key)=some u/\bC v u/\∀(H:Hp) (ex:Addr->Prop),Rep K H ex d v
 | _,_,.nil=>⟨[],λe I=>absurd I (by simp),.nil,rfl,λk=>.inl ⟨rfl,rfl⟩⟩
 | e::es,p::t,.cons ⟨h1,⟨tk,h2⟩,v,h3,h4⟩ r=>by
  obtain⟨vs,g1,g2,g3,U⟩:=aBB (prog:=prog) r;have L:lH (B4 p.1:Key) e.key=true:=by rw[h2];exact nO p.1 tk
  refine⟨(B4 p.1,e.val)::vs,λM I=>?_,.cons L rfl g2,by rw[mC,mC,g3],λk=>?_⟩;rcases A8.mp I with rfl|I;exact⟨B4 p.1,L,h1⟩;exact g1 M I;by_cases q:k=p.1;subst q;refine .inr ⟨p.2,e.val,v,?_,?_,h3,h4⟩;obtain⟨a,b⟩:=p;simp[CV];simp[Ea];have W:(p::t).lookup k=t.lookup k:=by obtain⟨a,b⟩:=p;have:(k==a)=false:=beq_eq_false_iff_ne.mpr q;simp[CV,this]
  have n2:Ea ((B4 p.1,e.val)::vs) (B4 k:Key)=Ea vs (B4 k:Key):=by unfold Ea;have:decide ((B4 p.1:Key)=B4 k)=false:=A4 λz=>q (FH z).symm;rw[List.find?_cons];simp only[this]
  rw[W,n2];exact U k
theorem aGG{prog:A5}{w:AM}{K:Fg}{a:Addr}{es:Array Dt}{I:Nat}{t:List (Str×D)}(hs:(a==Dd)=false)(h:K.lookup a=some ⟨.type "dict",none,.dict es I,#[]⟩)(W:EK (ER w K) es.toList t)(L:(t.map (·.1)).Nodup):oG prog w K a t:=by
 obtain⟨vs,g1,g2,g3,M⟩:=aBB (prog:=prog) W;refine⟨hs,vs,λhh X=>⟨_,es,I,X a _ h,⟨rfl,rfl,rfl⟩,rfl,λe U=>g1 e (by simpa using U),g2,?_⟩,M⟩;rw[g3];have e:t.map (λp=>(B4 p.1:Key))=(t.map (·.1)).map B4:=by rw[Bb];rfl
 rw[e];unfold List.Nodup at L ⊢;rw[List.pairwise_map];exact L.imp λq z=>q (FH z)
end Hp
namespace Hh
open PySem PySem.W PySem.Calls PyProof.Rows
noncomputable def go(st:E5->Gm->Option (E5×Gm))(ok:Gm->Bool)(n:Nat):E5->Gm->Option E5:=
 @Nat.rec (λ_=>E5->Gm->Option E5) (λ_ _=>none) (λ_ ih s t=>match HJ t with
  | true=>some s|false=>match ok t with
   | false=>none|true=>match st s t with
    | some (s',t')=>ih s' t'|none=>none) n
theorem lL{tb:String->Option DR}{p:A5}{w:AM}{q:Nat}{I:Option Value}:∀(n:Nat) (s L:E5) (t:Gm),go (HK (GV tb) p w) (GW q I) n s t=some L->topRun tb p w q I n s.abs t=some L.abs
 | 0,_,_,_,h=>by cases h|n+1,s,L,t,h=>by
  have h:(match HJ t with
   | true=>some s|false=>match GW q I t with
    | false=>none|true=>match HK (GV tb) p w s t with
     | some (L,t')=>go (HK (GV tb) p w) (GW q I) n L t'|none=>none)=some L:=h
  unfold topRun;cases U:HJ t with
  | true=>rw[U] at h;cases h;rfl|false=>
   rw[U] at h;cases M:GW q I t with
   | false=>rw[M] at h;cases h|true=>
    rw[M] at h;cases hs:HK (GV tb) p w s t with
    | none=>rw[hs] at h;cases h|some r=>obtain⟨W,q0⟩:=r;rw[hs] at h;rw[stepT_spec hs];exact lL n _ _ _ h
noncomputable def bt(l:List Obj)(n:Nat):Nat->Nat->BT:=
 @Nat.rec (λ_=>Nat->Nat->BT) (λ_ _=>.nil) (λ_ ih a b=>match l[b]? with
  | some o=>.node o (ih (2*a) (a+b)) (ih (2*a) (2*a+b))|none=>.nil) n
noncomputable def aBC{α:Type}(p q:A5)(loose:List Str)(Xt:Ad->Bool)(Yf:Ad->α)(h0:Heap)(s:Ad):=
 ((GI (Eh p.main.body) h0 s.heap&&Gn p s.heap&&Hq s&&Hr h0 s.heap),openSeen q loose (Eh p.main.body) Xt true s,Yf s)
theorem aDz{p q:A5}{L:List Str}{Xt:Ad->Bool}{α:Type}{Yf:Ad->α}{Ya:AM->α}{N I:Nat}{W:Option Value}{M:Ge->BT}{U:Life}(e:opening p=plainProg p.main.scope.names)(hN:Nat.ble 600 N=true)(f:∀s,G8 p s=some s)
 (hb:∀P,absHeap (M P) I U=B7 P) (hz:∀P:Ge,((B7 P).isNs AF,(B7 P).objs.size,(B7 P).nsMap AF "__annotations__")=(true,I,W))
 (h:∀(w:AM) (os:Eb),(go (HK (GV FF) p w) (GW I W) N ⟨M w.params,I,U,Go [],EY,FG,os⟩ (HM p)).map (λs=>aBC p q L Xt Yf (B7 w.params) s.abs)=some (true,Hs q L,Ya w)):HX p q L Xt Yf Ya N:=λw=>by
 obtain⟨⟨hh,gs,d,k,os⟩,e1,e2⟩:=Bj.mp (boot_open e hN f w);simp only[Ce] at e2;obtain⟨rfl,rfl,rfl,rfl⟩:=e2;obtain⟨s,g1,g2⟩:=Bj.mp (h w os);have r:=lL N _ _ _ g1;have r:topRun FF p w I W N ⟨B7 w.params,Go [],EY,FG,os⟩ (HM p)=some s.abs:=by rw[<-hb];exact r
 have z:=hz w.params;simp only[Ce] at z;obtain⟨z1,z2,z3⟩:=z;unfold aBC at g2;simp only[Ce] at g2;obtain⟨l1,l2,l3⟩:=g2;have t:HN FF p w N ⟨B7 w.params,Go [],EY,FG,os⟩=some s.abs:=by unfold HN;dsimp only;rw[z1,z2,z3,r];show(match GI (Eh p.main.body) (B7 w.params) s.abs.heap&&Gn p s.abs.heap&&Hq s.abs&&Hr (B7 w.params) s.abs.heap with|true=>_|false=>_)=_;rw[l1]
 unfold openEnds;rw[e1];show(HN FF p w N _).map _=_;rw[t];exact congrArg some (HV l2 l3)
noncomputable def T0(P:Ge):BT:=bt (B7 P).objs.toList 5 1 0
theorem aGH:∀P,absHeap (T0 P) 11 {}=B7 P:=λP=>by kernel_rfl
theorem aDA:∀P:Ge,((B7 P).isNs AF,(B7 P).objs.size,(B7 P).nsMap AF "__annotations__")=(true,11,some (.ref 6)):=λP=>by kernel_rfl
abbrev aJl:=@PySem.W.Fast.tw10156331382660048174
abbrev qOk:=@PySem.W.Fast.tw6613529449190102663
abbrev aKO:=@PySem.W.Fast.tw11892475500146522536
abbrev aKP:=@PySem.W.Fast.tw14364793385576792824
abbrev aJm:=@PySem.W.Fast.tw4187177175401517315
abbrev aJn:=@PySem.W.Fast.tw5923862056798008813
noncomputable def aJo{α:Type}(p q:A5)(loose:List Str)(Yf:Ad->α)(N:Nat)(w:AM)(os:Eb):=
 (go (aJl (aKO aKP) p w) (qOk 11 (some (.ref 6))) N ⟨T0 w.params,11,{},Go [],EY,FG,os⟩ (HM p)).map λs=>((GI (aJn p.main.body) (B7 w.params) s.abs.heap&&Gn p s.abs.heap&&Hq s.abs&&Hr (B7 w.params) s.abs.heap),aJm q loose (aJn p.main.body) (λ_=>true) true s.abs,Yf s.abs)
theorem aGI{p q:A5}{I:List Str}{α:Type}{M:Ad->α}{L:AM->α}{N:Nat}(e:opening p=plainProg p.main.scope.names)(U:Nat.ble 600 N=true)(f:∀s,G8 p s=some s)
 (h:∀w os,aJo p q I M N w os=some (true,Hs q I,L w)):HX p q I (λ_=>true) M L N:=by refine aDz e U f aGH aDA λw os=>?_;unfold aBC;rw[EF,EZ,EG,EH,Fa,Fb];exact h w os
end Hh
namespace Hh
open PySem PySem.W PySem.Calls PyProof.Rows L2 Hp
noncomputable def fY(h:Heap):Ai:=(Bt h.objs.size).filterMap λa=>(h.get? a).map λo=>(a,o)
theorem mM{α:Type}(f:Nat->Option α)(a:Nat):∀n,((Bt n).filterMap λi=>(f i).map λo=>(i,o)).lookup a=if a<n then f a else none
 | 0=>rfl|n+1=>by
  rw[List.range_succ,List.filterMap_append,List.lookup_append,mM f a n];by_cases h:a<n;rw[if_pos h,if_pos (C3 h)];cases q:f a with
  | some o=>rfl|none=>
   have I:(a==n)=false:=beq_eq_false_iff_ne.mpr (A9 h);cases L:f n with
   | none=>simp[L]|some o=>simp[L,CV,I]
  rw[if_neg h];by_cases e:a=n;subst e;rw[if_pos (Bk _)];cases q:f a with
  | none=>simp[q]|some o=>simp[q,CV]
  rw[if_neg (by omega)];have I:(a==n)=false:=beq_eq_false_iff_ne.mpr e;cases L:f n with
  | none=>simp[L]|some o=>simp[L,CV,I]
theorem cJ(h:Heap)(a:Addr):(fY h).lookup a=h.get? a:=by
 unfold fY;rw[mM];by_cases q:a<h.objs.size;rw[if_pos q];rw[if_neg q];cases e:h.get? a with
 | none=>rfl|some o=>exact absurd (Al e) q
theorem xU{h h':Heap}(k:∀b o,h.get? b=some o->h'.get? b=some o):(fY h).In h':=λa o e=>k a o (by rw[<-cJ];exact e)
noncomputable def fZ(h:Heap)(x:Str):Option (Option Value):=match h.get? AF with
 | some ⟨_,_,.dict es _,_⟩=>(match es.toList.find? (λe=>match e.key with|.str y _=>F2 y x|_=>false) with
  | some e=>some (some e.val)|none=>if es.toList.any (·.refKey) then none else some none)
 | _=>none
theorem aBD(v:Value)(x:Str):v.isStr x=(match v with|.str y _=>F2 y x|_=>false):=by
 cases v with
 | str y t=>show(y==x)=F2 y x;rw[Bool.eq_iff_iff,beq_iff_eq,GX]|_=>rfl
theorem dC(h:Heap)(x:Str):nsIn (fY h) AF x=fZ h x:=by unfold nsIn fZ;rw[cJ];simp only[aBD];rfl
noncomputable def mO(h:Heap)(cd:Value):Option Str:=match cd with
 | .ref c=>(match h.get? c with
  | some ⟨_,_,.fields vs,_⟩=>(match vs.toList with|_::.str n _::_=>some n|_=>none)
  | _=>none)
 | _=>none
theorem aAh{h:Heap}{I:Value}{q:Str}(e:mO h I=some q):codeIn (fY h) I q=true:=by unfold mO at e;unfold codeIn;split at e;rename_i c;simp only[cJ];split at e;rename_i vs _ L;rw[L];split at e;rename_i a n t r M;cases e;simp only[M,beq_self_eq_true];cases e;cases e;cases e
abbrev Pin:=Str×Str×E3×FuncBody×Ck×Addr×List (Str×Addr)×Value×Addr×Option Str
noncomputable def vN(h:Heap)(x:Str):Option Pin:=match fZ h x with
 | some (some (.ref a))=>(match h.get? a with
  | some ⟨_,_,.func fd,_⟩=>some (fd.name,fd.qualname,fd.params,fd.body,fd.scope,fd.globals,fd.closure,fd.defaults,fd.builtins,mO h fd.code)|_=>none)
 | _=>none
noncomputable def cE(s:B5):Str:=match s with|.FunctionDef x _ _ _ _ _ _ _ _ _=>x|_=>⟨#[]⟩
noncomputable def aBE(st:B5):Pin:=(cE st,cE st,gJ st,.stmts (iI st),bO st,AF,[],.none,EM,some (cE st))
theorem aDB{h:Heap}{st:B5}(e:vN h (cE st)=some (aBE st)):∃fa fd,nsIn (fY h) AF (cE st)=some (some (.ref fa))/\Fun (fY h) (cE st) (cE st) st fa fd:=by unfold vN at e;split at e;rename_i a M;split at e;rename_i c d fd sl q;obtain⟨n,qn,ps,b,sc,g,cl,W,kd,doc,pm,an,I,ct,U⟩:=fd;unfold aBE at e;simp only[BZ,Ce] at e;obtain⟨rfl,rfl,rfl,rfl,rfl,rfl,rfl,rfl,rfl,L⟩:=e;refine⟨a,_,by rw[dC];exact M,⟨⟨c,d,kd,doc,pm,an,I,ct,sl,rfl,by rw[cJ];exact q,aAh L⟩,?_⟩⟩;unfold keepIn;simp only[cJ,q];cases e;cases e
theorem tN{α:Type}{x:Str}{u:α}:∀{ps:List Str} {us:List α},ps.Nodup->ps.length=us.length->(x,u)∈ps.zip us->(ps.zip us).lookup x=some u
 | [],_,_,_,h=>by simp at h|p::ps,[],_,h,_=>by simp at h|p::ps,v::us,hn,hl,h=>by rw[Bh] at h ⊢;obtain⟨q,I⟩:=Bd.mp hn;rcases A8.mp h with h|h;cases h;simp[CV];have L:x∈ps:=(Dm h).1;have:(x==p)=false:=beq_eq_false_iff_ne.mpr λz=>q (z▸L);simp only[CV,this];exact tN I (by simpa using hl) h
theorem aBF{α:Type}(L:List (Str×α)):∀{ps:List Str} {us:List α},ps.length=us.length->(∀p∈ps.zip us,L.lookup p.1=some p.2)->(ps.filterMap λn=>(L.lookup n).map (n,·))=ps.zip us
 | [],_,_,_=>by simp|p::ps,[],h,_=>by simp at h|p::ps,v::us,hl,h=>by rw[Bh,Bm,h (p,v) (by simp),aBF L (ps:=ps) (us:=us) (by simpa using hl) λq I=>h q (by rw[Bh];exact Af _ I)];rfl
theorem aBG{α:Type}(L:List (Str×α)):∀{ps:List Str} {us:List α},ps.length=us.length->(∀p∈ps.zip us,L.lookup p.1=some p.2)->(ps.filter λn=>(L.lookup n).isNone)=[]
 | [],_,_,_=>by simp|p::ps,[],h,_=>by simp at h|p::ps,v::us,hl,h=>by rw[List.filter_cons,h (p,v) (by simp),aBG L (ps:=ps) (us:=us) (by simpa using hl) λq I=>h q (by rw[Bh];exact Af _ I)];rfl
noncomputable def gM(a:E3)(ps:List Str):Bool:=match a with|⟨[],as,none,[],[],none,[]⟩=>decide (as.map (·.arg)=ps)&&decide ps.Nodup|_=>false
theorem mP{x q:Str}{a:E3}{b:List B5}{sc:Ck}{kV doc pm:Value}{an:Option Addr}{cdv ct:Value}{ps:List Str}{us:List Value}(h:gM a ps=true)(I:us.length=ps.length) :
 FX (fnOf x q a b sc .none kV doc pm an cdv ct) ⟨us,[]⟩=pure (ps.zip us):=by
 unfold gM at h;split at h;rename_i as;obtain⟨L,M⟩:=Bool.and_eq_true_iff.mp h;have L:=of_decide_eq_true L;have M:=of_decide_eq_true M;have z:∀p∈ps.zip us,(ps.zip us).lookup p.1=some p.2:=λp hp=>tN M I.symm hp;have U:=aBG (ps.zip us) I.symm z;have W:=aBF (ps.zip us) I.symm z;unfold FX;have e3:∀s:Value,s=.none->(GH s)=pure none:=λs e=>by subst e;rfl
 simp only[mN,Dn,L,e3,Ew,pure_bind,I,gt_iff_lt,AU,decide_false,Eo,DJ,lN,Nat.zero_sub,List.drop_nil,GR,DL,U,List.isEmpty_nil,Bool.not_true,Df,List.zip_nil_right,BH,W,if_false,bF];cases h
noncomputable def tP(s:B5):Bool:=match s with|.FunctionDef _ _ _ _ _ _ _ _ _ _=>true|_=>false
noncomputable def aBH:D->Value->Bool
 | .int i,.int j _=>decide (i=j)|.str a,.str b _=>F2 a b|.non,.none=>true|.bl a,.bool b=>a==b|_,_=>false
noncomputable def vO(h:Heap)(c:Str×D):Bool:=match fZ h c.1 with|some (some u)=>aBH c.2 u|_=>false
noncomputable def iR:Value->Option Str
 | .str x _=>some x|_=>none
abbrev aBI:=Int×Option Str×Option (Value×List (Option Str))
noncomputable def kZ(h:Heap)(e:Dt):aBI:=(e.hash,iR e.key,match e.val with
 | .ref b=>(match h.get? b with
  | some ⟨c,_,.seq its _,_⟩=>some (c,its.toList.map iR)|_=>none)
 | _=>none)
noncomputable def qR(h:Heap)(x:Str):Option (Bool×Value×Option Addr×Array (Option Value)×List aBI):=match fZ h x with
 | some (some (.ref a))=>(match h.get? a with
  | some ⟨c,d,.dict es _,sl⟩=>some (a==Dd,c,d,sl,es.toList.map (kZ h))|_=>none)
 | _=>none
noncomputable def qS(w:AM)(p:Str×List Str):aBI:=(HB w p.1,some p.1,some (.type "tuple",p.2.map some))
noncomputable def vP(w:AM)(t:List (Str×List Str)):Option (Bool×Value×Option Addr×Array (Option Value)×List aBI):=some (false,.type "dict",none,#[],t.map (qS w))
noncomputable def aAi(t:List (Str×List Str)):List (Str×D):=t.map λp=>(p.1,.tup (p.2.map D.str))
theorem xV:∀{us:List Value} {xs:List Str},us.map iR=xs.map some->aQ (xs.map V.str) us
 | [],[],_=>.nil|[],_::_,h=>by cases h|_::_,[],h=>by cases h|u::us,x::xs,h=>by rw[mC,mC] at h;obtain⟨q,I⟩:=G9 h;refine .cons ?_ (xV I);unfold iR at q;split at q;cases q;exact⟨_,rfl⟩;cases q
theorem aGJ{h:Heap}{w:AM}{e:Dt}{p:Str×List Str}(q:kZ h e=qS w p)(hl:p.2.length<=1000):ER w (fY h) e (p.1,.tup (p.2.map D.str)):=by unfold kZ qS at q;simp only[Ce] at q;obtain⟨q1,L,I⟩:=q;refine⟨q1,?_,?_⟩;unfold iR at L;split at L;rename_i y tk M;exact⟨tk,by rw[M];exact congrArg (λz=>GA z tk) (Ah L)⟩;cases L;split at I;rename_i b M;split at I;rename_i c d q0 n sl ho;have I:=Ah I;simp only[Ce] at I;obtain⟨e1,U⟩:=I;subst e1;have W:=congrArg CQ U;rw[lM,lM] at W;exact⟨.ref b,by rw[M];rfl,aBA (by rw[cJ];exact ho) p.2 (by rw[<-Cg,W];exact hl) (xV U)⟩;cases I;cases I
theorem oO{h:Heap}{w:AM}:∀{es:List Dt} {t:List (Str×List Str)},es.map (kZ h)=t.map (qS w)->(∀p∈t,p.2.length<=1000)->EK (ER w (fY h)) es (aAi t)
 | [],[],_,_=>.nil|[],_::_,q,_=>by cases q|_::_,[],q,_=>by cases q|e::es,p::t,q,hl=>by rw[mC,mC] at q;obtain⟨I,L⟩:=G9 q;exact .cons (aGJ I (hl p (Aj ..))) (oO L λU M=>hl U (Af _ M))
noncomputable def xW(t:List (Str×List Str)):Bool:=(t.all λp=>decide (p.2.length<=1000))&&decide (t.map (·.1)).Nodup
theorem aBJ{prog:A5}{h:Heap}{w:AM}{x:Str}{t:List (Str×List Str)}(e:qR h x=vP w t)(ok:xW t=true):∃a,nsIn (fY h) AF x=some (some (.ref a))/\oG prog w (fY h) a (aAi t):=by unfold xW at ok;rw[bA,AS] at ok;unfold qR vP at e;split at e;rename_i a L;split at e;rename_i c d es W sl M;have e:=Ah e;simp only[Ce] at e;obtain⟨q,rfl,rfl,rfl,I⟩:=e;refine⟨a,(dC h x).trans L,aGG q (by rw[cJ];exact M) (oO I λp U=>of_decide_eq_true (ok.1 p U)) ?_⟩;unfold aAi;rw[Bb];exact of_decide_eq_true ok.2;cases e;cases e
noncomputable def iS(h:Heap):List Str->Option (List Addr)
 | []=>some []|x::xs=>match fZ h x,iS h xs with|some (some (.ref a)),some as=>some (a::as)|_,_=>none
noncomputable def xX(h:Heap)(above:List (Str×List Cl))(cls:List Str):Bool:=match iS h cls with
 | some as=>above.all λca=>match fZ h ca.1 with|some (some (.ref C))=>vM (fY h) C (as.zip (cls.map λx=>ca.2.contains (.own x))) (ca.2.contains .tValueError)|_=>false
 | none=>false
structure Sn where
 cns:List (Str×D)
 tbs:List (Str×List (Str×List Str))
 above:List (Str×List Cl)
 cls:List Str
abbrev aEm:=List (Option Pin)×List (Option (Option Value))×Bool×List (Option (Bool×Value×Option Addr×Array (Option Value)×List aBI))×Bool
noncomputable def gN(p:A5)(n:Sn)(h:Heap):aEm:=
 ((p.main.body.filter tP).map (λst=>vN h (cE st)),bltNames.map (fZ h),n.cns.all (vO h),n.tbs.map (λq=>qR h q.1),xX h n.above n.cls)
noncomputable def jO(p:A5)(n:Sn)(w:AM):aEm:=
 ((p.main.body.filter tP).map (λst=>some (aBE st)),bltNames.map (λ_=>some none),true,n.tbs.map (λq=>vP w q.2),true)
noncomputable def tQ(p:A5)(i:Nat):B5:=p.main.body.getD i (.Pass ⟨0,0,0,0⟩)
noncomputable def kQ(p:A5)(c:Nat×List Str):Tx:=⟨cE (tQ p c.1),cE (tQ p c.1),tQ p c.1,c.2⟩
theorem aGK{p:A5}{i:Nat}(h:tP (tQ p i)=true):tQ p i∈p.main.body:=by
 unfold tQ at h ⊢;rw[List.getD_eq_getElem?_getD] at h ⊢;cases e:p.main.body[i]? with
 | none=>rw[e] at h;cases h|some s=>exact mG e
theorem aDC{h:Heap}{c:Str×D}(e:vO h c=true):∃u v,nsIn (fY h) AF c.1=some (some u)/\bC v u/\∀H ex,Rep (fY h) H ex c.2 v:=by unfold vO at e;split at e;rename_i u q;obtain⟨x,d⟩:=c;have e:aBH d u=true:=e;unfold aBH at e;split at e;cases of_decide_eq_true e;exact⟨_,.int _,(dC _ _).trans q,⟨_,rfl⟩,λ_ _=>rfl⟩;cases GX.mp e;exact⟨_,.str _,(dC _ _).trans q,⟨_,rfl⟩,λ_ _=>rfl⟩;exact⟨_,.non,(dC _ _).trans q,rfl,λ_ _=>rfl⟩;cases eq_of_beq e;exact⟨_,.bl _,(dC _ _).trans q,rfl,λ_ _=>rfl⟩;cases e;cases e
theorem xY{q h:Heap}{mg:Str->Option Value}(X:(fY q).In h)(I:h.Ns AF mg):∀{xs:List Str} {as:List Addr},iS q xs=some as->tM mg xs as
 | [],as,e=>by cases e;trivial|x::xs,as,e=>by unfold iS at e;split at e;rename_i a L M U;cases e;exact⟨mg_of X I ((dC q x).trans M),xY X I U⟩;cases e
theorem aGL{prog p:A5}{w:AM}{U h:Heap}{mg:Str->Option Value}{P:Pg}{Γ:Ct}{ix:List (Nat×List Str)}{n:Sn}(S:gN p n U=jO p n w)(k:∀b o,U.get? b=some o->h.get? b=some o)(M:h.Ns AF mg)
 (hi:(ix.all λc=>tP (tQ p c.1))=true) (h1:Γ.fns=(ix.map (kQ p)).map (·.x)) (h2:Γ.cns=n.cns) (h3:Γ.tbs=n.tbs.map (·.1)) (h4:P.tabs=n.tbs.map λq=>aAi q.2) (h5:(n.tbs.all λq=>xW q.2)=true) (h6:P.above=n.above) (h7:Γ.cls=n.cls) (h8:(Γ.rsd.all λc=>(P.above.lookup c).isSome)=true)
 (hb:((P.fns.zip (ix.map (kQ p))).all λq=>gM (gJ q.2.st) (q.2.N.take q.1.np))=true) (chk:fX Γ P.fns (ix.map (kQ p))=true) :
 Top prog w (fY U) mg P Γ (ix.map (kQ p)):=by
 unfold gN jO at S;simp only[Ce] at S;obtain⟨s1,s2,s3,s4,s5⟩:=S;have X:=xU k;unfold xX at s5;split at s5;rename_i as hr;have ma:=xY X M hr;rw[AS] at s5;exact {
  fn:=λf t W=>by rw[A6] at W;obtain⟨c,L,rfl⟩:=Bj.mp W;have hd:=AS.mp hi c (mG L);obtain⟨fa,fd,g1,g2⟩:=aDB (DC.mp s1 _ (Ee.mpr ⟨aGK hd,hd⟩));refine⟨fa,fd,mg_of X M g1,g2,λF hF=>g2.binds λkV doc pm an cdv ct us hl=>mP (AS.mp hb (F,kQ p c) (mG (i:=f) ?_)) hl⟩;rw[D4];exact⟨hF,by rw[A6,L];rfl⟩
  fns:=λf x I=>by rw[h1,A6] at I;obtain⟨t,W,rfl⟩:=Bj.mp I;exact⟨t,W,rfl⟩
  blt:=λx I=>mg_none_of X M ((dC U x).trans (DC.mp s2 x I))
  cns:=λx d I=>by rw[h2] at I;obtain⟨u,v,g1,g2⟩:=aDC (AS.mp s3 _ (Bf I));exact⟨u,v,mg_of X M g1,g2⟩
  tab:=λi x I=>by rw[h3,A6] at I;obtain⟨q,hq,rfl⟩:=Bj.mp I;have hm:=mG hq;obtain⟨a,g1,g2⟩:=aBJ (prog:=prog) (DC.mp s4 q hm) (AS.mp h5 q hm);exact⟨a,aAi q.2,mg_of X M g1,by rw[h4,A6,hq];rfl,g2⟩
  exc:=λc ab L=>by rw[h6] at L;have z:=s5 (c,ab) (Bf L);split at z;rename_i C hn;refine⟨C,aBz (as:=as) (mg_of X M ((dC U c).trans hn)) ((dC U c).trans hn) ?_ ?_⟩;rw[h7];exact z;rw[h7];exact ma;cases z
  rsd:=λc L=>Br.mp (AS.mp h8 c L)
  cls:=λx I=>aAg ma x (by rw[<-h7];exact I)
  chk:=chk }
 cases s5
theorem aBK{l:FR}{n k:Nat}{q:A5}{M:List Str}{XP:(Str->Option Value)->Heap->Prop}{YP:AM->Heap->Prop}{d:DefRec}{sp:Ai->Sp}{x:Str}(hn:l.most=some n)(q2:n<=sizeLine)(q0:d.params.defaults=[])(hr:jC k DZ)
 (F:∀(w:AM) (mg:Str->Option Value) (fa:Addr) (h:Heap),YP w h->h.Ns AF mg->mg d.name=some (.ref fa)->∃K:Ai,K.In h/\∃fd:Cv,(∀(s:Ad) (u:Value),GK s fd ⟨[u],[]⟩ [(x,u)])/\∀base:Heap,K.In base->base.Ns AF mg->nJ l.prog w K mg base (CX1 l.prog w) k fa fd [x] (sp K))
 (q3:∀(K:Ai) (H:Hp) (a:Addr) (ns:List Int),ns.length<=n->aCY H->SqL K H a (ns.map V.int)->sp K [.ref a] H (λv _=>v=.bl true) λ_ _ _=>False):PySem.W.WalkO q M XP YP l.row.toRowW d [] (λf vs=>Gf f vs):=by refine Att.attach_call hn q0 λw s₀ q4 mg mb fa o pm cd doc a vs ns U Y ho hd q5 q1 W L I hg=>?_;obtain⟨K,KX,fd,hb,hF⟩:=F w mg fa _ Y U.T.g q1;exact aAH KX U.T.g U.T.b U.T.builtins U.T.nolimit hg W L (AH I q2) hr hF hb (λH hO hS=>q3 K H a ns I hO hS) λ_ _ _ z=>aAf z
noncomputable def lst(p:A5):B5:=p.main.body.getLastD (.Pass ⟨0,0,0,0⟩)
noncomputable def oP(p:A5):A5:={ p with main:={ p.main with body:=[lst p] } }
noncomputable def qT(p:A5):List Str:=(p.main.scope.names.map (·.1)).filter λx=>!(F2 x (cE (lst p)))
noncomputable def aGM(s:B5):Cf:=match s with|.FunctionDef _ _ _ _ _ _ _ _ _ p=>p|_=>⟨0,0,0,0⟩
noncomputable def iA(p:A5):DefRec:=⟨cE (lst p),gJ (lst p),iI (lst p),bO (lst p),aGM (lst p)⟩
theorem aGN{l:FR}{P:Pg}{n:Sn}{rsd:List Str}{ix:List (Nat×List Str)}{k f N:Nat}{x:Str}{sl:List Str}(q0:l.row.wellSaid=true)(W:HX l.prog (oP l.prog) (qT l.prog) (λ_=>true) (λs=>gN l.prog n s.heap) (λw=>jO l.prog n w) N)
 (U:defOf (oP l.prog) l.name=some (iA l.prog,[])) (hp:l.prog.theDef l.name=some ((iA l.prog).params,(iA l.prog).body,(iA l.prog).scope)) (hk:kwWritten? (iA l.prog).params.kwonlyargs (iA l.prog).params.kw_defaults=some []) (q4:(!l.writes||([]:WRecords).isEmpty)=true)
 (ok:(chainsOk (oP l.prog)&&opensWell l.prog&&(frees l.row.toRowW&&l.row.within.isEmpty))=true) (hb:l.prog.bare) (hw:l.row.toRowW.promised) (hn:l.most=some 63) (q1:(iA l.prog).params.defaults=[])
 (hi:(ix.all λc=>tP (tQ l.prog c.1))=true) (M:((P.fns.zip (ix.map (kQ l.prog))).all λq=>gM (gJ q.2.st) (q.2.N.take q.1.np))=true) (chk:fX ⟨[],[],(ix.map (kQ l.prog)).map (·.x),n.cns,n.cls,true,n.tbs.map (·.1),rsd⟩ P.fns (ix.map (kQ l.prog))=true)
 (h4:P.tabs=n.tbs.map λq=>aAi q.2) (h5:(n.tbs.all λq=>xW q.2)=true) (h6:P.above=n.above) (h8:(rsd.all λc=>(P.above.lookup c).isSome)=true) (hr:jC (k+1) DZ) (hx:(ix.map (kQ l.prog))[f]? = some ⟨cE (lst l.prog),cE (lst l.prog),lst l.prog,x::sl⟩) (q3:(P.fns[f]?).map (·.np)=some 1)
 (pure:∀ns:List Int,ns.length<=63->∃fr pa,Hp.call P (k+1) f [.lst (ns.map D.int)]=.ok (.bl true,fr,pa)):l.row.Holds:=by refine holds_open (XP:=λ_ _=>True) (YP:=λw h=>∃I,gN l.prog n I=jO l.prog n w/\∀b o,I.get? b=some o->h.get? b=some o) W (λw s e=>⟨s.heap,e,λ_ _ z=>z⟩) (λw h h' ⟨I,e,k⟩ k'=>⟨I,e,λb o z=>k' b o (k b o z)⟩) (λ_ _=>trivial) (λ_ _ _ _ _=>trivial) U hp hk (λ_ _=>recFacts_nil rfl) q4 q0 ok hb hw ?_;obtain⟨F,hF,L⟩:=Bj.mp q3;refine aBK (sp:=λK=>spF K P (k+1) f) (x:=x) hn (by decide) q1 hr (λw mg fa h ⟨I,e,kk⟩ G' q2=>?_) λK H a ns hl hO hS=>aGF hO hS (pure ns hl);have T:=aGL (prog:=l.prog) (w:=w) (P:=P) (Γ:=⟨[],[],(ix.map (kQ l.prog)).map (·.x),n.cns,n.cls,true,n.tbs.map (·.1),rsd⟩) e kk G' hi rfl rfl rfl h4 h5 h6 rfl h8 M chk;obtain⟨q5,fd,g1,g2,g3⟩:=T.fn f _ hx;have e:=q2.symm.trans g1;cases e;have b:=g3 F hF;refine⟨fY I,xU kk,fd,λs u=>?_,λbase _ _=>?_⟩;obtain⟨oc,od,kV,doc,pm,an,cdv,ct,osl,rfl,lk,q6⟩:=g2.ex;refine .of_eq ((mP (ps:=[x]) ?_ rfl).trans rfl);have:=AS.mp M (F,_) (mG (i:=f) (D4.mpr ⟨hF,hx⟩));rw[L] at this;exact this;have:=aGE (base:=base) T hx hF g2 k;rw[L] at this;exact this
end Hh
namespace Hp
open PySem (Str Operator CmpOp)
section
variable {P:Pg} {cl:Caller} {Z:Sg}
@[simp] theorem aB {α q:Type} (a:α) (f:α->R q):((R.ok a:R α) >>= f)=f a:=id rfl
@[simp] theorem aBL {α:Type} (x:R α):R.iff true x=x:=id rfl
@[simp] theorem aLB {α:Type} (x:α):R.of (some x)=.ok x:=id rfl
@[simp] theorem aI {α:Type} (a:α) (f:α->O):O.from Z (.ok a) f=f a:=id rfl
@[simp] theorem vQ (f:Sg->O):(O.next Z).on f=f Z:=id rfl
@[simp] theorem tR (v:Vl) (f:Sg->O):(O.ret v).on f=.ret v:=id rfl
@[simp] theorem aP (d:D):ev P cl Z (.c d)=.ok (.cl d):=id rfl
@[simp] theorem dW (i:Nat):ev P cl Z (.v i)=bJ Z i:=id rfl
@[simp] theorem dX (o:Operator) (a b:E):ev P cl Z (.op o a b)=(ev P cl Z a >>= λx=>ev P cl Z b >>= λy=>opD o x y):=id rfl
@[simp] theorem aKQ (a:E):ev P cl Z (.neg a)=(ev P cl Z a >>= λx=>match x.d with|.int i=>.ok (.cl (.int (-i)))|_=>.bad):=id rfl
@[simp] theorem aLw (a:E):ev P cl Z (.nt a)=(ev P cl Z a >>= λx=>eK x >>= λk=>.ok (.cl (.bl (!k)))):=id rfl
@[simp] theorem aJp (a b:E):ev P cl Z (.an a b)=(ev P cl Z a >>= λx=>match x.d with|.bl true=>ev P cl Z b|.bl false=>.ok (.cl (.bl false))|_=>.bad):=id rfl
@[simp] theorem aKR (a b:E):ev P cl Z (.orr a b)=(ev P cl Z a >>= λx=>match x.d with|.bl true=>.ok (.cl (.bl true))|.bl false=>ev P cl Z b|_=>.bad):=id rfl
@[simp] theorem aKS (t a b:E):ev P cl Z (.ife t a b)=(tst P cl Z t >>= λx=>if x then ev P cl Z a else ev P cl Z b):=id rfl
@[simp] theorem aGO (o:CmpOp) (a b:E):ev P cl Z (.cmp o a b)=(ev P cl Z a >>= λx=>ev P cl Z b >>= λy=>match bT o x.d y.d with|some k=>.ok (.cl (.bl k))|none=>.bad):=id rfl
@[simp] theorem aJR (o o':CmpOp) (a b c:E):ev P cl Z (.cmp2 o o' a b c)=(ev P cl Z a >>= λx=>ev P cl Z b >>= λy=>match bT o x.d y.d with
 | some true=>ev P cl Z c >>= λz=>(match bT o' y.d z.d with|some k=>.ok (.cl (.bl k))|none=>.bad)
 | some false=>.ok (.cl (.bl false))|none=>.bad):=id rfl
@[simp] theorem jP (a b:E):ev P cl Z (.idx a b)=(ev P cl Z a >>= λx=>ev P cl Z b >>= λy=>bW x y):=id rfl
@[simp] theorem qU (es:Es):ev P cl Z (.tup es)=(evs P cl Z es >>= λvs=>.ok (wJ vs)):=id rfl
@[simp] theorem eI (es:Es):ev P cl Z (.lst es)=(evs P cl Z es >>= λvs=>.ok (rX vs)):=id rfl
@[simp] theorem bZ (f:Nat) (es:Es):ev P cl Z (.call f es)=(evs P cl Z es >>= λvs=>cl f (vs.map (·.d)) >>= λr=>.ok (eT vs r)):=id rfl
@[simp] theorem oQ (b:Bi) (es:Es):ev P cl Z (.bi b es)=(evs P cl Z es >>= λvs=>biD b vs):=id rfl
@[simp] theorem aKT (a:E) (cs:List Cl):ev P cl Z (.isi a cs)=(ev P cl Z a >>= λx=>match isI cs P x.d with|some k=>.ok (.cl (.bl k))|none=>.bad):=id rfl
@[simp] theorem cB {α:Type} (a:α):(R.ok a).calm=R.ok a:=id rfl
theorem xZ(k:Nat)(caps:List Nat)(t:T)(it:It)(cond:Es)(elt:E):ev P cl Z (.comp k caps t it cond elt)=(walk P cl Z it >>= λxs=>.iff (decide (xs.1.length<=lim)) (
 cR (λx=>aY (Ae k .dead++caps.map λi=>((freeze Z xs.2)[i]?).getD .dead) x t >>= λZ1=>(tsts P cl Z1 cond).calm >>= λk=>if k then (ev P cl Z1 elt >>= λy=>.ok (some y)) else .ok none) xs.1 >>= λvs=>
 .ok (dJ k caps xs.2 vs))):=rfl
@[simp] theorem bV:evs P cl Z .nil=.ok []:=id rfl
@[simp] theorem aE (e:E) (es:Es):evs P cl Z (.cons e es)=(ev P cl Z e >>= λx=>evs P cl Z es >>= λxs=>.ok (x::xs)):=id rfl
@[simp] theorem aGP (a:E):tst P cl Z (.nt a)=(tst P cl Z a >>= λx=>.ok (!x)):=id rfl
@[simp] theorem aKU (a b:E):tst P cl Z (.an a b)=(tst P cl Z a >>= λx=>if x then tst P cl Z b else .ok false):=id rfl
@[simp] theorem gO (a b:E):tst P cl Z (.orr a b)=(tst P cl Z a >>= λx=>if x then .ok true else tst P cl Z b):=id rfl
@[simp] theorem aLx (d:D):tst P cl Z (.c d)=eK (.cl d):=id rfl
@[simp] theorem aLy (i:Nat):tst P cl Z (.v i)=(bJ Z i >>= λx=>eK x):=id rfl
@[simp] theorem cF (o:CmpOp) (a b:E):tst P cl Z (.cmp o a b)=(ev P cl Z a >>= λx=>ev P cl Z b >>= λy=>match bT o x.d y.d with|some k=>.ok k|none=>.bad):=id rfl
@[simp] theorem aBM (o o':CmpOp) (a b c:E):tst P cl Z (.cmp2 o o' a b c)=(ev P cl Z a >>= λx=>ev P cl Z b >>= λy=>match bT o x.d y.d with
 | some true=>ev P cl Z c >>= λz=>(match bT o' y.d z.d with|some k=>.ok k|none=>.bad)
 | some false=>.ok false|none=>.bad):=id rfl
@[simp] theorem aBN (f:Nat) (es:Es):tst P cl Z (.call f es)=(evs P cl Z es >>= λvs=>cl f (vs.map (·.d)) >>= λr=>eK (eT vs r)):=id rfl
@[simp] theorem aJS (a:E) (cs:List Cl):tst P cl Z (.isi a cs)=(ev P cl Z a >>= λx=>match isI cs P x.d with|some k=>.ok k|none=>.bad):=id rfl
@[simp] theorem aJT (a b:E):tst P cl Z (.idx a b)=(ev P cl Z a >>= λx=>ev P cl Z b >>= λy=>bW x y >>= λz=>eK z):=id rfl
@[simp] theorem aJq:tsts P cl Z .nil=.ok true:=id rfl
@[simp] theorem aHm (e:E) (es:Es):tsts P cl Z (.cons e es)=(tst P cl Z e >>= λx=>if x then tsts P cl Z es else .ok false):=id rfl
@[simp] theorem tU (a b:E):walk P cl Z (.rng a b)=(ev P cl Z a >>= λx=>ev P cl Z b >>= λy=>match x.d,y.d with|.int i,.int j=>.iff (aR i&&aR j) (.ok ((bQ i j).map .cl,[]))|_,_=>.bad):=id rfl
@[simp] theorem aBO (e:E):walk P cl Z (.seq e)=(ev P cl Z e >>= λx=>match x.d with
 | .lst ds=>.ok (items x ds,x.al)|.tup ds=>.ok (items x ds,x.al)|.str a=>.iff (decide (a.length<=lim)) (.ok (a.cps.toList.map λn=>.cl (.str ⟨#[n]⟩),[]))|_=>.bad):=id rfl
@[simp] theorem aBP (a b:E):walk P cl Z (.zip a b)=(ev P cl Z a >>= λx=>ev P cl Z b >>= λy=>match rY x.d,rY y.d with
 | some as,some bs=>.ok (items ⟨.non,false,x.pa||y.pa,x.al++y.al⟩ (jD as bs),x.al++y.al)|_,_=>.bad):=id rfl
@[simp] theorem fF (t:T) (e:E):ex P cl Z (.set t e)=O.from Z (ev P cl Z e) λv=>O.from Z (aY (freeze Z v.al) v t) .next:=id rfl
@[simp] theorem aGQ (i:Nat) (e:E):ex P cl Z (.app i e)=O.from Z (ev P cl Z e).calm λv=>put Z i v λds=>some (ds++[v.d]):=id rfl
@[simp] theorem aBQ (i:Nat) (k e:E):ex P cl Z (.setIx i k e)=O.from Z (ev P cl Z e) λv=>O.from Z (ev P cl Z k).calm λq=>match q.d with
 | .int k=>put Z i v λds=>(match ixN ds.length k with|some j=>some (ds.set j v.d)|none=>none)
 | _=>.bad:=id rfl
@[simp] theorem mQ (e:E):ex P cl Z (.ret e)=O.from Z (ev P cl Z e) .ret:=id rfl
@[simp] theorem bL (c:E) (a b:Ss):ex P cl Z (.iff c a b)=O.from Z (tst P cl Z c) λk=>if k then exs P cl Z a else exs P cl Z b:=id rfl
theorem iB(t:T)(it:It)(b:Ss):ex P cl Z (.for t it b)=O.from Z (walk P cl Z it) λxs=>bB (λZ x=>O.from Z (aY Z x t) λZ'=>exs P cl Z' b) xs.1 (freeze Z xs.2):=rfl
@[simp] theorem aKV (i j:Nat):ex P cl Z (.mov i j)=(match Z[j]? with
 | some (.own pa ds)=>if i=j then .bad else .next ((Z.set j .dead).set i (.own pa ds))|some (.sh pa d)=>.next (Z.set i (.sh (pa&&!noL d) d))|_=>.bad):=id rfl
@[simp] theorem aJU (i:Nat):ex P cl Z (.retv i)=(match Z[i]? with|some (.own pa ds)=>.ret ⟨.lst ds,true,pa,[]⟩|_=>O.from Z (bJ Z i) .ret):=id rfl
@[simp] theorem fG:exs P cl Z .nil=.next Z:=id rfl
@[simp] theorem aW (s:S) (ss:Ss):exs P cl Z (.cons s ss)=(ex P cl Z s).on λZ'=>exs P cl Z' ss:=id rfl
end
theorem aX{P:Pg}{cl:Caller}{f:Nat}{F:Fn}{ds:List D}(q:P.fns[f]? = some F)(I:ds.length=F.np){v:Vl}
 (h:exs P cl ((ds.map λd=>Sl.sh true d)++Ae (F.ns-F.np) Sl.dead) F.body=.ret v):gW P cl f ds=.ok (v.d,v.fr,v.pa):=by unfold gW;rw[q];simp only[I,if_true,h]
theorem iT{f:Sg->Vl->O}:∀(xs:List Vl) (I:Nat->Sg->Prop) (Z:Sg),I 0 Z->(∀(i:Nat) (h:i<xs.length) (Z:Sg),I i Z->∃Z',f Z xs[i]=.next Z'/\I (i+1) Z')->∃Z',bB f xs Z=.next Z'/\I xs.length Z'
 | [],I,Z,h0,_=>⟨Z,rfl,h0⟩
 | x::xs,I,Z,h0,hs=>by
  obtain⟨Z1,q,U⟩:=hs 0 (by simp) Z h0;obtain⟨L,M,W⟩:=iT xs (λi=>I (i+1)) Z1 U λi h Z hI=>by have:=hs (i+1) (by simpa using h) Z hI;simpa using this
  refine⟨L,?_,by simpa using W⟩;have q:f Z x=.next Z1:=by simpa using q
  unfold bB;rw[q];exact M
theorem mR{f:Vl->R (Option Vl)}{g:Vl->Vl}:∀{xs:List Vl},(∀x∈xs,f x=.ok (some (g x)))->cR f xs=.ok (xs.map g)
 | [],_=>rfl|x::xs,h=>by have I:=h x Aj;have L:=mR (f:=f) (g:=g) (xs:=xs) λy M=>h y (Af _ M);show(f x >>= λy=>cR f xs >>= λq=>(match y with|some y=>R.ok (y::q)|none=>R.ok q))=_;rw[I,L];rfl
theorem qV(n:Nat):(bQ 0 (n:Int)).map Vl.cl=(Bt n).map λ(k:Nat)=>Vl.cl (.int (k:Int)):=by unfold bQ;rw[Bb];simp
theorem qW{P:Pg}{cl:Caller}{Z:Sg}{k:Nat}{caps:List Nat}{t:T}{it:It}{elt:E}{xs:List Vl}{al:List Nat}(g:Vl->Vl)(M:walk P cl Z it=.ok (xs,al))(L:xs.length<=lim)
 (hb:∀x∈xs,∃Z1,aY (Ae k .dead++caps.map λi=>((freeze Z al)[i]?).getD .dead) x t=.ok Z1/\ev P cl Z1 elt=.ok (g x)):ev P cl Z (.comp k caps t it .nil elt)=.ok (dJ k caps al (xs.map g)):=by
 rw[xZ,M,aB,mR (g:=g) λx U=>by
  obtain⟨Z1,q,I⟩:=hb x U;show(aY _ x t >>= λZ1=>_)=_;rw[q];show(ev P cl Z1 elt >>= λy=>R.ok (some y))=_;rw[I];rfl]
 show R.iff (decide (xs.length<=lim)) (R.ok (dJ k caps al (HY g xs)))=_;rw[Ay L,aBL]
theorem qX{P:Pg}{cl:Caller}{Z:Sg}{t:T}{it:It}{b:Ss}{xs:List Vl}{al:List Nat}(I:Nat->Sg->Prop)(W:walk P cl Z it=.ok (xs,al))(M:I 0 (freeze Z al))
 (hs:∀(i:Nat) (h:i<xs.length) (Z:Sg),I i Z->∃Z1 Z',aY Z xs[i] t=.ok Z1/\exs P cl Z1 b=.next Z'/\I (i+1) Z'):∃Z',ex P cl Z (.for t it b)=.next Z'/\I xs.length Z':=by rw[iB,W];refine iT xs I _ M λi h Z U=>?_;obtain⟨Z1,Z',q,L,h'⟩:=hs i h Z U;refine⟨Z',?_,h'⟩;show O.from Z (aY Z xs[i] t) _=_;rw[q];exact L
theorem yA:aR 0=true:=by decide
theorem lB{n:Nat}(q:n<=1000000):aR (n:Int)=true:=by unfold aR;rw[bA,AT,AT];exact⟨Int.le_trans (b:=0) (by decide) (CP n),Int.lt_of_le_of_lt (b:=1000000) (by omega) (by decide)⟩
theorem mT{P:Pg}{cl:Caller}{Z:Sg}{a:E}{v:Vl}{n:Nat}(h:ev P cl Z a=.ok v)(hd:v.d=.int n)(q:n<=1000000):walk P cl Z (.rng (.c (.int 0)) a)=.ok ((Bt n).map λ(k:Nat)=>Vl.cl (.int (k:Int)),[]):=by rw[tU,h,aP,aB,aB,hd,<-qV];show R.iff (aR 0&&aR (n:Int)) _=_;rw[yA,lB q];rfl
theorem aAj{k:Nat}{caps al:List Nat}{vs:List Vl}(h:noLs (vs.map (·.d))=true):dJ k caps al vs=⟨.lst (vs.map (·.d)),true,false,[]⟩:=by unfold dJ;rw[if_pos h]
end Hp
namespace Hp
open PySem (Str)
@[simp] theorem aJV (d:D):(⟨d,false,false,[]⟩:Vl)=.cl d:=id rfl
@[simp] theorem dI (d:D):(Vl.cl d).d=d:=id rfl
@[simp] theorem aLz (d:D):(Vl.cl d).fr=false:=id rfl
@[simp] theorem aLA (d:D):(Vl.cl d).pa=false:=id rfl
@[simp] theorem oR (d:D):(Vl.cl d).al=[]:=id rfl
@[simp] theorem dP (d:D):(Vl.cl d).slot=.sh false d:=by cases d <;> rfl
@[simp] theorem aJW (ds:List D) (pa:Bool) (al:List Nat):(⟨.lst ds,true,pa,al⟩:Vl).slot=.own pa ds:=id rfl
@[simp] theorem bD (i:Nat) (d:D):Sl.val i (.sh false d)=.ok (.cl d):=id rfl
@[simp] theorem gP (i:Nat) (pa:Bool) (k:Int):Sl.val i (.sh pa (.int k))=.ok (.cl (.int k)):=by cases pa <;> rfl
@[simp] theorem yB (i:Nat) (pa:Bool) (k:Str):Sl.val i (.sh pa (.str k))=.ok (.cl (.str k)):=by cases pa <;> rfl
@[simp] theorem vR (i:Nat) (pa:Bool) (k:Bool):Sl.val i (.sh pa (.bl k))=.ok (.cl (.bl k)):=by cases pa <;> rfl
@[simp] theorem aJX (i:Nat) (pa:Bool):Sl.val i (.sh pa .non)=.ok (.cl .non):=by cases pa <;> rfl
@[simp] theorem gQ (i:Nat) (ds:List D):Sl.val i (.sh true (.lst ds))=.ok ⟨.lst ds,false,true,[]⟩:=id rfl
theorem yC(i:Nat)(pa:Bool){d:D}(h:noL d=true):Sl.val i (.sh pa d)=.ok (.cl d):=by unfold Sl.val;simp[h]
@[simp] theorem aDD (i:Nat) (pa:Bool) (ds:List D):Sl.val i (.own pa ds)=.ok ⟨.lst ds,false,pa,[i]⟩:=id rfl
@[simp] theorem eD (Z:Sg) (v:Vl) (i:Nat):aY Z v (.n i)=.ok (Z.set i v.slot):=id rfl
@[simp] theorem bM (Z:Sg):freeze Z []=Z:=id rfl
@[simp] theorem aKW (b:Bool):eK (.cl (.bl b))=.ok b:=id rfl
@[simp] theorem aBR (args:List Vl) (d:D):eT args (d,false,false)=.cl d:=id rfl
@[simp] theorem aKX (args:List Vl) (d:D):eT args (d,true,false)=⟨d,true,false,[]⟩:=id rfl
@[simp] theorem gC (a b:D):bT .Eq a b=eqD a b:=id rfl
@[simp] theorem aKY (a b:D):bT .NotEq a b=(eqD a b).map (!·):=id rfl
@[simp] theorem mU (a b:Int):bT .Lt (.int a) (.int b)=some (decide (a<b)):=id rfl
@[simp] theorem aBS (a b:Int):bT .Gt (.int a) (.int b)=some (decide (b<a)):=id rfl
@[simp] theorem aKZ (a b:Int):bT .LtE (.int a) (.int b)=some (decide (a<=b)):=id rfl
@[simp] theorem gR (a b:Int):eqD (.int a) (.int b)=some (a==b):=id rfl
@[simp] theorem qY (a b:Str):eqD (.str a) (.str b)=some (a==b):=id rfl
@[simp] theorem aLa (a b:Bool):eqD (.bl a) (.bl b)=some (a==b):=id rfl
@[simp] theorem aJY (P:Pg) (k:Int):isI [.tInt] P (.int k)=some true:=id rfl
@[simp] theorem aJr (P:Pg) (k:Int):isI [.tBool] P (.int k)=some false:=id rfl
@[simp] theorem aJZ (P:Pg) (k:Str):isI [.tStr] P (.str k)=some true:=id rfl
@[simp] theorem aKa (P:Pg) (k:List D):isI [.tTuple] P (.tup k)=some true:=id rfl
@[simp] theorem aKb (P:Pg) (k:List D):isI [.tList] P (.lst k)=some true:=id rfl
@[simp] theorem aLb (P:Pg) (k:Bool):isI [.tBool] P (.bl k)=some true:=id rfl
@[simp] theorem add_int (i j:Int):opD .Add (.cl (.int i)) (.cl (.int j))=.ok (.cl (.int (i+j))):=id rfl
@[simp] theorem sub_int (i j:Int):opD .Sub (.cl (.int i)) (.cl (.int j))=.ok (.cl (.int (i-j))):=id rfl
theorem mul_int{i j:Int}(h:oA i j=true):opD .Mult (.cl (.int i)) (.cl (.int j))=.ok (.cl (.int (i*j))):=by show R.iff (oA i j) _=_;rw[h];rfl
theorem cL{i j:Int}(h:rV j=true):opD .FloorDiv (.cl (.int i)) (.cl (.int j))=.ok (.cl (.int (i / j))):=by show R.iff (rV j) _=_;rw[h];rfl
theorem eE{i j:Int}(h:0<j):opD .Mod (.cl (.int i)) (.cl (.int j))=.ok (.cl (.int (i % j))):=by show R.iff (decide (0<j)) _=_;rw[Ay h];rfl
@[simp] theorem fH (ds:List D) (fr pa:Bool) (al:List Nat):biD .len [⟨.lst ds,fr,pa,al⟩]=.ok (.cl (.int ds.length)):=id rfl
@[simp] theorem aKc (ds:List D):biD .len [.cl (.tup ds)]=.ok (.cl (.int ds.length)):=id rfl
@[simp] theorem aJs (ds:List D):biD .len [.cl (.lst ds)]=.ok (.cl (.int ds.length)):=id rfl
end Hp
namespace HpS
open Hp PySem
section
variable {P:Pg} {cl:Caller} {Z Z':Sg}
theorem cs{s:S}{ss:Ss}{o:O}(h:ex P cl Z s=.next Z')(r:exs P cl Z' ss=o):exs P cl Z (.cons s ss)=o:=by rw[aW,h,vQ,r]
theorem dL{i:Nat}{e:E}{d:D}(h:ev P cl Z e=.ok (.cl d)):ex P cl Z (.set (.n i) e)=.next (Z.set i (.sh false d)):=by rw[fF,h,aI,oR,bM,eD,aI,dP]
theorem eO{e:E}{ss:Ss}{v:Vl}(h:ev P cl Z e=.ok v):exs P cl Z (.cons (.ret e) ss)=.ret v:=by rw[aW,mQ,h];rfl
theorem cQ{c:E}{a:Ss}(h:tst P cl Z c=.ok false):ex P cl Z (.iff c a .nil)=.next Z:=by rw[bL,h];rfl
theorem oU{c:E}{a b ss:Ss}{v:Vl}(h:tst P cl Z c=.ok true)(r:exs P cl Z a=.ret v):exs P cl Z (.cons (.iff c a b) ss)=.ret v:=by rw[aW,bL,h,aI,if_pos rfl,r];rfl
theorem jQ{a b:E}{x y z:Vl}(h:ev P cl Z a=.ok x)(k:ev P cl Z b=.ok y)(e:bW x y=.ok z):ev P cl Z (.idx a b)=.ok z:=by rw[jP,h,aB,k,aB,e]
theorem aLc{a b:E}{x y:Bool}(q:ev P cl Z a=.ok (.cl (.bl x)))(I:ev P cl Z b=.ok (.cl (.bl y))):ev P cl Z (.an a b)=.ok (.cl (.bl (x&&y))):=by rw[aJp,q,aB];cases x;rfl;exact I
theorem dB{o:Operator}{a b:E}{x y z:Vl}(h:ev P cl Z a=.ok x)(k:ev P cl Z b=.ok y)(e:opD o x y=.ok z):ev P cl Z (.op o a b)=.ok z:=by rw[dX,h,aB,k,aB,e]
theorem aJt{o:CmpOp}{a b:E}{x y:Vl}{k:Bool}(h:ev P cl Z a=.ok x)(g:ev P cl Z b=.ok y)(e:bT o x.d y.d=some k):ev P cl Z (.cmp o a b)=.ok (.cl (.bl k)):=by rw[aGO,h,aB,g,aB,e]
theorem kH{b:Bi}{a:E}{x z:Vl}(h:ev P cl Z a=.ok x)(e:biD b [x]=.ok z):ev P cl Z (.bi b (.cons a .nil))=.ok z:=by
 have q:evs P cl Z (.cons a .nil)=.ok [x]:=by rw[aE,h];rfl
 rw[oQ,q,aB,e]
end
end HpS
namespace Hp
open PySem (Str)
theorem iU{α:Type}{g:α->D}(q:∀t,noL (g t)=true):∀ts:List α,noLs (ts.map g)=true
 | []=>rfl|t::ts=>by rw[mC,noLs,q t,iU q ts];rfl
theorem aAk{α:Type}{v:Vl}{g:α->D}(q:∀t,noL (g t)=true)(ts:List α):items v (ts.map g)=ts.map λt=>Vl.cl (g t):=by unfold items;rw[Bb];refine CG λt _=>?_;show Vl.sub v (g t)=_;unfold Vl.sub;rw[if_pos (q t)]
theorem aDE{a b:D}(q:noL a=true)(hb:noL b=true):noL (.tup [a,b])=true:=by simp[noL,noLs,q,hb]
end Hp
namespace Hp
section
variable {P:Pg} {cl:Caller} {Z:Sg} {l:Nat}
theorem aDF(d:D):noAl (.cl d) Z=.ok (.cl d,Z):=id rfl
theorem aEn(a:E):evl P cl l Z (.e a)=(ev P cl Z a >>= λx=>noAl x Z):=id rfl
theorem aGR(o:PySem.Operator)(a b:EL):evl P cl l Z (.op o a b)=(evl P cl l Z a >>= λx=>evl P cl l x.2 b >>= λy=>opD o x.1.nr y.1.nr >>= λz=>noAl z y.2):=id rfl
theorem yE(a b:EL):evl P cl l Z (.idx a b)=(evl P cl l Z a >>= λx=>evl P cl l x.2 b >>= λy=>bW x.1.nr y.1.nr >>= λz=>noAl z y.2):=id rfl
theorem yF(es:ELs):evl P cl l Z (.tup es)=(evls' P cl l Z es >>= λr=>.ok (⟨.tup (r.1.map (·.d)),false,anyPa r.1,[]⟩,r.2)):=id rfl
theorem iC(e:EL)(es:ELs):evls' P cl l Z (.cons e es)=(evl P cl l Z e >>= λx=>evls' P cl l x.2 es >>= λr=>.ok (x.1::r.1,r.2)):=id rfl
theorem fI(i l:Nat)(fz:List Nat)(e:EL):ex P cl Z (.setL i l fz e)=O.from Z (evl P cl l (freeze Z fz) e).calm λr=>.next (r.2.set i r.1.slot):=id rfl
theorem yG(i l:Nat)(e:EL):ex P cl Z (.appL i l e)=if (jX Z i).isSome then O.from Z (evl P cl l Z e).calm λr=>put r.2 i r.1.nr λds=>some (ds++[r.1.d]) else .bad:=id rfl
theorem qZ(e:EL):ex P cl Z (.retL e)=O.from Z (evl P cl 0 Z e).calm λr=>jZ r.1 r.2:=id rfl
theorem yH(o:PySem.CmpOp)(a:EL)(b:E)(x y:Ss):ex P cl Z (.iffL o a b x y)=O.from Z (evl P cl 0 Z a).calm λr=>O.from r.2 (ev P cl r.2 b).calm λz=>match bT o r.1.d z.d with|some k=>if k then exs P cl r.2 x else exs P cl r.2 y|none=>.bad:=id rfl
theorem aBT(d:D)(c:List D)(r:Sg):jZ (.cl d) (.lent c::r)=.ret (.cl (.tup [d,.err ⟨#[]⟩ c])):=id rfl
theorem tV{f:Nat}{es:ELs}{vs:List Vl}{c I L:List D}{r r1:Sg}{d:D}(hf:jY P f=true)(M:evls' P cl 0 (.lent c::r) es=.ok (vs,.lent I::r1))(U:cl f (.err ⟨#[]⟩ I::vs.map (·.d))=.ok (.tup [d,.err ⟨#[]⟩ L],false,false)) :
 evl P cl 0 (.lent c::r) (.call f es)=.ok (.cl d,.lent L::r1):=by show R.iff ((bG (.lent c::r) 0).isSome&&jY P f) (evls' P cl 0 (.lent c::r) es >>= λr=>_)=_;rw[hf,M];show(cl f (.err ⟨#[]⟩ I::vs.map (·.d)) >>= λq=>_)=_;rw[U];rfl
theorem jR{f:Nat}{es:ELs}{vs:List Vl}{Z1:Sg}{z:Bool×List D}{pa fr L:Bool}{cs I:List D}{d:D}(M:bG Z l=some z)(hf:jY P f=true)(W:evls' P cl l Z es=.ok (vs,Z1))(U:bG Z1 l=some (pa,cs))(hc:cl f (.err ⟨#[]⟩ cs::vs.map (·.d))=.ok (.tup [d,.err ⟨#[]⟩ I],fr,L)) :
 evl P cl l Z (.call f es)=.ok (⟨d,fr,L&&(pa||anyPa vs),[]⟩,bU Z1 l (pa||anyPa vs) I):=by
 show R.iff ((bG Z l).isSome&&jY P f) (evls' P cl l Z es >>= λr=>(match bG r.2 l with
  | some (pa,cs)=>cl f (.err ⟨#[]⟩ cs::r.1.map (·.d)) >>= λq=>eU r.2 l pa r.1 q|none=>.bad))=_
 rw[M,hf,W];show(match bG Z1 l with
  | some (pa,cs)=>cl f (.err ⟨#[]⟩ cs::vs.map (λv:Vl=>v.d)) >>= λq=>eU Z1 l pa vs q|none=>.bad)=_
 rw[U];show(cl f (.err ⟨#[]⟩ cs::vs.map (·.d)) >>= λq=>eU Z1 l pa vs q)=_;rw[hc];rfl
theorem mV{f:Sg->Vl->R (Vl×Sg)}(I:Nat->List D->Sg->Prop):∀(N a:Nat) (ds:List D) (Z:Sg),I a ds Z ->
 (∀i Z ds,a<=i->i<a+N->I i ds Z->∃y Z',f Z (.cl (.int (i:Int)))=.ok (y,Z')/\y.pa=false/\I (i+1) (ds++[y.d]) Z') ->
 ∃vs Z',cS f ((List.range' a N).map λ(k:Nat)=>Vl.cl (.int (k:Int))) Z=.ok (vs,Z')/\anyPa vs=false/\vs.length=N/\I (a+N) (ds++vs.map (·.d)) Z'
 | 0,a,ds,Z,h,_=>⟨[],Z,rfl,rfl,rfl,by rw[mN,BH];exact h⟩
 | N+1,a,ds,Z,h,hs=>by obtain⟨y,Z1,q,W,M⟩:=hs a Z ds (An _) (by omega) h;obtain⟨vs,Z',L,p2,l2,U⟩:=mV I N (a+1) (ds++[y.d]) Z1 M λi Z ds ha hb=>hs i Z ds (by omega) (by omega);refine⟨y::vs,Z',?_,?_,by rw[lC,l2],?_⟩;rw[List.range'_succ,mC];show(f Z (Vl.cl (.int (a:Int))) >>= λy=>cS f _ y.2 >>= λr=>R.ok (y.1::r.1,r.2))=_;rw[q,aB,L];rfl;show(y.pa||anyPa vs)=false;rw[W,p2];rfl;rw[show a+(N+1)=a+1+N by omega];simpa using U
theorem mW{k l' N:Nat}{caps:List Nat}{t:T}{n elt:EL}{Z0:Sg}(I:Nat->List D->Sg->Prop)(hn:evl P cl l Z n=.ok (.cl (.int (N:Int)),Z0))(hN:N<=1000000)(h0:I 0 [] Z0)
 (hs:∀i Z ds,i<N->I i ds Z->∃Z1 y L z pa cs,aY (chB k caps Z) (.cl (.int (i:Int))) t=.ok Z1/\evl P cl l' Z1 elt=.ok (y,L)/\y.pa=false/\bG Z l=some z/\bG L l'=some (pa,cs)/\I (i+1) (ds++[y.d]) (bU Z l pa cs)) :
 ∃ds Z',evl P cl l Z (.comp k caps t n l' elt)=.ok (⟨.lst ds,true,false,[]⟩,Z')/\I N ds Z':=by
 let f:Sg->Vl->R (Vl×Sg):=λZ x=>aY (chB k caps Z) x t >>= λZ1=>evl P cl l' Z1 elt >>= λy=>(match bG Z l,bG y.2 l' with
  | some _,some (pa,cs)=>R.ok (y.1,bU Z l pa cs)|_,_=>.bad)
 obtain⟨vs,Z',M,p1,l1,h1⟩:=mV (f:=f) I N 0 [] Z0 h0 λi Z ds _ hi hI=>by
  obtain⟨Z1,y,L,z,pa,cs,g1,g2,g3,U,W,g6⟩:=hs i Z ds (by omega) hI;refine⟨y,bU Z l pa cs,?_,g3,g6⟩;show(aY (chB k caps Z) _ t >>= λZ1=>evl P cl l' Z1 elt >>= λy=>(match bG Z l,bG y.2 l' with
   | some _,some (pa,cs)=>R.ok (y.1,bU Z l pa cs)|_,_=>.bad))=_
  rw[g1,aB,g2,aB];show(match bG Z l,bG L l' with
   | some _,some (pa,cs)=>R.ok (y,bU Z l pa cs)|_,_=>.bad)=_
  rw[U,W]
 refine⟨vs.map (·.d),Z',?_,by simpa using h1⟩;show(evl P cl l Z n >>= λr=>(match r.1.d with
  | .int j=>R.iff (aR j) (cS f ((bQ 0 j).map .cl) r.2 >>= λq=>R.iff (decide (q.1.length<=lim)) (.ok (Vl.mk (.lst (q.1.map (·.d))) true (anyPa q.1) [],q.2)))|_=>.bad))=_
 rw[hn,aB];show R.iff (aR (N:Int)) (cS f ((bQ 0 (N:Int)).map .cl) Z0 >>= λq=>R.iff (decide (q.1.length<=lim)) (.ok (Vl.mk (.lst (q.1.map (·.d))) true (anyPa q.1) [],q.2)))=_;rw[lB hN,qV,List.range_eq_range',M];show R.iff (decide (vs.length<=lim)) (.ok (Vl.mk (.lst (vs.map (·.d))) true (anyPa vs) [],Z'))=_;rw[l1,p1,Ay (by unfold lim;omega)];rfl
theorem dD{f:Nat}{F:Fn}{b:Ss}{c:List D}{ds:List D}(q:P.fns[f]? = some F)(hb:F.body=.cons .lend b)(I:ds.length+1=F.np){v:Vl}
 (h:exs P cl (.lent c::((ds.map λd=>Sl.sh true d)++Ae (F.ns-F.np) Sl.dead)) b=.ret v):gW P cl f (.err ⟨#[]⟩ c::ds)=.ok (v.d,v.fr,v.pa):=by refine aX (ds:=.err ⟨#[]⟩ c::ds) q I (v:=v) ?_;rw[hb];exact h
end
end Hp
namespace Hp
open PySem (Str Operator CmpOp)
section
variable {P:Pg} {cl:Caller} {Z:Sg}
@[simp] theorem aDG {α q:Type} (a:D) (f:α->R q):((R.exc a:R α) >>= f)=.exc a:=id rfl
@[simp] theorem aDH {α:Type} (a:D) (f:α->O):O.from Z (.exc a) f=.exc a Z:=id rfl
@[simp] theorem aJu (x:D) (f:Sg->O):(O.exc x Z).on f=.exc x Z:=id rfl
@[simp] theorem aLd (c:Str) (k:Bool) (es:Es):ex P cl Z (.rse c k es)=O.from Z (evs P cl Z es) λvs=>.exc (.err c (if k then vs.map (·.d) else [])) Z:=id rfl
@[simp] theorem aGS (b:Ss) (c:Str) (i j:Nat):ex P cl Z (.tryAs b c i j)=(match exs P cl Z b with
 | .exc x Z'=>(match isX [.own c] P x with
  | some true=>if nM x then .bad else .next ((Z'.set i (.sh true x)).set j .dead)|_=>.bad)
 | o=>o):=id rfl
@[simp] theorem aLe (a:E) (cs:List Cl):ev P cl Z (.isx a cs)=(ev P cl Z a >>= λx=>match isX cs P x.d with|some k=>.ok (.cl (.bl k))|none=>.bad):=id rfl
@[simp] theorem aKd (a:E) (cs:List Cl):tst P cl Z (.isx a cs)=(ev P cl Z a >>= λx=>match isX cs P x.d with|some k=>.ok k|none=>.bad):=id rfl
@[simp] theorem aEo (e:E):ex P cl Z (.ex e)=O.from Z (ev P cl Z e) λ_=>.next Z:=id rfl
@[simp] theorem aKe:ev P cl Z (.dic .nil .nil)=.ok (.cl (.dic [])):=id rfl
end
theorem aN{P:Pg}{cl:Caller}{f:Nat}{F:Fn}{ds:List D}(q:P.fns[f]? = some F)(I:ds.length=F.np){x:D}{Z:Sg}
 (h:exs P cl ((ds.map λd=>Sl.sh true d)++Ae (F.ns-F.np) Sl.dead) F.body=.exc x Z):gW P cl f ds=.exc x:=by unfold gW;rw[q];simp only[I,if_true,h]
theorem mX{f:Vl->R (Option Vl)}{x:Vl}{q:List Vl}{e:D}(L:f x=.exc e):∀{pre:List Vl},(∀y∈pre,∃v,f y=.ok v)->cR f (pre++x::q)=.exc e
 | [],_=>by show(f x >>= λy=>cR f q >>= λI=>(match y with|some y=>R.ok (y::I)|none=>R.ok I))=_;rw[L];rfl|y::pre,h1=>by obtain⟨v,M⟩:=h1 y Aj;show(f y >>= λy=>cR f (pre++x::q) >>= λI=>(match y with|some y=>R.ok (y::I)|none=>R.ok I))=_;rw[M,aB,mX L λz U=>h1 z (Af _ U)];rfl
theorem tW{P:Pg}{cl:Caller}{Z:Sg}{k:Nat}{caps:List Nat}{t:T}{it:It}{elt:E}{pre q:List Vl}{x:Vl}{al:List Nat}{e:D}(U:walk P cl Z it=.ok (pre++x::q,al))(M:(pre++x::q).length<=lim)
 (hb:∀y∈pre,∃Z1 v,aY (Ae k .dead++caps.map λi=>((freeze Z al)[i]?).getD .dead) y t=.ok Z1/\ev P cl Z1 elt=.ok v)
 (W:∃Z1,aY (Ae k .dead++caps.map λi=>((freeze Z al)[i]?).getD .dead) x t=.ok Z1/\ev P cl Z1 elt=.exc e):ev P cl Z (.comp k caps t it .nil elt)=.exc e:=by rw[xZ,U,aB];show R.iff (decide ((pre++x::q).length<=lim)) _=_;rw[Ay M,aBL];rw[mX (e:=e) (x:=x) ?_ ?_];rfl;obtain⟨Z1,I,L⟩:=W;show(aY _ x t >>= λZ1=>_)=_;rw[I];show(ev P cl Z1 elt >>= λy=>R.ok (some y))=_;rw[L];rfl;intro y hy;obtain⟨Z1,v,I,L⟩:=hb y hy;refine⟨some v,?_⟩;show(aY _ y t >>= λZ1=>_)=_;rw[I];show(ev P cl Z1 elt >>= λy=>R.ok (some y))=_;rw[L];rfl
end Hp
namespace HpS
open Hp PySem
noncomputable def box(b:Str×Int):D:=.tup [.str b.1,.int b.2]
noncomputable def aD(bs:List (Str×Int)):List D:=bs.map box
theorem cU{n k:Nat}(h:k<n):ixN n (k:Int)=some k:=by unfold ixN;rw[if_pos (CP k),if_pos (by omega)];simp
inductive Sm where
 | num (n:Int)|box (k:Nat)|aft (k:Nat)|two (p:Bool) (a b:Sm)
noncomputable def aBU(p:Bool):Str:=if p then "plus" else "minus"
noncomputable def Sm.d:Sm->D
 | .num n=>.tup [.str "number",.int n]|.box k=>.tup [.str "box",.int k]|.aft k=>.tup [.str "after",.int k]|.two p a b=>.tup [.str (aBU p),a.d,b.d]
noncomputable def Sm.sz:Sm->Nat
 | .two _ a b=>1+a.sz+b.sz|_=>1
noncomputable def Sm.wf(c:Nat)(pl:Bool):Sm->Prop
 | .num n=>0<=n/\n<=99|.box k=>k<c|.aft k=>k<c/\pl=false|.two _ a b=>a.wf c pl/\b.wf c pl
theorem Sm.noL:∀s:Sm,Hp.noL s.d=true
 | .num _=>rfl|.box _=>rfl|.aft _=>rfl|.two _ a b=>by simp[Sm.d,Hp.noL,noLs,a.noL,b.noL]
theorem iV{v:Vl}{d:D}(h:Hp.noL d=true):Vl.sub v d=.cl d:=by unfold Vl.sub;rw[if_pos h]
theorem aLf(x:D)(r:List D)(h:Hp.noL x=true):bW (.cl (.tup (x::r))) (.cl (.int 0))=.ok (.cl x):=by have:ixN (x::r).length 0=some 0:=cU (k:=0) (by simp);unfold bW;simp only[dI,this,gZ,iV h]
theorem aLg(x y:D)(r:List D)(h:Hp.noL y=true):bW (.cl (.tup (x::y::r))) (.cl (.int 1))=.ok (.cl y):=by have:ixN (x::y::r).length 1=some 1:=cU (k:=1) (by simp);unfold bW;simp only[dI,this,gZ,gS,iV h]
theorem aLh(x y z:D)(r:List D)(h:Hp.noL z=true):bW (.cl (.tup (x::y::z::r))) (.cl (.int 2))=.ok (.cl z):=by have:ixN (x::y::z::r).length 2=some 2:=cU (k:=2) (by simp);unfold bW;simp only[dI,this,gZ,gS,iV h]
theorem eP{P:Pg}{cl:Caller}{f:Nat}{F:Fn}{ds:List D}(q:P.fns[f]? = some F)(I:ds.length=F.np){Z:Sg}
 (h:exs P cl ((ds.map λd=>Sl.sh true d)++Ae (F.ns-F.np) Sl.dead) F.body=.next Z):gW P cl f ds=.ok (.non,false,false):=by unfold gW;rw[q];simp only[I,if_true,h]
noncomputable def rA:Fn:=⟨1,1,(.cons (.ret (.an (.isi (.v 0) [.tInt]) (.nt (.isi (.v 0) [.tBool])))) .nil)⟩
noncomputable def dE(wh:Nat):Fn:=⟨3,3,(.cons (.ret (.an (.call wh (.cons (.v 0) .nil)) (.cmp2 .LtE .LtE (.v 1) (.v 0) (.v 2)))) .nil)⟩
noncomputable def fJ(wi:Nat):Fn:=⟨3,4,
 (.cons (.set (.n 3) (.ife (.cmp .Eq (.v 1) (.c (.str "number"))) (.c (.int 99)) (.op .Sub (.bi .len (.cons (.v 0) .nil)) (.c (.int 1)))))
 (.cons (.iff (.nt (.call wi (.cons (.v 2) (.cons (.c (.int 0)) (.cons (.v 3) .nil)))))
  (.cons (.rse "NoCond" false (.cons (.c (.str "a number is a whole one from 0 to 99, a box the number of one")) .nil))
  .nil)
  .nil)
 .nil))⟩
theorem mY{P:Pg}{wh:Nat}(q:P.fns[wh]? = some rA)(n:Nat)(i:Int):call P (n+1) wh [.int i]=.ok (.bl true,false,false):=aX (F:=rA) q rfl (v:=.cl (.bl true)) rfl
theorem oV{P:Pg}{wh wi:Nat}(M:P.fns[wh]? = some rA)(L:P.fns[wi]? = some (dE wh))(n:Nat)(i a b:Int)(q:a<=i)(I:i<=b):call P (n+2) wi [.int i,.int a,.int b]=.ok (.bl true,false,false):=by refine aX (F:=dE wh) L rfl (v:=.cl (.bl true)) ?_;simp[dE,bJ,mY M,q,I]
theorem aBV{P:Pg}{wh wi ch:Nat}(hW:P.fns[wh]? = some rA)(hI:P.fns[wi]? = some (dE wh))(M:P.fns[ch]? = some (fJ wi))(n:Nat){bs:List D}{I:Str}{i:Int}(U:0<=i)(W:i<=(if I == "number" then 99 else (bs.length:Int)-1)) :
 call P (n+3) ch [.lst bs,.str I,.int i]=.ok (.non,false,false):=by
 have L:=oV hW hI n i 0 _ U W;cases q:I == "number" with
 | true=>rw[q,if_pos rfl] at L;refine eP (F:=fJ wi) M rfl (Z:=[.sh true (.lst bs),.sh true (.str I),.sh true (.int i),.sh false (.int 99)]) ?_;simp[fJ,bJ,q,L]|false=>rw[q,if_neg bN] at L;refine eP (F:=fJ wi) M rfl (Z:=[.sh true (.lst bs),.sh true (.str I),.sh true (.int i),.sh false (.int ((bs.length:Int)-1))]) ?_;simp[fJ,bJ,q,L]
noncomputable def gD(ch lo:Nat):Ss:=(.cons (.iff (.orr (.cmp .Eq (.v 6) (.c (.str "sum"))) (.cmp .Eq (.v 6) (.c (.str "cond"))))
 (.cons (.set (.n 4) (.call lo (.cons (.v 0) (.cons (.v 6) (.cons (.v 7) (.cons (.v 3) (.cons (.v 4) .nil)))))))
 .nil)
 (.cons (.ex (.call ch (.cons (.v 0) (.cons (.v 6) (.cons (.v 7) .nil)))))
 .nil))
 .nil)
theorem aJv{P:Pg}{cl:Caller}{Z:Sg}(e:E):ex P cl Z (.ex e)=O.from Z (ev P cl Z e) λ_=>.next Z:=rfl
theorem aLi:(("sum" : Str) == "sum")=true:=by decide +kernel
theorem aLj:(("number" : Str) == "sum")=false:=by decide +kernel
theorem aLk:(("number" : Str) == "cond")=false:=by decide +kernel
theorem aLl:(("box" : Str) == "sum")=false:=by decide +kernel
theorem aLm:(("box" : Str) == "cond")=false:=by decide +kernel
inductive Cn where
 | yes|cmp (i:Bool) (a b:Sm)|nt (c:Cn)|two (p:Bool) (a b:Cn)
noncomputable def aBW(i:Bool):Str:=if i then "is" else "less"
noncomputable def tX(p:Bool):Str:=if p then "both" else "either"
noncomputable def Cn.d:Cn->D
 | .yes=>.tup [.str "yes"]|.cmp i a b=>.tup [.str (aBW i),a.d,b.d]|.nt c=>.tup [.str "not",c.d]|.two p a b=>.tup [.str (tX p),a.d,b.d]
noncomputable def Cn.sz:Cn->Nat
 | .yes=>1|.cmp _ a b=>1+a.sz+b.sz|.nt c=>1+c.sz|.two _ a b=>1+a.sz+b.sz
noncomputable def Cn.wf(c:Nat)(pl:Bool):Cn->Prop
 | .yes=>True|.cmp _ a b=>a.wf c pl/\b.wf c pl|.nt x=>x.wf c pl|.two _ a b=>a.wf c pl/\b.wf c pl
theorem Cn.noL:∀s:Cn,Hp.noL s.d=true
 | .yes=>rfl|.cmp _ a b=>by simp[Cn.d,Hp.noL,noLs,a.noL,b.noL]|.nt c=>by simp[Cn.d,Hp.noL,noLs,c.noL]|.two _ a b=>by simp[Cn.d,Hp.noL,noLs,a.noL,b.noL]
end HpS
namespace K13
open Hp
noncomputable def f0:Hp.Fn:=⟨1,1,
 (.cons (.ret (.an (.isi (.v 0) [.tInt]) (.nt (.isi (.v 0) [.tBool]))))
 .nil)⟩
noncomputable def f1:Hp.Fn:=⟨3,3,
 (.cons (.ret (.an (.call 0 (.cons (.v 0) .nil)) (.cmp2 .LtE .LtE (.v 1) (.v 0) (.v 2))))
 .nil)⟩
noncomputable def f2:Hp.Fn:=⟨3,3,
 (.cons (.ex (.call 4 (.cons (.v 0) (.cons (.c (.str "sum")) (.cons (.v 1) (.cons (.v 2) (.cons (.c (.int 0)) .nil)))))))
 (.cons (.retv 1)
 .nil))⟩
noncomputable def f3:Hp.Fn:=⟨3,3,
 (.cons (.ex (.call 4 (.cons (.v 0) (.cons (.c (.str "cond")) (.cons (.v 1) (.cons (.v 2) (.cons (.c (.int 0)) .nil)))))))
 (.cons (.retv 1)
 .nil))⟩
noncomputable def f4:Hp.Fn:=⟨5,8,
 (.cons (.iff (.cmp .Eq (.v 4) (.c (.int 40)))
  (.cons (.rse "TooMany" false (.cons (.c (.str "a condition or sum has at most forty parts")) .nil))
  .nil)
  .nil)
 (.cons (.set (.n 4) (.op .Add (.v 4) (.c (.int 1))))
 (.cons (.set (.n 5) (.call 5 (.cons (.v 1) (.cons (.v 2) (.cons (.v 3) .nil)))))
 (.cons (.for (.t [6,7]) (.zip (.v 5) (.sli (.v 2) false 1))
  (.cons (.iff (.orr (.cmp .Eq (.v 6) (.c (.str "sum"))) (.cmp .Eq (.v 6) (.c (.str "cond"))))
   (.cons (.set (.n 4) (.call 4 (.cons (.v 0) (.cons (.v 6) (.cons (.v 7) (.cons (.v 3) (.cons (.v 4) .nil)))))))
   .nil)
   (.cons (.ex (.call 6 (.cons (.v 0) (.cons (.v 6) (.cons (.v 7) .nil)))))
   .nil))
  .nil))
 (.cons (.retv 4)
 .nil)))))⟩
noncomputable def f5:Hp.Fn:=⟨3,5,
 (.cons (.iff (.orr (.nt (.isi (.v 1) [.tTuple])) (.orr (.cmp .Eq (.bi .len (.cons (.v 1) .nil)) (.c (.int 0))) (.nt (.isi (.idx (.v 1) (.c (.int 0))) [.tStr]))))
  (.cons (.rse "NoCond" false (.cons (.c (.str "a part is a tuple that begins with a word")) .nil))
  .nil)
  .nil)
 (.cons (.set (.n 3) (.idx (.v 1) (.c (.int 0))))
 (.cons (.set (.n 4) (.ife (.cmp .Eq (.v 0) (.c (.str "sum"))) (.tget 0 (.v 3)) (.tget 1 (.v 3))))
 (.cons (.iff (.orr (.cmp .Is (.v 4) (.c .non)) (.cmp .NotEq (.bi .len (.cons (.v 1) .nil)) (.op .Add (.bi .len (.cons (.v 4) .nil)) (.c (.int 1)))))
  (.cons (.rse "NoCond" false (.cons (.c (.str "a part has a word that is due there, and as many things as go with it")) .nil))
  .nil)
  .nil)
 (.cons (.iff (.an (.v 2) (.cmp .Eq (.v 3) (.c (.str "after"))))
  (.cons (.rse "NoCond" false (.cons (.c (.str "no after stands where a plain one is due")) .nil))
  .nil)
  .nil)
 (.cons (.retv 4)
 .nil))))))⟩
noncomputable def f6:Hp.Fn:=⟨3,4,
 (.cons (.set (.n 3) (.ife (.cmp .Eq (.v 1) (.c (.str "number"))) (.c (.int 99)) (.op .Sub (.bi .len (.cons (.v 0) .nil)) (.c (.int 1)))))
 (.cons (.iff (.nt (.call 1 (.cons (.v 2) (.cons (.c (.int 0)) (.cons (.v 3) .nil)))))
  (.cons (.rse "NoCond" false (.cons (.c (.str "a number is a whole one from 0 to 99, a box the number of one")) .nil))
  .nil)
  .nil)
 .nil))⟩
noncomputable def f7:Hp.Fn:=⟨2,2,
 (.cons (.iff (.orr (.nt (.isi (.v 1) [.tList])) (.cmp .Gt (.bi .len (.cons (.v 1) .nil)) (.c (.int 8))))
  (.cons (.rse "NoHand" false (.cons (.c (.str "a hand is a list of none to eight rows")) .nil))
  .nil)
  .nil)
 (.cons (.ret (.comp 1 [0,1] (.n 0) (.seq (.v 1)) .nil (.call 8 (.cons (.v 1) (.cons (.v 0) (.cons (.bi .len (.cons (.v 2) .nil)) .nil))))))
 .nil))⟩
noncomputable def f8:Hp.Fn:=⟨3,3,
 (.cons (.iff (.orr (.nt (.isi (.v 1) [.tList])) (.nt (.cmp2 .LtE .LtE (.c (.int 1)) (.bi .len (.cons (.v 1) .nil)) (.c (.int 4)))))
  (.cons (.rse "NoHand" false (.cons (.c (.str "a row is a list of one to four ways")) .nil))
  .nil)
  .nil)
 (.cons (.ret (.comp 1 [0,2] (.n 0) (.seq (.v 1)) .nil (.call 9 (.cons (.v 1) (.cons (.v 0) (.cons (.v 2) .nil))))))
 .nil))⟩
noncomputable def f9:Hp.Fn:=⟨3,3,
 (.cons (.iff (.orr (.nt (.isi (.v 1) [.tTuple])) (.cmp .NotEq (.bi .len (.cons (.v 1) .nil)) (.c (.int 3))))
  (.cons (.rse "NoHand" false (.cons (.c (.str "a way is a tuple (guard, puts, next)")) .nil))
  .nil)
  .nil)
 (.cons (.ex (.call 10 (.cons (.v 0) (.cons (.idx (.v 1) (.c (.int 0))) .nil))))
 (.cons (.ex (.call 11 (.cons (.v 0) (.cons (.idx (.v 1) (.c (.int 1))) .nil))))
 (.cons (.iff (.nt (.call 1 (.cons (.idx (.v 1) (.c (.int 2))) (.cons (.c (.int 0)) (.cons (.v 2) .nil)))))
  (.cons (.rse "NoHand" false (.cons (.c (.str "a way's next is a place of the hand")) .nil))
  .nil)
  .nil)
 (.cons (.retv 1)
 .nil)))))⟩
noncomputable def f10:Hp.Fn:=⟨2,2,
 (.cons (.tryR (.cons (.ex (.call 3 (.cons (.v 0) (.cons (.v 1) (.cons (.c (.bl true)) .nil)))))
  .nil) ["NoCond", "TooMany"] "NoHand" (.c (.str "a guard is a plain condition of at most forty parts")))
 .nil)⟩
noncomputable def f11:Hp.Fn:=⟨2,4,
 (.cons (.iff (.nt (.isi (.v 1) [.tTuple]))
  (.cons (.rse "NoHand" false (.cons (.c (.str "puts are a tuple")) .nil))
  .nil)
  .nil)
 (.cons (.set (.n 2) (.c (.int 0)))
 (.cons (.for (.n 3) (.seq (.v 1))
  (.cons (.ex (.call 12 (.cons (.v 0) (.cons (.v 3) (.cons (.v 2) .nil)))))
  (.cons (.set (.n 2) (.op .Add (.idx (.v 3) (.c (.int 0))) (.c (.int 1))))
  .nil)))
 .nil)))⟩
noncomputable def f12:Hp.Fn:=⟨3,3,
 (.cons (.iff (.orr (.nt (.isi (.v 1) [.tTuple])) (.cmp .NotEq (.bi .len (.cons (.v 1) .nil)) (.c (.int 2))))
  (.cons (.rse "NoHand" false (.cons (.c (.str "a put is a tuple (box, sum)")) .nil))
  .nil)
  .nil)
 (.cons (.iff (.nt (.call 1 (.cons (.idx (.v 1) (.c (.int 0))) (.cons (.v 2) (.cons (.op .Sub (.bi .len (.cons (.v 0) .nil)) (.c (.int 1))) .nil)))))
  (.cons (.rse "NoHand" false (.cons (.c (.str "puts are of the boxes' numbers, rising, each once")) .nil))
  .nil)
  .nil)
 (.cons (.tryR (.cons (.ex (.call 2 (.cons (.v 0) (.cons (.idx (.v 1) (.c (.int 1))) (.cons (.c (.bl true)) .nil)))))
  .nil) ["NoCond", "TooMany"] "NoHand" (.c (.str "a put's sum is a plain one of at most forty parts")))
 .nil)))⟩
noncomputable def f13:Hp.Fn:=⟨2,3,
 (.cons (.iff (.cmp .Lt (.v 1) (.bi .len (.cons (.v 0) .nil)))
  (.cons (.ret (.idx (.v 0) (.v 1)))
  .nil)
  .nil)
 (.cons (.set (.n 2) (.c (.int 0)))
 (.cons (.iff (.cmp .Gt (.bi .len (.cons (.v 0) .nil)) (.c (.int 0)))
  (.cons (.set (.n 2) (.idx (.v 0) (.op .Mod (.op .Add (.op .Mult (.v 1) (.c (.int 7))) (.c (.int 3))) (.bi .len (.cons (.v 0) .nil)))))
  .nil)
  .nil)
 (.cons (.ret (.op .Add (.op .Add (.op .Add (.op .Mult (.v 2) (.c (.int 31))) (.op .Mult (.op .Mult (.v 1) (.v 1)) (.c (.int 7919)))) (.op .Mult (.c (.int 101)) (.v 1))) (.c (.int 17))))
 .nil))))⟩
noncomputable def f14:Hp.Fn:=⟨2,3,
 (.cons .lend
 (.cons (.set (.n 2) (.op .Mod (.call 13 (.cons (.lix 0 (.c (.int 0))) (.cons (.lix 0 (.c (.int 1))) .nil))) (.c (.int 4294967291))))
 (.cons (.lset 0 (.c (.int 1)) (.op .Add (.lix 0 (.c (.int 1))) (.c (.int 1))))
 (.cons (.retL (.e (.op .Mod (.op .FloorDiv (.op .Mod (.op .Mult (.op .Add (.v 2) (.op .Mult (.c (.int 13)) (.lix 0 (.c (.int 1))))) (.c (.int 48271))) (.c (.int 2147483647))) (.c (.int 3))) (.v 1))))
 .nil))))⟩
noncomputable def f15:Hp.Fn:=⟨2,7,
 (.cons .lend
 (.cons (.set (.n 2) (.lst .nil))
 (.cons (.mov 3 1)
 (.cons (.forL (.n 4) (.op .Add (.e (.c (.int 1))) (.call 14 (.cons (.e (.c (.int 4))) .nil)))
  (.cons (.setL 5 0 [] (.op .Add (.e (.c (.int 1))) (.call 14 (.cons (.idx (.e (.lst (.cons (.c (.int 2)) (.cons (.c (.int 3)) (.cons (.c (.int 7)) .nil))))) (.call 14 (.cons (.e (.c (.int 3))) .nil))) .nil))))
  (.cons (.set (.n 6) (.idx (.c (.str "kxmbz")) (.v 4)))
  (.cons (.iff (.cmp .Gt (.v 3) (.c (.int 1)))
   (.cons (.appL 2 0 (.tup (.cons (.op .Mult (.e (.v 6)) (.op .Add (.e (.c (.int 1))) (.call 14 (.cons (.e (.c (.int 8))) .nil)))) (.cons (.e (.bi .min (.cons (.v 5) (.cons (.op .Sub (.v 3) (.c (.int 1))) .nil)))) .nil))))
   (.cons (.set (.n 3) (.op .FloorDiv (.v 3) (.op .Add (.c (.int 1)) (.bi .min (.cons (.v 5) (.cons (.op .Sub (.v 3) (.c (.int 1))) .nil))))))
   .nil))
   .nil)
  .nil))))
 (.cons (.retvL 2)
 .nil)))))⟩
noncomputable def f16:Hp.Fn:=⟨3,4,
 (.cons .lend
 (.cons (.setL 3 0 [] (.call 14 (.cons (.e (.c (.int 6))) .nil)))
 (.cons (.iff (.orr (.cmp .Eq (.v 2) (.c (.int 0))) (.cmp .Lt (.v 3) (.c (.int 3))))
  (.cons (.iff (.cmp .Eq (.op .Mod (.v 3) (.c (.int 2))) (.c (.int 0)))
   (.cons (.retL (.tup (.cons (.e (.c (.str "box"))) (.cons (.call 14 (.cons (.e (.bi .len (.cons (.v 1) .nil))) .nil)) .nil))))
   .nil)
   .nil)
  (.cons (.retL (.tup (.cons (.e (.c (.str "number"))) (.cons (.call 14 (.cons (.idx (.e (.lst (.cons (.c (.int 3)) (.cons (.c (.int 4)) (.cons (.c (.int 8)) (.cons (.c (.int 100)) .nil)))))) (.call 14 (.cons (.e (.c (.int 4))) .nil))) .nil)) .nil))))
  .nil))
  .nil)
 (.cons (.retL (.tup (.cons (.e (.idx (.lst (.cons (.c (.str "plus")) (.cons (.c (.str "minus")) .nil))) (.op .Mod (.v 3) (.c (.int 2))))) (.cons (.call 16 (.cons (.e (.v 1)) (.cons (.e (.op .Sub (.v 2) (.c (.int 1)))) .nil))) (.cons (.call 16 (.cons (.e (.v 1)) (.cons (.e (.op .Sub (.v 2) (.c (.int 1)))) .nil))) .nil)))))
 .nil))))⟩
noncomputable def f17:Hp.Fn:=⟨3,4,
 (.cons .lend
 (.cons (.setL 3 0 [] (.call 14 (.cons (.e (.c (.int 10))) .nil)))
 (.cons (.iff (.cmp .Eq (.v 3) (.c (.int 0)))
  (.cons (.retL (.e (.tup (.cons (.c (.str "yes")) .nil))))
  .nil)
  .nil)
 (.cons (.iff (.orr (.cmp .Eq (.v 2) (.c (.int 0))) (.cmp .Lt (.v 3) (.c (.int 5))))
  (.cons (.retL (.tup (.cons (.e (.idx (.lst (.cons (.c (.str "is")) (.cons (.c (.str "less")) .nil))) (.op .Mod (.op .FloorDiv (.v 3) (.c (.int 2))) (.c (.int 2))))) (.cons (.call 16 (.cons (.e (.v 1)) (.cons (.e (.op .Mod (.v 3) (.c (.int 2)))) .nil))) (.cons (.call 16 (.cons (.e (.v 1)) (.cons (.e (.c (.int 1))) .nil))) .nil)))))
  .nil)
  .nil)
 (.cons (.iff (.cmp .Lt (.v 3) (.c (.int 7)))
  (.cons (.retL (.tup (.cons (.e (.c (.str "not"))) (.cons (.call 17 (.cons (.e (.v 1)) (.cons (.e (.op .Sub (.v 2) (.c (.int 1)))) .nil))) .nil))))
  .nil)
  .nil)
 (.cons (.retL (.tup (.cons (.e (.idx (.lst (.cons (.c (.str "both")) (.cons (.c (.str "either")) .nil))) (.op .Mod (.v 3) (.c (.int 2))))) (.cons (.call 17 (.cons (.e (.v 1)) (.cons (.e (.op .Sub (.v 2) (.c (.int 1)))) .nil))) (.cons (.call 17 (.cons (.e (.v 1)) (.cons (.e (.op .Sub (.v 2) (.c (.int 1)))) .nil))) .nil)))))
 .nil))))))⟩
noncomputable def f18:Hp.Fn:=⟨4,7,
 (.cons .lend
 (.cons (.setL 4 0 [] (.call 17 (.cons (.e (.v 1)) (.cons (.e (.v 3)) .nil))))
 (.cons (.set (.n 5) (.lst .nil))
 (.cons (.for (.n 6) (.rng (.c (.int 0)) (.bi .len (.cons (.v 1) .nil)))
  (.cons (.iffL .Lt (.call 14 (.cons (.e (.c (.int 5))) .nil)) (.c (.int 3))
   (.cons (.appL 5 0 (.tup (.cons (.e (.v 6)) (.cons (.call 16 (.cons (.e (.v 1)) (.cons (.e (.c (.int 1))) .nil))) .nil))))
   .nil)
   .nil)
  .nil))
 (.cons (.retL (.tup (.cons (.e (.v 4)) (.cons (.e (.bi .tuple (.cons (.v 5) .nil))) (.cons (.call 14 (.cons (.e (.v 2)) .nil)) .nil)))))
 .nil)))))⟩
noncomputable def f19:Hp.Fn:=⟨3,3,
 (.cons .lend
 (.cons (.retL (.comp 1 [0,1,2] (.n 0) (.e (.v 2)) 1 (.comp 1 [1,2,3] (.n 0) (.op .Add (.e (.c (.int 1))) (.call 14 (.cons (.e (.c (.int 4))) .nil))) 1 (.call 18 (.cons (.e (.v 2)) (.cons (.e (.op .Add (.v 3) (.c (.int 1)))) (.cons (.e (.c (.int 1))) .nil)))))))
 .nil))⟩
noncomputable def f20:Hp.Fn:=⟨1,1,
 (.cons (.iff (.isx (.v 0) [.own "NoBoxes",.own "NoCond",.own "NoHouse",.own "NoName",.own "NoPaper",.own "NoProgram",.own "NoRow",.own "NoStart",.own "NoStep",.own "NoText",.own "TooMany"])
  (.cons (.ret (.c (.bl false)))
  .nil)
  .nil)
 (.cons (.ret (.an (.isx (.v 0) [.own "NoHand"]) (.isx (.v 0) [.tValueError])))
 .nil))⟩
noncomputable def f21:Hp.Fn:=⟨2,4,
 (.cons (.set (.n 2) (.c .non))
 (.cons (.tryAs (.cons (.ex (.call 7 (.cons (.v 0) (.cons (.v 1) .nil))))
  .nil) "PromiseError" 2 3)
 (.cons (.ret (.call 20 (.cons (.v 2) .nil)))
 .nil)))⟩
noncomputable def f22:Hp.Fn:=⟨1,3,
 (.cons (.set (.n 1) (.tup (.cons (.c (.str "yes")) .nil)))
 (.cons (.for (.n 2) (.rng (.c (.int 0)) (.op .Sub (.v 0) (.c (.int 1))))
  (.cons (.set (.n 1) (.tup (.cons (.c (.str "not")) (.cons (.v 1) .nil))))
  .nil))
 (.cons (.retv 1)
 .nil)))⟩
noncomputable def f23:Hp.Fn:=⟨1,3,
 (.cons (.set (.n 1) (.tup (.cons (.c (.str "number")) (.cons (.c (.int 0)) .nil))))
 (.cons (.for (.n 2) (.rng (.c (.int 0)) (.op .FloorDiv (.v 0) (.c (.int 2))))
  (.cons (.set (.n 1) (.tup (.cons (.c (.str "plus")) (.cons (.v 1) (.cons (.tup (.cons (.c (.str "number")) (.cons (.c (.int 0)) .nil))) .nil)))))
  .nil))
 (.cons (.retv 1)
 .nil)))⟩
noncomputable def f24:Hp.Fn:=⟨2,3,
 (.cons (.set (.n 2) (.lst (.cons (.tup (.cons (.c (.str "number")) (.cons (.neg (.c (.int 1))) .nil))) (.cons (.tup (.cons (.c (.str "number")) (.cons (.c (.int 100)) .nil))) (.cons (.tup (.cons (.c (.str "number")) (.cons (.op .Add (.c (.int 100)) (.v 1)) .nil))) (.cons (.tup (.cons (.c (.str "number")) (.cons (.c (.bl true)) .nil))) (.cons (.tup (.cons (.c (.str "number")) (.cons (.c (.str "1")) .nil))) (.cons (.tup (.cons (.c (.str "number")) .nil)) .nil))))))))
 (.cons (.set (.n 2) (.op .Add (.v 2) (.lst (.cons (.tup (.cons (.c (.str "number")) (.cons (.c (.int 1)) (.cons (.c (.int 1)) .nil)))) (.cons (.tup (.cons (.c (.str "box")) (.cons (.bi .len (.cons (.v 0) .nil)) .nil))) (.cons (.tup (.cons (.c (.str "box")) (.cons (.neg (.c (.int 1))) .nil))) (.cons (.tup (.cons (.c (.str "box")) (.cons (.c (.bl false)) .nil))) (.cons (.tup (.cons (.c (.str "box")) (.cons (.op .Add (.bi .len (.cons (.v 0) .nil)) (.v 1)) .nil))) .nil))))))))
 (.cons (.set (.n 2) (.op .Add (.v 2) (.lst (.cons (.tup (.cons (.c (.str "box")) (.cons (.c (.str "a")) .nil))) (.cons (.tup (.cons (.c (.str "after")) (.cons (.c (.int 0)) .nil))) (.cons (.tup (.cons (.c (.str "plus")) (.cons (.tup (.cons (.c (.str "number")) (.cons (.c (.int 1)) .nil))) .nil))) (.cons (.tup (.cons (.c (.str "plus")) (.cons (.tup (.cons (.c (.str "number")) (.cons (.c (.int 1)) .nil))) (.cons (.c (.int 1)) .nil)))) (.cons (.tup (.cons (.c (.str "times")) .nil)) (.cons (.tup .nil) .nil)))))))))
 (.cons (.set (.n 2) (.op .Add (.v 2) (.lst (.cons (.tup (.cons (.c (.str "minus")) (.cons (.tup (.cons (.c (.str "box")) (.cons (.c (.int 0)) .nil))) (.cons (.tup (.cons (.c (.str "after")) (.cons (.c (.int 0)) .nil))) .nil)))) (.cons (.lst (.cons (.c (.str "number")) (.cons (.c (.int 1)) .nil))) (.cons (.c .non) (.cons (.c (.int 1)) (.cons (.tup (.cons (.c (.str "yes")) .nil)) .nil))))))))
 (.cons (.app 2 (.tup (.cons (.c (.str "sum")) (.cons (.tup (.cons (.c (.str "box")) (.cons (.c (.int 0)) .nil))) (.cons (.tup (.cons (.c (.str "box")) (.cons (.c (.int 0)) .nil))) .nil)))))
 (.cons (.ret (.op .Add (.v 2) (.lst (.cons (.tup (.cons (.c (.str "minus")) (.cons (.tup (.cons (.c (.str "box")) (.cons (.c (.int 0)) .nil))) (.cons (.tup (.cons (.c (.str "box")) (.cons (.c (.int 0)) .nil))) (.cons (.tup (.cons (.c (.str "box")) (.cons (.c (.int 0)) .nil))) .nil))))) (.cons (.call 23 (.cons (.c (.int 41)) .nil)) (.cons (.tup (.cons (.lst .nil) (.cons (.c (.int 1)) .nil))) .nil))))))
 .nil))))))⟩
noncomputable def f25:Hp.Fn:=⟨2,5,
 (.cons (.set (.n 2) (.tup (.cons (.c (.str "number")) (.cons (.c (.int 1)) .nil))))
 (.cons (.set (.n 3) (.lst (.cons (.tup (.cons (.c (.str "is")) (.cons (.v 2) .nil))) (.cons (.tup (.cons (.c (.str "is")) (.cons (.v 2) (.cons (.v 2) (.cons (.v 2) .nil))))) (.cons (.tup (.cons (.c (.str "less")) (.cons (.v 2) (.cons (.tup (.cons (.c (.str "after")) (.cons (.c (.int 0)) .nil))) .nil)))) (.cons (.tup (.cons (.c (.str "yes")) (.cons (.v 2) .nil))) (.cons (.tup (.cons (.c (.str "no")) .nil)) (.cons (.tup (.cons (.c (.str "not")) .nil)) (.cons (.v 2) .nil)))))))))
 (.cons (.set (.n 3) (.op .Add (.v 3) (.lst (.cons (.tup (.cons (.c (.str "not")) (.cons (.v 2) .nil))) (.cons (.tup (.cons (.c (.str "both")) (.cons (.tup (.cons (.c (.str "yes")) .nil)) (.cons (.v 2) .nil)))) (.cons (.tup (.cons (.c (.str "both")) (.cons (.tup (.cons (.c (.str "yes")) .nil)) .nil))) (.cons (.lst (.cons (.c (.str "yes")) .nil)) (.cons (.c (.str "yes")) (.cons (.c .non) (.cons (.c (.bl true)) (.cons (.tup .nil) (.cons (.c (.int 1)) .nil))))))))))))
 (.cons (.set (.n 3) (.op .Add (.v 3) (.lst (.cons (.tup (.cons (.c (.str "either")) (.cons (.tup (.cons (.c (.str "yes")) .nil)) (.cons (.tup (.cons (.c (.str "yes")) .nil)) (.cons (.tup (.cons (.c (.str "yes")) .nil)) .nil))))) (.cons (.tup (.cons (.c (.str "is")) (.cons (.tup (.cons (.c (.str "yes")) .nil)) (.cons (.v 2) .nil)))) (.cons (.call 22 (.cons (.c (.int 41)) .nil)) (.cons (.tup (.cons (.c (.int 1)) .nil)) .nil)))))))
 (.cons (.set (.n 3) (.op .Add (.v 3) (.lst (.cons (.tup (.cons (.c (.str "is")) (.cons (.call 23 (.cons (.c (.int 39)) .nil)) (.cons (.v 2) .nil)))) (.cons (.tup (.cons (.c (.str "not")) (.cons (.tup (.cons (.c (.str "both")) (.cons (.tup (.cons (.c (.str "yes")) .nil)) (.cons (.tup (.cons (.c (.str "less")) (.cons (.v 2) (.cons (.call 23 (.cons (.c (.int 37)) .nil)) .nil)))) .nil)))) .nil))) .nil)))))
 (.cons (.set (.n 4) (.call 24 (.cons (.v 0) (.cons (.v 1) .nil))))
 (.cons (.ret (.op .Add (.v 3) (.lst (.cons (.tup (.cons (.c (.str "less")) (.cons (.idx (.v 4) (.op .Mod (.v 1) (.bi .len (.cons (.v 4) .nil)))) (.cons (.v 2) .nil)))) (.cons (.tup (.cons (.c (.str "not")) (.cons (.tup (.cons (.c (.str "is")) (.cons (.v 2) (.cons (.idx (.v 4) (.op .Mod (.op .FloorDiv (.v 1) (.c (.int 3))) (.bi .len (.cons (.v 4) .nil)))) .nil)))) .nil))) .nil)))))
 .nil)))))))⟩
noncomputable def f26:Hp.Fn:=⟨2,6,
 (.cons (.set (.n 2) (.tup (.cons (.c (.str "number")) (.cons (.c (.int 0)) .nil))))
 (.cons (.set (.n 3) (.op .Sub (.bi .len (.cons (.v 0) .nil)) (.c (.int 1))))
 (.cons (.set (.n 4) (.lst (.cons (.lst (.cons (.tup (.cons (.c (.int 0)) (.cons (.v 2) .nil))) .nil)) (.cons (.c .non) (.cons (.v 2) (.cons (.tup (.cons (.tup (.cons (.c (.int 0)) (.cons (.v 2) .nil))) (.cons (.tup (.cons (.c (.int 0)) (.cons (.v 2) .nil))) .nil))) (.cons (.tup (.cons (.tup (.cons (.v 3) (.cons (.v 2) .nil))) (.cons (.tup (.cons (.c (.int 0)) (.cons (.v 2) .nil))) .nil))) (.cons (.tup (.cons (.tup (.cons (.op .Add (.v 3) (.c (.int 1))) (.cons (.v 2) .nil))) .nil)) (.cons (.tup (.cons (.tup (.cons (.neg (.c (.int 1))) (.cons (.v 2) .nil))) .nil)) .nil)))))))))
 (.cons (.set (.n 4) (.op .Add (.v 4) (.lst (.cons (.tup (.cons (.tup (.cons (.c (.bl false)) (.cons (.v 2) .nil))) .nil)) (.cons (.tup (.cons (.tup (.cons (.c (.int 0)) .nil)) .nil)) (.cons (.tup (.cons (.tup (.cons (.c (.int 0)) (.cons (.v 2) (.cons (.v 2) .nil)))) .nil)) (.cons (.tup (.cons (.lst (.cons (.c (.int 0)) (.cons (.v 2) .nil))) .nil)) (.cons (.tup (.cons (.tup (.cons (.c (.int 0)) (.cons (.v 2) .nil))) (.cons (.c .non) .nil))) .nil))))))))
 (.cons (.set (.n 4) (.op .Add (.v 4) (.lst (.cons (.tup (.cons (.tup (.cons (.c (.str "0")) (.cons (.v 2) .nil))) .nil)) (.cons (.tup (.cons (.tup (.cons (.op .Add (.v 1) (.c (.int 9))) (.cons (.v 2) .nil))) .nil)) .nil)))))
 (.cons (.set (.n 5) (.call 24 (.cons (.v 0) (.cons (.v 1) .nil))))
 (.cons (.ret (.op .Add (.v 4) (.lst (.cons (.tup (.cons (.tup (.cons (.c (.int 0)) (.cons (.idx (.v 5) (.op .Mod (.v 1) (.bi .len (.cons (.v 5) .nil)))) .nil))) .nil)) (.cons (.tup (.cons (.tup (.cons (.v 3) (.cons (.idx (.v 5) (.op .Mod (.op .FloorDiv (.v 1) (.c (.int 5))) (.bi .len (.cons (.v 5) .nil)))) .nil))) .nil)) .nil)))))
 .nil)))))))⟩
noncomputable def f27:Hp.Fn:=⟨4,7,
 (.cons (.set (.n 4) (.op .FloorDiv (.v 3) (.c (.int 12))))
 (.cons (.set (.n 5) (.op .FloorDiv (.v 3) (.c (.int 5))))
 (.cons (.iff (.cmp .Eq (.op .Mod (.v 3) (.c (.int 5))) (.c (.int 0)))
  (.cons (.set (.n 6) (.call 25 (.cons (.v 0) (.cons (.v 4) .nil))))
  (.cons (.ret (.tup (.cons (.idx (.v 6) (.op .Mod (.v 5) (.bi .len (.cons (.v 6) .nil)))) (.cons (.idx (.v 1) (.c (.int 1))) (.cons (.idx (.v 1) (.c (.int 2))) .nil)))))
  .nil))
  .nil)
 (.cons (.iff (.cmp .Eq (.op .Mod (.v 3) (.c (.int 5))) (.c (.int 1)))
  (.cons (.set (.n 6) (.call 26 (.cons (.v 0) (.cons (.v 4) .nil))))
  (.cons (.ret (.tup (.cons (.idx (.v 1) (.c (.int 0))) (.cons (.idx (.v 6) (.op .Mod (.v 5) (.bi .len (.cons (.v 6) .nil)))) (.cons (.idx (.v 1) (.c (.int 2))) .nil)))))
  .nil))
  .nil)
 (.cons (.iff (.cmp .Eq (.op .Mod (.v 3) (.c (.int 5))) (.c (.int 2)))
  (.cons (.set (.n 6) (.lst (.cons (.neg (.c (.int 1))) (.cons (.v 2) (.cons (.c (.bl true)) (.cons (.c .non) (.cons (.c (.str "0")) (.cons (.op .Add (.v 2) (.v 4)) (.cons (.tup (.cons (.c (.int 0)) .nil)) .nil)))))))))
  (.cons (.ret (.tup (.cons (.idx (.v 1) (.c (.int 0))) (.cons (.idx (.v 1) (.c (.int 1))) (.cons (.idx (.v 6) (.op .Mod (.v 5) (.c (.int 7)))) .nil)))))
  .nil))
  .nil)
 (.cons (.iff (.cmp .Eq (.op .Mod (.v 3) (.c (.int 5))) (.c (.int 3)))
  (.cons (.set (.n 6) (.call 24 (.cons (.v 0) (.cons (.v 4) .nil))))
  (.cons (.ret (.tup (.cons (.idx (.v 1) (.c (.int 0))) (.cons (.tup (.cons (.tup (.cons (.c (.int 0)) (.cons (.idx (.v 6) (.op .Mod (.v 5) (.bi .len (.cons (.v 6) .nil)))) .nil))) .nil)) (.cons (.idx (.v 1) (.c (.int 2))) .nil)))))
  .nil))
  .nil)
 (.cons (.ret (.idx (.lst (.cons (.bi .list (.cons (.v 1) .nil)) (.cons (.sli (.v 1) true 2) (.cons (.op .Add (.v 1) (.tup (.cons (.c (.int 0)) .nil))) (.cons (.c .non) (.cons (.tup .nil) (.cons (.c (.int 7)) (.cons (.tup (.cons (.idx (.v 1) (.c (.int 1))) (.cons (.idx (.v 1) (.c (.int 0))) (.cons (.idx (.v 1) (.c (.int 2))) .nil)))) .nil)))))))) (.op .Mod (.v 5) (.c (.int 7)))))
 .nil)))))))⟩
noncomputable def f28:Hp.Fn:=⟨3,8,
 (.cons (.set2 3 1)
 (.cons (.set (.n 4) (.op .Mod (.op .FloorDiv (.v 2) (.c (.int 7))) (.hid 3 (.bi .len (.cons (.v 3) .nil)))))
 (.cons (.set (.n 5) (.op .Mod (.op .FloorDiv (.v 2) (.c (.int 3))) (.hid 3 (.bi .len (.cons (.idx (.v 3) (.v 4)) .nil)))))
 (.cons (.iff (.cmp .Gt (.op .Mod (.v 2) (.c (.int 3))) (.c (.int 0)))
  (.cons (.ixF 3 (.v 4) (.v 5) (.call 27 (.cons (.v 0) (.cons (.hid 3 (.idx (.idx (.v 3) (.v 4)) (.v 5))) (.cons (.op .Add (.hid 3 (.bi .len (.cons (.v 3) .nil))) (.c (.int 1))) (.cons (.op .FloorDiv (.v 2) (.c (.int 11))) .nil))))))
  (.cons (.retv 3)
  .nil))
  .nil)
 (.cons (.thaw 3)
 (.cons (.set (.n 6) (.idx (.idx (.v 3) (.v 4)) (.v 5)))
 (.cons (.set (.n 7) (.lst (.cons (.lst (.cons (.v 6) .nil)) (.cons (.lst (.cons (.v 6) .nil)) .nil))))
 (.cons (.setIx 3 (.v 4) (.idx (.lst (.cons (.lst .nil) (.cons (.op .Mult (.lst (.cons (.v 6) .nil)) (.c (.int 5))) (.cons (.bi .tuple (.cons (.row 3 (.v 4)) .nil)) (.cons (.c .non) (.cons (.dic (.cons (.c (.int 0)) .nil) (.cons (.v 6) .nil)) (.cons (.v 6) (.cons (.lst (.cons (.v 6) (.cons (.lst (.cons (.v 6) .nil)) .nil))) (.cons (.row 3 (.v 4)) .nil))))))))) (.op .Mod (.op .FloorDiv (.v 2) (.c (.int 9))) (.c (.int 8)))))
 (.cons (.iff (.cmp .Eq (.op .Mod (.op .FloorDiv (.v 2) (.c (.int 9))) (.c (.int 8))) (.c (.int 7)))
  (.cons (.ret (.idx (.lst (.cons (.bi .tuple (.cons (.v 3) .nil)) (.cons (.c .non) (.cons (.tup .nil) (.cons (.c (.str "")) (.cons (.dic .nil .nil) (.cons (.c (.int 0)) (.cons (.op .Add (.op .Mult (.v 7) (.c (.int 4))) (.lst (.cons (.lst (.cons (.v 6) .nil)) .nil))) (.cons (.op .Mult (.lst (.cons (.lst (.cons (.tup (.cons (.tup (.cons (.c (.str "yes")) .nil)) (.cons (.tup .nil) (.cons (.c (.int 0)) .nil)))) .nil)) .nil)) (.c (.int 9))) .nil))))))))) (.op .Mod (.op .FloorDiv (.v 2) (.c (.int 72))) (.c (.int 8)))))
  .nil)
  .nil)
 (.cons (.retv 3)
 .nil))))))))))⟩
noncomputable def f29:Hp.Fn:=⟨1,5,
 (.cons (.set (.n 1) (.tup (.cons (.c (.str "yes")) .nil)))
 (.cons (.set (.n 2) (.tup (.cons (.c (.str "not")) (.cons (.tup (.cons (.c (.str "is")) (.cons (.call 23 (.cons (.c (.int 37)) .nil)) (.cons (.tup (.cons (.c (.str "number")) (.cons (.c (.int 0)) .nil))) .nil)))) .nil))))
 (.cons (.set (.n 3) (.lst (.cons (.tup (.cons (.call 22 (.cons (.c (.int 40)) .nil)) (.cons (.tup (.cons (.tup (.cons (.c (.int 0)) (.cons (.call 23 (.cons (.c (.int 39)) .nil)) .nil))) .nil)) (.cons (.c (.int 0)) .nil)))) (.cons (.tup (.cons (.v 2) (.cons (.tup .nil) (.cons (.c (.int 1)) .nil)))) .nil))))
 (.cons (.for (.n 4) (.seq (.lst (.cons (.lst .nil) (.cons (.op .Mult (.lst (.cons (.lst (.cons (.tup (.cons (.v 1) (.cons (.tup .nil) (.cons (.c (.int 8)) .nil)))) .nil)) .nil)) (.c (.int 8))) (.cons (.lst (.cons (.v 3) .nil)) (.cons (.lst (.cons (.op .Mult (.lst (.cons (.tup (.cons (.v 1) (.cons (.tup .nil) (.cons (.c (.int 0)) .nil)))) .nil)) (.c (.int 4))) .nil)) .nil))))))
  (.cons (.iff (.cmp .NotEq (.call 7 (.cons (.v 0) (.cons (.bi .list (.cons (.v 4) .nil)) .nil))) (.v 4))
   (.cons (.ret (.c (.bl false)))
   .nil)
   .nil)
  .nil))
 (.cons (.ret (.c (.bl true)))
 .nil)))))⟩
noncomputable def f30:Hp.Fn:=⟨1,5,
 (.cons (.set (.n 1) (.lst (.cons (.v 0) (.cons (.c (.int 0)) .nil))))
 (.cons (.setL 2 1 [] (.call 15 (.cons (.e (.c (.int 24))) .nil)))
 (.cons (.setL 3 1 [2] (.call 19 (.cons (.e (.v 2)) (.cons (.op .Add (.e (.c (.int 1))) (.call 14 (.cons (.e (.c (.int 4))) .nil))) .nil))))
 (.cons (.iff (.cmp .NotEq (.call 7 (.cons (.v 2) (.cons (.comp 1 [] (.n 0) (.seq (.v 3)) .nil (.bi .list (.cons (.v 0) .nil))) .nil))) (.v 3))
  (.cons (.ret (.c (.bl false)))
  .nil)
  .nil)
 (.cons (.forC (.n 4) 1 [] (.comp 1 [1] (.n 0) (.e (.op .Add (.c (.int 4)) (.bi .len (.cons (.sli (.v 0) true 8) .nil)))) 1 (.call 14 (.cons (.e (.c (.int 2147483647))) .nil)))
  (.cons (.iff (.nt (.call 21 (.cons (.v 2) (.cons (.call 28 (.cons (.v 2) (.cons (.v 3) (.cons (.v 4) .nil)))) .nil))))
   (.cons (.ret (.c (.bl false)))
   .nil)
   .nil)
  .nil))
 (.cons (.ret (.an (.cmp .Eq (.call 7 (.cons (.v 2) (.cons (.comp 1 [] (.n 0) (.seq (.v 3)) .nil (.bi .list (.cons (.v 0) .nil))) .nil))) (.v 3)) (.call 29 (.cons (.v 2) .nil))))
 .nil))))))⟩
noncomputable def pg:Hp.Pg:=⟨[f0,f1,f2,f3,f4,f5,f6,f7,f8,f9,f10,f11,f12,f13,f14,f15,f16,f17,f18,f19,f20,f21,f22,f23,f24,f25,f26,f27,f28,f29,f30],[("TooMany",[.own "TooMany",.own "PromiseError",.tValueError]),("NoCond",[.own "NoCond",.own "PromiseError",.tValueError]),("NoHand",[.own "NoHand",.own "PromiseError",.tValueError]),("PromiseError",[.own "PromiseError",.tValueError])],[[("number",.tup [.str "number"]),("box",.tup [.str "box"]),("after",.tup [.str "box"]),("plus",.tup [.str "sum",.str "sum"]),("minus",.tup [.str "sum",.str "sum"])],[("yes",.tup []),("is",.tup [.str "sum",.str "sum"]),("less",.tup [.str "sum",.str "sum"]),("not",.tup [.str "cond"]),("both",.tup [.str "cond",.str "cond"]),("either",.tup [.str "cond",.str "cond"])]]⟩
end K13
noncomputable section
set_option maxRecDepth 100000
set_option maxHeartbeats 0
namespace K13
open PySem PySem.W L2 Hp Hh
noncomputable def ix:List (Nat×List Str):=(15,["thing"]) ::
 (16,["thing", "least", "most"]) ::
 (22,["boxes", "thing", "plain"]) ::
 (23,["boxes", "thing", "plain"]) ::
 (24,["boxes", "kind", "thing", "plain", "seen", "form", "due", "inner"]) ::
 (25,["kind", "thing", "plain", "word", "form"]) ::
 (26,["boxes", "due", "thing", "most"]) ::
 (33,["boxes", "thing"]) ::
 (34,["boxes", "thing", "end"]) ::
 (35,["boxes", "thing", "end"]) ::
 (36,["boxes", "thing"]) ::
 (37,["boxes", "thing", "least", "put"]) ::
 (38,["boxes", "thing", "least"]) ::
 (40,["_law_script", "_law_k", "_law_base"]) ::
 (41,["_law_pen", "_law_many", "_law_cell_here"]) ::
 (42,["_law_pen", "_law_most", "_law_boxes_here", "_law_room", "_law_k", "_law_top", "_law_letter"]) ::
 (43,["_law_pen", "_law_boxes_here", "_law_deep", "_law_way_here"]) ::
 (44,["_law_pen", "_law_boxes_here", "_law_deep", "_law_way_here"]) ::
 (45,["_law_pen", "_law_boxes_here", "_law_places", "_law_deep", "_law_guard", "_law_puts", "_law_k"]) ::
 (46,["_law_pen", "_law_boxes_here", "_law_many"]) ::
 (47,["_law_e"]) ::
 (48,["_law_boxes_here", "_law_thing", "_law_caught", "_law_e"]) ::
 (49,["_law_many", "_law_cond_here", "_law_k"]) ::
 (50,["_law_many", "_law_one", "_law_k"]) ::
 (51,["_law_boxes_here", "_law_far", "_law_some"]) ::
 (52,["_law_boxes_here", "_law_far", "_law_one", "_law_some", "_law_bad"]) ::
 (53,["_law_boxes_here", "_law_far", "_law_one", "_law_last", "_law_some", "_law_bad"]) ::
 (54,["_law_boxes_here", "_law_way_here", "_law_places", "_law_number", "_law_far", "_law_pick", "_law_bad"]) ::
 (55,["_law_boxes_here", "_law_hand_here", "_law_number", "_law_rows", "_law_k", "_law_j", "_law_way_here", "_law_last"]) ::
 (56,["_law_boxes_here", "_law_yes", "_law_mixed", "_law_wide", "_law_hand_here"]) ::
 (57,["_law_script", "_law_pen", "_law_boxes_here", "_law_hand_here", "_law_cell_here"])::[]
noncomputable def sn:Sn:=⟨[("MOST_PARTS",(.int 40)),("MOST_NUMBER",(.int 99)),("MOST_ROWS",(.int 8)),("MOST_WAYS",(.int 4)),("GUARD",(.int 0)),("PUTS",(.int 1)),("NEXT",(.int 2))],[("SUM_FORMS",[("number",["number"]),("box",["box"]),("after",["box"]),("plus",["sum", "sum"]),("minus",["sum", "sum"])]),("COND_FORMS",[("yes",[]),("is",["sum", "sum"]),("less",["sum", "sum"]),("not",["cond"]),("both",["cond", "cond"]),("either",["cond", "cond"])])],[("TooMany",[.own "TooMany",.own "PromiseError",.tValueError]),("NoCond",[.own "NoCond",.own "PromiseError",.tValueError]),("NoHand",[.own "NoHand",.own "PromiseError",.tValueError]),("PromiseError",[.own "PromiseError",.tValueError])],["PromiseError", "NoBoxes", "TooMany", "NoCond", "NoHand", "NoHouse", "NoStart", "NoStep", "NoPaper", "NoProgram", "NoText", "NoName", "NoRow"]⟩
noncomputable def rsd:List Str:=["TooMany", "NoCond", "NoHand", "PromiseError"]
abbrev pw:=D2
theorem chk:fX ⟨[],[],(ix.map (kQ pw)).map (·.x),sn.cns,sn.cls,true,sn.tbs.map (·.1),rsd⟩ pg.fns (ix.map (kQ pw))=true:=by decide +kernel
abbrev Lq(w:AM)(os:Eb):Prop:=aJo pw (oP pw) (qT pw) (λs=>gN pw sn s.heap) 100000 w os=some (true,Hs (oP pw) (qT pw),jO pw sn w)
theorem lf1(os:Eb)(w:AM):Lq (w.withFollow "special-get-raises" false) os:=by kernel_rfl
theorem lf2(os:Eb)(w:AM):Lq (w.withFollow "special-get-raises" true) os:=by kernel_rfl
theorem lft:HX pw (oP pw) (qT pw) (λ_=>true) (λs=>gN pw sn s.heap) (λw=>jO pw sn w) 100000:=aGI (by kernel_rfl) rfl (λ_=>by kernel_rfl) λw os=>byRow2 "special-get-raises" (P:=λw=>Lq w os) (lf1 os) (lf2 os) w
abbrev rr:=BS
theorem w0:looksOpen rr.row.prog=true:=by kernel_rfl
theorem w1:rr.row.wellSaid=true:=by unfold OpenRow.wellSaid OpenRow.partSaid;rw[w0];kernel_rfl
theorem ws:rr.wellSaid=true:=by unfold OpenLaw.wellSaid;rw[w1];kernel_rfl
end K13
end
namespace K13
open Hp HpS PySem
theorem rB(j:Int)(h:0<j):∀i:Int,opD .Mod (.cl (.int i)) (.cl (.int j))=.ok (.cl (.int (i % j))):=λi=>eE h
theorem aBX{i j:Int}(h:-(2 ^ 64)<j/\j<2 ^ 64):opD .Mult (.cl (.int i)) (.cl (.int j))=.ok (.cl (.int (i*j))):=mul_int (by
 unfold oA;rw[Ay h.1,Ay h.2];simp)
theorem aEp{i j:Int}(h:-(2 ^ 64)<i/\i<2 ^ 64):opD .Mult (.cl (.int i)) (.cl (.int j))=.ok (.cl (.int (i*j))):=mul_int (by
 unfold oA;rw[Ay h.1,Ay h.2];simp)
noncomputable def yI(ns:List Int)(k:Nat):Int:=
 if k<ns.length then ns.getD k 0 else (if 0<ns.length then ns.getD ((k*7+3) % ns.length) 0 else 0)*31+(k:Int)*k*7919+101*k+17
theorem tY{ns:List Int}{k:Nat}(h:k<ns.length):bW ⟨.lst (ns.map D.int),false,true,[]⟩ (.cl (.int (k:Int)))=.ok (.cl (.int (ns.getD k 0))):=by
 have q:(ns.map D.int).length=ns.length:=lM _;have e:(ns.map D.int)[k]? = some (.int (ns.getD k 0)):=by simp[h]
 unfold bW;simp only[dI,q,cU h,e];rfl
theorem aDI(n:Nat)(ns:List Int){k:Nat}(h:k<=1000000):call pg (n+1) 13 [.lst (ns.map D.int),.int k]=.ok (.int (yI ns k),false,false):=by
 refine aX (F:=f13) rfl rfl (v:=.cl (.int (yI ns k))) ?_;show exs pg (call pg n) [.sh true (.lst (ns.map D.int)),.sh true (.int k),.dead] _=_;unfold yI;by_cases I:k<ns.length;have hd:decide ((k:Int)<(ns.length:Int))=true:=Ay (by omega);rw[if_pos I];simp only[f13,aW,fG,bL,cF,dW,oQ,aE,bV,bJ,gS,gZ,gP,gQ,aB,fH,lM,dI,mU,hd,aI,if_true,mQ,jP,tY I,tR];have hd:decide ((k:Int)<(ns.length:Int))=false:=A4 (by omega);rw[if_neg I];have m1:∀i:Int,opD .Mult (.cl (.int i)) (.cl (.int 31))=.ok (.cl (.int (i*31))):=λi=>aBX (by decide);have M:opD .Mult (.cl (.int k)) (.cl (.int k))=.ok (.cl (.int ((k:Int)*k))):=aBX (by omega);have U:opD .Mult (.cl (.int ((k:Int)*k))) (.cl (.int 7919))=.ok (.cl (.int ((k:Int)*k*7919))):=aBX (by decide);have W:opD .Mult (.cl (.int 101)) (.cl (.int k))=.ok (.cl (.int (101*(k:Int)))):=aEp (by decide);have m5:opD .Mult (.cl (.int k)) (.cl (.int 7))=.ok (.cl (.int ((k:Int)*7))):=aBX (by decide);by_cases L:0<ns.length;have q:decide ((0:Int)<(ns.length:Int))=true:=Ay (by omega);have e:((k:Int)*7+3) % (ns.length:Int)=(((k*7+3) % ns.length:Nat):Int):=by rw[Int.natCast_emod,FS,FO];rfl
 rw[if_pos L];simp only[f13,aW,fG,bL,cF,dW,oQ,aP,aE,bV,bJ,gS,gZ,gP,gQ,aB,fH,lM,dI,mU,aBS,hd,q,aI,bF,if_false,if_true,vQ,fF,oR,bM,eD,dP,lS,lZ,jP,dX,m5,add_int,rB (ns.length:Int) (by omega),e,tY (Nat.mod_lt _ L),mQ,m1,M,U,W,tR];have q:decide ((0:Int)<(ns.length:Int))=false:=A4 (by omega);rw[if_neg L];simp only[f13,aW,fG,bL,cF,dW,oQ,aP,aE,bV,bJ,gS,gZ,gP,gQ,aB,fH,lM,dI,mU,aBS,hd,q,aI,bF,if_false,vQ,fF,oR,bM,eD,dP,lS,lZ,dX,add_int,mQ,m1,M,U,W,tR]
noncomputable def aL(ns:List Int)(k:Nat):List D:=[.lst (ns.map D.int),.int k]
noncomputable def nxt(ns:List Int)(k:Nat)(m:Int):Int:=(yI ns k % 4294967291+13*((k:Int)+1))*48271 % 2147483647 / 3 % m
theorem cP(ns:List Int)(k:Nat){m:Int}(h:0<m):0<=nxt ns k m/\nxt ns k m<m:=⟨CL _ (by omega),Cs _ h⟩
theorem lD(n:Nat)(ns:List Int){k:Nat}(h:k<=1000000){m:Int}(hm:0<m):call pg (n+2) 14 [.err ⟨#[]⟩ (aL ns k),.int m]=.ok (.tup [.int (nxt ns k m),.err ⟨#[]⟩ (aL ns (k+1))],false,false):=by
 have I:=aDI n ns h;refine dD (F:=f14) (b:=_) rfl rfl rfl (v:=.cl (.tup [.int (nxt ns k m),.err ⟨#[]⟩ (aL ns (k+1))])) ?_;show exs pg (call pg (n+1)) [.lent (aL ns k),.sh true (.int m),.dead] _=_;have M:∀r,ev pg (call pg (n+1)) (.lent (aL ns k)::r) (.lix 0 (.c (.int 0)))=.ok ⟨.lst (ns.map D.int),false,true,[]⟩:=λr=>rfl;have U:∀k r,ev pg (call pg (n+1)) (.lent (aL ns k)::r) (.lix 0 (.c (.int 1)))=.ok (.cl (.int k)):=λk r=>rfl;have s2:∀r,ex pg (call pg (n+1)) (.lent (aL ns k)::r) (.lset 0 (.c (.int 1)) (.op .Add (.lix 0 (.c (.int 1))) (.c (.int 1))))=.next (.lent (aL ns (k+1))::r):=λr=>rfl;have m1:∀i:Int,opD .Mult (.cl (.int i)) (.cl (.int 48271))=.ok (.cl (.int (i*48271))):=λi=>aBX (by decide);have L:∀i:Int,opD .Mult (.cl (.int 13)) (.cl (.int i))=.ok (.cl (.int (13*i))):=λi=>aEp (by decide);have q:∀i:Int,opD .FloorDiv (.cl (.int i)) (.cl (.int 3))=.ok (.cl (.int (i / 3))):=λi=>cL rfl;have e:((k+1:Nat):Int)=(k:Int)+1:=by omega
 simp only[aW,fG,fF,dX,bZ,aE,bV,M,U,aB,mC,mN,dI,I,aBR,aP,rB 4294967291 (by decide),aI,oR,bM,eD,dP,lS,lZ,vQ,s2,qZ,aEn,dW,bJ,gS,gZ,bD,gP,L,m1,add_int,rB 2147483647 (by decide),q,rB m hm,aDF,aBT,tR,e];rfl
noncomputable def drp:Nat->Ss->Ss
 | 0,s=>s|n+1,.cons _ s=>drp n s|_+1,.nil=>.nil
noncomputable def hdS:Ss->S
 | .cons s _=>s|.nil=>.lend
theorem stp{P:Pg}{cl:Caller}{Z Z':Sg}{s:S}{ss:Ss}(h:ex P cl Z s=.next Z'):exs P cl Z (.cons s ss)=exs P cl Z' ss:=by rw[aW,h,vQ]
theorem gY{P:Pg}{cl:Caller}{Z:Sg}{v:Vl}{s:S}{ss:Ss}(h:ex P cl Z s=.ret v):exs P cl Z (.cons s ss)=.ret v:=by rw[aW,h,tR]
section
variable {P:Pg} {cl:Caller} {l:Nat} {Z Z1 Z2 Z3:Sg}
theorem aJw{a:EL}{x:Vl}(h:evl P cl l Z a=.ok (x,Z1)):evls' P cl l Z (.cons a .nil)=.ok ([x],Z1):=by rw[iC,h];rfl
theorem aBY{a b:EL}{x y:Vl}(h:evl P cl l Z a=.ok (x,Z1))(q:evl P cl l Z1 b=.ok (y,Z2)):evls' P cl l Z (.cons a (.cons b .nil))=.ok ([x,y],Z2):=by rw[iC,h,aB,aJw q];rfl
theorem aLn{a b c:EL}{x y z:Vl}(h:evl P cl l Z a=.ok (x,Z1))(q:evl P cl l Z1 b=.ok (y,Z2))(I:evl P cl l Z2 c=.ok (z,Z3)):evls' P cl l Z (.cons a (.cons b (.cons c .nil)))=.ok ([x,y,z],Z3):=by rw[iC,h,aB,aBY q I];rfl
theorem cM{a:E}{d:D}(h:ev P cl Z a=.ok (.cl d)):evl P cl l Z (.e a)=.ok (.cl d,Z):=by rw[aEn,h];rfl
theorem iW{a b:EL}{x y:D}(h:evl P cl l Z a=.ok (.cl x,Z1))(q:evl P cl l Z1 b=.ok (.cl y,Z2)):evl P cl l Z (.tup (.cons a (.cons b .nil)))=.ok (.cl (.tup [x,y]),Z2):=by rw[yF,aBY h q];rfl
theorem lE{a b c:EL}{x y z:D}(h:evl P cl l Z a=.ok (.cl x,Z1))(q:evl P cl l Z1 b=.ok (.cl y,Z2))(I:evl P cl l Z2 c=.ok (.cl z,Z3)):evl P cl l Z (.tup (.cons a (.cons b (.cons c .nil))))=.ok (.cl (.tup [x,y,z]),Z3):=by rw[yF,aLn h q I];rfl
theorem oW{o:Operator}{a b:EL}{x y z:D}(h:evl P cl l Z a=.ok (.cl x,Z1))(q:evl P cl l Z1 b=.ok (.cl y,Z2))(I:opD o (.cl x) (.cl y)=.ok (.cl z)):evl P cl l Z (.op o a b)=.ok (.cl z,Z2):=by rw[aGR,h,aB,q,aB];show(opD o (.cl x) (.cl y) >>= λz=>noAl z Z2)=_;rw[I];rfl
theorem kI{e:EL}{d:D}{c:List D}{r:Sg}(h:evl P cl 0 Z e=.ok (.cl d,.lent c::r)):ex P cl Z (.retL e)=.ret (.cl (.tup [d,.err ⟨#[]⟩ c])):=by rw[qZ,h];rfl
end
theorem eQ(n:Nat){ns:List Int}{k:Nat}(h:k<=1000000){m:Int}(hm:0<m){c:List D}{r r1:Sg}{a:EL}(q:evl pg (call pg (n+2)) 0 (.lent c::r) a=.ok (.cl (.int m),.lent (aL ns k)::r1)) :
 evl pg (call pg (n+2)) 0 (.lent c::r) (.call 14 (.cons a .nil))=.ok (.cl (.int (nxt ns k m)),.lent (aL ns (k+1))::r1):=tV rfl (aJw q) (lD n ns h hm)
theorem yJ(i:Int):i % 2=0\/i % 2=1:=by omega
theorem aBZ{a b:Str}{v:Vl}(q:v.d=.lst [.str a,.str b]){i:Int}(h:i=0\/i=1):bW v (.cl (.int i))=.ok (.cl (.str (if i=0 then a else b))):=by unfold bW;rw[q];rcases h with rfl|rfl <;> rfl
theorem aGT(a b:Str):rX [.cl (.str a),.cl (.str b)]=⟨.lst [.str a,.str b],true,false,[]⟩:=rfl
abbrev fr(ns:List Int)(k:Nat)(bs:List (Str×Int))(dp:Int)(s:Sl):Sg:=[.lent (aL ns k),.sh true (.lst (aD bs)),.sh true (.int dp),s]
theorem lF{P:Pg}{cl:Caller}{Z:Sg}{a b:E}{x y:Bool}(q:tst P cl Z a=.ok x)(I:tst P cl Z b=.ok y):tst P cl Z (.orr a b)=.ok (x||y):=by
 rw[gO,q,aB];cases x with
 | true=>rfl|false=>rw[if_neg bN,I];rfl
theorem mZ(n:Nat)(ns:List Int){k:Nat}(hk:k<=900000){bs:List (Str×Int)}(hm:1<=bs.length){dp:Int}(hd:dp=0\/nxt ns k 6<3) :
 ∃(s:Sm) (k':Nat),s.wf bs.length true/\s.sz=1/\k'<=k+3/\call pg (n+3) 16 [.err ⟨#[]⟩ (aL ns k),.lst (aD bs),.int dp]=.ok (.tup [s.d,.err ⟨#[]⟩ (aL ns k')],false,false):=by
 have x0:=eQ n (ns:=ns) (k:=k) (by omega) (m:=6) (by decide) (c:=aL ns k) (r:=[.sh true (.lst (aD bs)),.sh true (.int dp),.dead]) (a:=.e (.c (.int 6))) (cM rfl);have e1:ex pg (call pg (n+2)) (fr ns k bs dp .dead) (.setL 3 0 [] (.call 14 (.cons (.e (.c (.int 6))) .nil)))=.next (fr ns (k+1) bs dp (.sh false (.int (nxt ns k 6)))):=by rw[fI,bM,x0];rfl
 have ht:tst pg (call pg (n+2)) (fr ns (k+1) bs dp (.sh false (.int (nxt ns k 6)))) (.orr (.cmp .Eq (.v 2) (.c (.int 0))) (.cmp .Lt (.v 3) (.c (.int 3))))=.ok true:=by rw[lF (x:=dp==0) (y:=decide (nxt ns k 6<3)) rfl rfl];rcases hd with h|h;rw[h];rfl;rw[Ay h,Bz]
 have w2:∀cl:Caller,ev pg cl (fr ns (k+1) bs dp (.sh false (.int (nxt ns k 6)))) (.op .Mod (.v 3) (.c (.int 2)))=.ok (.cl (.int (nxt ns k 6 % 2))):=λcl=>by simp only[dX,dW,aP,bJ,fr,gS,gZ,bD,aB,rB 2 (by decide)]
 by_cases hz:nxt ns k 6 % 2=0;have hb:(0:Int)<((aD bs).length:Int):=by rw[aD,lM];omega
 have W:=eQ n (ns:=ns) (k:=k+1) (by omega) hb (c:=aL ns (k+1)) (r:=[.sh true (.lst (aD bs)),.sh true (.int dp),.sh false (.int (nxt ns k 6))]) (a:=.e (.bi .len (.cons (.v 1) .nil))) (cM rfl);have L:=cP ns (k+1) hb;have hl:((aD bs).length:Int)=(bs.length:Int):=by rw[aD,lM]
 refine⟨.box (nxt ns (k+1) (aD bs).length).toNat,k+2,(show _<_ by omega),rfl,by omega,?_⟩;refine dD (F:=f16) (b:=_) rfl rfl rfl (v:=.cl (.tup [Sm.d (.box (nxt ns (k+1) (aD bs).length).toNat),.err ⟨#[]⟩ (aL ns (k+2))])) ?_;show exs pg (call pg (n+2)) (fr ns k bs dp .dead) _=_;refine(stp e1).trans (gY ?_);have U:tst pg (call pg (n+2)) (fr ns (k+1) bs dp (.sh false (.int (nxt ns k 6)))) (.cmp .Eq (.op .Mod (.v 3) (.c (.int 2))) (.c (.int 0)))=.ok true:=by simp only[cF,w2,aP,aB,dI,gC,gR,hz];rfl
 rw[bL,ht,aI,if_pos rfl];refine gY ?_;rw[bL,U,aI,if_pos rfl];refine gY ?_;have:=kI (iW (cM (a:=.c (.str "box")) rfl) W);rw[this];show O.ret (.cl (.tup [.tup [.str "box",.int _],_]))=O.ret (.cl (.tup [.tup [.str "box",.int _],_]));rw[Int.toNat_of_nonneg L.1];have I:(nxt ns k 6 % 2==0)=false:=beq_eq_false_iff_ne.mpr hz;have W:=eQ n (ns:=ns) (k:=k+1) (by omega) (m:=4) (by decide) (c:=aL ns (k+1)) (r:=[.sh true (.lst (aD bs)),.sh true (.int dp),.sh false (.int (nxt ns k 6))]) (a:=.e (.c (.int 4))) (cM rfl);have L:=cP ns (k+1) (m:=4) (by decide);obtain⟨q,hq,q0,q1⟩:∃q:Int,bW (⟨.lst [.int 3,.int 4,.int 8,.int 100],false,false,[]⟩:Vl) (.cl (.int (nxt ns (k+1) 4)))=.ok (.cl (.int q))/\0<q/\q<=100:=by
  generalize nxt ns (k+1) 4=w at L;have:w=0\/w=1\/w=2\/w=3:=by omega
  rcases this with rfl|rfl|rfl|rfl;exact⟨3,rfl,by decide,by decide⟩;exact⟨4,rfl,by decide,by decide⟩;exact⟨8,rfl,by decide,by decide⟩;exact⟨100,rfl,by decide,by decide⟩
 have xi:evl pg (call pg (n+2)) 0 (fr ns (k+1) bs dp (.sh false (.int (nxt ns k 6)))) (.idx (.e (.lst (.cons (.c (.int 3)) (.cons (.c (.int 4)) (.cons (.c (.int 8)) (.cons (.c (.int 100)) .nil)))))) (.call 14 (.cons (.e (.c (.int 4))) .nil)))=.ok (.cl (.int q),fr ns (k+2) bs dp (.sh false (.int (nxt ns k 6)))):=by rw[yE];show(evl pg (call pg (n+2)) 0 (fr ns (k+1) bs dp (.sh false (.int (nxt ns k 6)))) (.call 14 (.cons (.e (.c (.int 4))) .nil)) >>= λy=>bW (⟨.lst [.int 3,.int 4,.int 8,.int 100],false,false,[]⟩:Vl) y.1.nr >>= λz=>noAl z y.2)=_;rw[W];show(bW (⟨.lst [.int 3,.int 4,.int 8,.int 100],false,false,[]⟩:Vl) (.cl (.int (nxt ns (k+1) 4))) >>= λz=>noAl z _)=_;rw[hq];rfl
 have x2:=eQ n (ns:=ns) (k:=k+2) (by omega) q0 (c:=aL ns (k+1)) (r:=[.sh true (.lst (aD bs)),.sh true (.int dp),.sh false (.int (nxt ns k 6))]) xi;have M:=cP ns (k+2) q0;refine⟨.num (nxt ns (k+2) q),k+3,⟨M.1,by omega⟩,rfl,by omega,?_⟩;refine dD (F:=f16) (b:=_) rfl rfl rfl (v:=.cl (.tup [Sm.d (.num (nxt ns (k+2) q)),.err ⟨#[]⟩ (aL ns (k+3))])) ?_;show exs pg (call pg (n+2)) (fr ns k bs dp .dead) _=_;refine(stp e1).trans (gY ?_);have U:tst pg (call pg (n+2)) (fr ns (k+1) bs dp (.sh false (.int (nxt ns k 6)))) (.cmp .Eq (.op .Mod (.v 3) (.c (.int 2))) (.c (.int 0)))=.ok false:=by simp only[cF,w2,aP,aB,dI,gC,gR,I]
 rw[bL,ht,aI,if_pos rfl];refine(stp (Z':=fr ns (k+1) bs dp (.sh false (.int (nxt ns k 6)))) ?_).trans (gY ?_);rw[bL,U,aI,if_neg bN];rfl;exact kI (iW (cM (a:=.c (.str "number")) rfl) x2)
theorem aCa(n:Nat)(ns:List Int){k:Nat}(hk:k<=800000){bs:List (Str×Int)}(hm:1<=bs.length){dp:Int}(hd:dp=0\/dp=1) :
 ∃(s:Sm) (q:Nat),s.wf bs.length true/\s.sz<=3/\q<=k+10/\call pg (n+4) 16 [.err ⟨#[]⟩ (aL ns k),.lst (aD bs),.int dp]=.ok (.tup [s.d,.err ⟨#[]⟩ (aL ns q)],false,false):=by
 by_cases hb:dp=0\/nxt ns k 6<3;obtain⟨s,q,L,h2,M,h4⟩:=mZ (n+1) ns (k:=k) (by omega) hm hb;exact⟨s,q,L,by omega,by omega,h4⟩;have L:dp=1:=by omega
 subst L;have M:¬ nxt ns k 6<3:=λz=>hb (.inr z);have x0:=eQ (n+1) (ns:=ns) (k:=k) (by omega) (m:=6) (by decide) (c:=aL ns k) (r:=[.sh true (.lst (aD bs)),.sh true (.int 1),.dead]) (a:=.e (.c (.int 6))) (cM rfl);have U:ex pg (call pg (n+3)) (fr ns k bs 1 .dead) (.setL 3 0 [] (.call 14 (.cons (.e (.c (.int 6))) .nil)))=.next (fr ns (k+1) bs 1 (.sh false (.int (nxt ns k 6)))):=by rw[fI,bM,x0];rfl
 obtain⟨s,k1,s1,s2,s3,s4⟩:=mZ n ns (k:=k+1) (by omega) hm (dp:=0) (.inl rfl);obtain⟨t,k2,t1,t2,t3,t4⟩:=mZ n ns (k:=k1) (by omega) hm (dp:=0) (.inl rfl);generalize nxt ns k 6=w at M U;have ht:tst pg (call pg (n+3)) (fr ns (k+1) bs 1 (.sh false (.int w))) (.orr (.cmp .Eq (.v 2) (.c (.int 0))) (.cmp .Lt (.v 3) (.c (.int 3))))=.ok false:=by rw[lF (x:=false) (y:=decide (w<3)) rfl rfl,A4 M];rfl
 have W:=aBZ (a:= "plus") (b:= "minus") (v:=⟨.lst [.str "plus",.str "minus"],true,false,[]⟩) rfl (yJ w);have hw:(if w % 2=0 then ("plus" : Str) else "minus")=aBU (decide (w % 2=0)):=by unfold aBU;by_cases h:w % 2=0 <;> simp[h]
 rw[hw] at W;have ew:evl pg (call pg (n+3)) 0 (fr ns (k+1) bs 1 (.sh false (.int w))) (.e (.idx (.lst (.cons (.c (.str "plus")) (.cons (.c (.str "minus")) .nil))) (.op .Mod (.v 3) (.c (.int 2)))))=.ok (.cl (.str (aBU (decide (w % 2=0)))),fr ns (k+1) bs 1 (.sh false (.int w))):=by refine cM ?_;simp only[jP,eI,aE,bV,dX,dW,aP,bJ,fr,gS,gZ,bD,aB,rB 2 (by decide),aGT,W]
 have I:∀{k q:Nat} {s:Sm},call pg (n+3) 16 [.err ⟨#[]⟩ (aL ns k),.lst (aD bs),.int 0]=.ok (.tup [s.d,.err ⟨#[]⟩ (aL ns q)],false,false)->evl pg (call pg (n+3)) 0 (fr ns k bs 1 (.sh false (.int w))) (.call 16 (.cons (.e (.v 1)) (.cons (.e (.op .Sub (.v 2) (.c (.int 1)))) .nil)))=.ok (.cl s.d,fr ns q bs 1 (.sh false (.int w))):=λ{k q s} h=>tV (vs:=[⟨.lst (aD bs),false,true,[]⟩,.cl (.int 0)]) rfl rfl h;refine⟨.two (decide (w % 2=0)) s t,k2,⟨s1,t1⟩,by show 1+s.sz+t.sz<=3;omega,by omega,?_⟩;refine dD (F:=f16) (b:=_) rfl rfl rfl (v:=.cl (.tup [Sm.d (.two (decide (w % 2=0)) s t),.err ⟨#[]⟩ (aL ns k2)])) ?_;show exs pg (call pg (n+3)) (fr ns k bs 1 .dead) _=_;refine(stp U).trans ((stp (Z':=fr ns (k+1) bs 1 (.sh false (.int w))) ?_).trans (gY ?_));rw[bL,ht,aI,if_neg bN];rfl;exact kI (lE ew (I s4) (I t4))
theorem aGU(n:Nat){ns:List Int}{k:Nat}(hk:k<=800000){bs:List (Str×Int)}(hm:1<=bs.length){dp:Int}(hd:dp=0\/dp=1){b:EL}{r:Sg}
 (W:evl pg (call pg (n+4)) 0 (.lent (aL ns k)::.sh true (.lst (aD bs))::r) b=.ok (.cl (.int dp),.lent (aL ns k)::.sh true (.lst (aD bs))::r)) :
 ∃(s:Sm) (q:Nat),s.wf bs.length true/\s.sz<=3/\q<=k+10/\evl pg (call pg (n+4)) 0 (.lent (aL ns k)::.sh true (.lst (aD bs))::r) (.call 16 (.cons (.e (.v 1)) (.cons b .nil)))=.ok (.cl s.d,.lent (aL ns q)::.sh true (.lst (aD bs))::r):=by obtain⟨s,q,I,L,M,U⟩:=aCa n ns hk hm hd;exact⟨s,q,I,L,M,tV (vs:=[⟨.lst (aD bs),false,true,[]⟩,.cl (.int dp)]) rfl (aBY rfl W) U⟩
theorem oX(n:Nat)(ns:List Int){k:Nat}(hk:k<=700000){bs:List (Str×Int)}(hm:1<=bs.length){dp:Int}(hd:dp=0\/nxt ns k 10<5) :
 ∃(q:Cn) (W:Nat),q.wf bs.length true/\q.sz<=7/\W<=k+21/\call pg (n+5) 17 [.err ⟨#[]⟩ (aL ns k),.lst (aD bs),.int dp]=.ok (.tup [q.d,.err ⟨#[]⟩ (aL ns W)],false,false):=by
 have x0:=eQ (n+2) (ns:=ns) (k:=k) (by omega) (m:=10) (by decide) (c:=aL ns k) (r:=[.sh true (.lst (aD bs)),.sh true (.int dp),.dead]) (a:=.e (.c (.int 10))) (cM rfl);have I:ex pg (call pg (n+4)) (fr ns k bs dp .dead) (.setL 3 0 [] (.call 14 (.cons (.e (.c (.int 10))) .nil)))=.next (fr ns (k+1) bs dp (.sh false (.int (nxt ns k 10)))):=by rw[fI,bM,x0];rfl
 generalize nxt ns k 10=w at hd I;have t0:tst pg (call pg (n+4)) (fr ns (k+1) bs dp (.sh false (.int w))) (.cmp .Eq (.v 3) (.c (.int 0)))=.ok (w==0):=rfl;by_cases U:w=0;refine⟨.yes,k+1,trivial,by decide,by omega,?_⟩;refine dD (F:=f17) (b:=_) rfl rfl rfl (v:=.cl (.tup [Cn.d .yes,.err ⟨#[]⟩ (aL ns (k+1))])) ?_;show exs pg (call pg (n+4)) (fr ns k bs dp .dead) _=_;refine(stp I).trans (gY ?_);rw[bL,t0,U,aI];exact gY (kI (cM rfl));have L:(w==0)=false:=beq_eq_false_iff_ne.mpr U;have m2:∀e,ev pg (call pg (n+4)) (fr ns (k+1) bs dp (.sh false (.int w))) e=.ok (.cl (.int w))->ev pg (call pg (n+4)) (fr ns (k+1) bs dp (.sh false (.int w))) (.op .Mod e (.c (.int 2)))=.ok (.cl (.int (w % 2))):=λe h=>by rw[dX,h,aB,aP,aB,rB 2 (by decide)]
 obtain⟨s,k1,s1,s2,s3,s4⟩:=aGU n (ns:=ns) (k:=k+1) (by omega) hm (yJ w) (b:=.e (.op .Mod (.v 3) (.c (.int 2)))) (r:=[.sh true (.int dp),.sh false (.int w)]) (cM (m2 _ rfl));obtain⟨t,k2,t1,t2,t3,t4⟩:=aGU n (ns:=ns) (k:=k1) (by omega) hm (dp:=1) (.inr rfl) (b:=.e (.c (.int 1))) (r:=[.sh true (.int dp),.sh false (.int w)]) (cM rfl);have d2:opD .FloorDiv (.cl (.int w)) (.cl (.int 2))=.ok (.cl (.int (w / 2))):=cL rfl;have p2:=aBZ (a:= "is") (b:= "less") (v:=⟨.lst [.str "is",.str "less"],true,false,[]⟩) rfl (yJ (w / 2));have M:(if w / 2 % 2=0 then ("is" : Str) else "less")=aBW (decide (w / 2 % 2=0)):=by unfold aBW;by_cases h:w / 2 % 2=0 <;> simp[h]
 rw[M] at p2;have ew:evl pg (call pg (n+4)) 0 (fr ns (k+1) bs dp (.sh false (.int w))) (.e (.idx (.lst (.cons (.c (.str "is")) (.cons (.c (.str "less")) .nil))) (.op .Mod (.op .FloorDiv (.v 3) (.c (.int 2))) (.c (.int 2)))))=.ok (.cl (.str (aBW (decide (w / 2 % 2=0)))),fr ns (k+1) bs dp (.sh false (.int w))):=by refine cM ?_;simp only[jP,eI,aE,bV,dX,dW,aP,bJ,fr,gS,gZ,bD,aB,d2,rB 2 (by decide),aGT,p2]
 have ht:tst pg (call pg (n+4)) (fr ns (k+1) bs dp (.sh false (.int w))) (.orr (.cmp .Eq (.v 2) (.c (.int 0))) (.cmp .Lt (.v 3) (.c (.int 5))))=.ok true:=by rw[lF (x:=dp==0) (y:=decide (w<5)) rfl rfl];rcases hd with h|h;rw[h];rfl;rw[Ay h,Bz]
 refine⟨.cmp (decide (w / 2 % 2=0)) s t,k2,⟨s1,t1⟩,by show 1+s.sz+t.sz<=7;omega,by omega,?_⟩;refine dD (F:=f17) (b:=_) rfl rfl rfl (v:=.cl (.tup [Cn.d (.cmp (decide (w / 2 % 2=0)) s t),.err ⟨#[]⟩ (aL ns k2)])) ?_;show exs pg (call pg (n+4)) (fr ns k bs dp .dead) _=_;refine(stp I).trans ((stp (Z':=fr ns (k+1) bs dp (.sh false (.int w))) ?_).trans (gY ?_));rw[bL,t0,L,aI];rfl;rw[bL,ht,aI];exact gY (kI (lE ew s4 t4))
theorem nC(ns:List Int){bs:List (Str×Int)}(hm:1<=bs.length):∀(d n k:Nat),d<=2->k+200*d<=600000 ->
 ∃(q:Cn) (I:Nat),q.wf bs.length true/\q.sz+1<=8*2 ^ d/\I+1<=k+22*2 ^ d/\call pg (n+d+5) 17 [.err ⟨#[]⟩ (aL ns k),.lst (aD bs),.int d]=.ok (.tup [q.d,.err ⟨#[]⟩ (aL ns I)],false,false)
 | 0,n,k,_,hk=>by obtain⟨q,I,M,h2,h3,U⟩:=oX n ns (k:=k) (by omega) hm (dp:=0) (.inl rfl);exact⟨q,I,M,by omega,by omega,U⟩|d+1,n,k,hd2,hk=>by
  have hp:2 ^ (d+1)=2*2 ^ d:=by rw[Nat.pow_succ,GP]
  have q2:2 ^ d<=2:=by
   have:d<=1:=by omega
   exact Ey (by decide) this
  have q3:1<=2 ^ d:=Nat.one_le_two_pow;by_cases hb:nxt ns k 10<5;obtain⟨q,I,M,h2,h3,U⟩:=oX (n+(d+1)) ns (k:=k) (by omega) hm (dp:=((d+1:Nat):Int)) (.inr hb);exact⟨q,I,M,by omega,by omega,U⟩;have x0:=eQ (n+d+3) (ns:=ns) (k:=k) (by omega) (m:=10) (by decide) (c:=aL ns k) (r:=[.sh true (.lst (aD bs)),.sh true (.int ((d+1:Nat):Int)),.dead]) (a:=.e (.c (.int 10))) (cM rfl);have rg:=cP ns k (m:=10) (by decide);have e1:ex pg (call pg (n+d+5)) (fr ns k bs ((d+1:Nat):Int) .dead) (.setL 3 0 [] (.call 14 (.cons (.e (.c (.int 10))) .nil)))=.next (fr ns (k+1) bs ((d+1:Nat):Int) (.sh false (.int (nxt ns k 10)))):=by rw[fI,bM,x0];rfl
  obtain⟨s,k1,s1,s2,s3,s4⟩:=nC ns hm d n (k+1) (by omega) (by omega);obtain⟨t,k2,t1,t2,t3,t4⟩:=nC ns hm d n k1 (by omega) (by omega);generalize nxt ns k 10=w at hb e1 rg;have q0:(w==0)=false:=beq_eq_false_iff_ne.mpr (by omega);have t0:tst pg (call pg (n+d+5)) (fr ns (k+1) bs ((d+1:Nat):Int) (.sh false (.int w))) (.cmp .Eq (.v 3) (.c (.int 0)))=.ok (w==0):=rfl;have W:((((d+1:Nat):Int))==0)=false:=beq_eq_false_iff_ne.mpr (by omega);have ht:tst pg (call pg (n+d+5)) (fr ns (k+1) bs ((d+1:Nat):Int) (.sh false (.int w))) (.orr (.cmp .Eq (.v 2) (.c (.int 0))) (.cmp .Lt (.v 3) (.c (.int 5))))=.ok false:=by rw[lF (x:=(((d+1:Nat):Int))==0) (y:=decide (w<5)) rfl rfl,A4 hb,W];rfl
  have t7:tst pg (call pg (n+d+5)) (fr ns (k+1) bs ((d+1:Nat):Int) (.sh false (.int w))) (.cmp .Lt (.v 3) (.c (.int 7)))=.ok (decide (w<7)):=rfl;have ed:((d+1:Nat):Int)-1=(d:Int):=by omega
  have el:∀k,evl pg (call pg (n+d+5)) 0 (fr ns k bs ((d+1:Nat):Int) (.sh false (.int w))) (.e (.op .Sub (.v 2) (.c (.int 1))))=.ok (.cl (.int d),fr ns k bs ((d+1:Nat):Int) (.sh false (.int w))):=λk=>by refine cM ?_;rw[<-ed];rfl
  have L:∀{k I:Nat} {q:Cn},call pg (n+d+5) 17 [.err ⟨#[]⟩ (aL ns k),.lst (aD bs),.int d]=.ok (.tup [q.d,.err ⟨#[]⟩ (aL ns I)],false,false)->evl pg (call pg (n+d+5)) 0 (fr ns k bs ((d+1:Nat):Int) (.sh false (.int w))) (.call 17 (.cons (.e (.v 1)) (.cons (.e (.op .Sub (.v 2) (.c (.int 1)))) .nil)))=.ok (.cl q.d,fr ns I bs ((d+1:Nat):Int) (.sh false (.int w))):=λ{k I q} h=>tV (vs:=[⟨.lst (aD bs),false,true,[]⟩,.cl (.int d)]) rfl (aBY rfl (el k)) h;have step:∀{v:Vl},exs pg (call pg (n+d+5)) (fr ns (k+1) bs ((d+1:Nat):Int) (.sh false (.int w))) (drp 4 f17.body)=.ret v->call pg (n+(d+1)+5) 17 [.err ⟨#[]⟩ (aL ns k),.lst (aD bs),.int ((d+1:Nat):Int)]=.ok (v.d,v.fr,v.pa):=λ{v} h=>by refine dD (F:=f17) (b:=_) rfl rfl rfl (v:=v) ?_;show exs pg (call pg (n+d+5)) (fr ns k bs ((d+1:Nat):Int) .dead) _=_;refine(stp e1).trans ((stp (Z':=fr ns (k+1) bs ((d+1:Nat):Int) (.sh false (.int w))) ?_).trans ((stp (Z':=fr ns (k+1) bs ((d+1:Nat):Int) (.sh false (.int w))) ?_).trans h));rw[bL,t0,q0,aI];rfl;rw[bL,ht,aI];rfl
  by_cases h7:w<7;refine⟨.nt s,k1,s1,by show 1+s.sz+1<=_;omega,by omega,step (v:=.cl (.tup [Cn.d (.nt s),.err ⟨#[]⟩ (aL ns k1)])) (gY ?_)⟩;rw[bL,t7,Ay h7,aI];exact gY (kI (iW (cM (a:=.c (.str "not")) rfl) (L s4)));have p2:=aBZ (a:= "both") (b:= "either") (v:=⟨.lst [.str "both",.str "either"],true,false,[]⟩) rfl (yJ w);have q1:(if w % 2=0 then ("both" : Str) else "either")=tX (decide (w % 2=0)):=by unfold tX;by_cases h:w % 2=0 <;> simp[h]
  rw[q1] at p2;have ew:evl pg (call pg (n+d+5)) 0 (fr ns (k+1) bs ((d+1:Nat):Int) (.sh false (.int w))) (.e (.idx (.lst (.cons (.c (.str "both")) (.cons (.c (.str "either")) .nil))) (.op .Mod (.v 3) (.c (.int 2)))))=.ok (.cl (.str (tX (decide (w % 2=0)))),fr ns (k+1) bs ((d+1:Nat):Int) (.sh false (.int w))):=by refine cM ?_;simp only[jP,eI,aE,bV,dX,dW,aP,bJ,fr,gS,gZ,bD,aB,rB 2 (by decide),aGT,p2]
  refine⟨.two (decide (w % 2=0)) s t,k2,⟨s1,t1⟩,by show 1+s.sz+t.sz+1<=_;omega,by omega,step (v:=.cl (.tup [Cn.d (.two (decide (w % 2=0)) s t),.err ⟨#[]⟩ (aL ns k2)])) ((stp (Z':=fr ns (k+1) bs ((d+1:Nat):Int) (.sh false (.int w))) ?_).trans (gY ?_))⟩;rw[bL,t7,A4 h7,aI];rfl;exact kI (lE ew (L s4) (L t4))
structure Way where
 g:Cn
 ps:List (Nat×Sm)
 nx:Int
noncomputable def hG(p:Nat×Sm):D:=.tup [.int p.1,p.2.d]
noncomputable def Way.d(w:Way):D:=.tup [w.g.d,.tup (w.ps.map hG),.int w.nx]
noncomputable def Up(ps:List (Nat×Sm)):Prop:=ps.Pairwise λp q=>p.1<q.1
structure tZ (m:Nat) (p:Nat×Sm):Prop where
 box:p.1<m
 wf:p.2.wf m true
 sz:p.2.sz<=40
structure kJ (m:Nat) (w:Way):Prop where
 g:w.g.wf m true
 gs:w.g.sz<=40
 ps:∀p∈w.ps,tZ m p
 up:Up w.ps
theorem aDJ(p:Nat×Sm):noL (hG p)=true:=aDE rfl p.2.noL
theorem oY(ps:List (Nat×Sm)):noLs (ps.map hG)=true:=iU aDJ ps
theorem yK(w:Way):noL w.d=true:=by simp[Way.d,noL,noLs,w.g.noL,oY]
theorem aAl(ws:List Way):noLs (ws.map Way.d)=true:=iU yK ws
theorem aDK(i:Nat){ds:List D}(h:noLs ds=true):biD .tuple [⟨.lst ds,false,false,[i]⟩]=.ok (.cl (.tup ds)):=by show R.ok (Vl.mk (.tup ds) false (false&&!noLs ds) (if noLs ds=true then [] else [i]))=_;rw[h];rfl
abbrev wf(ns:List Int)(k:Nat)(bs:List (Str×Int))(m dp:Int)(g:Cn)(ps:List (Nat×Sm))(s:Sl):Sg:=[.lent (aL ns k),.sh true (.lst (aD bs)),.sh true (.int m),.sh true (.int dp),.sh false g.d,.own false (ps.map hG),s]
abbrev aJx:Ss:=match hdS (drp 3 f18.body) with|.for _ _ b=>b|_=>.nil
theorem aCb(n:Nat){ns:List Int}{k:Nat}(hk:k<=500000){bs:List (Str×Int)}(hm:1<=bs.length)(q0:bs.length<=4){m dp:Int}{g:Cn}{ps:List (Nat×Sm)}{i:Nat}(hi:i<bs.length)(M:∀p∈ps,tZ bs.length p/\p.1<i)(hu:Up ps)(hl:ps.length<=i) :
 ∃(I:List (Nat×Sm)) (L:Nat),(∀p∈I,tZ bs.length p/\p.1<i+1)/\Up I/\I.length<=i+1/\L<=k+11 /\
  exs pg (call pg (n+4)) (wf ns k bs m dp g ps (.sh false (.int i))) aJx=.next (wf ns L bs m dp g I (.sh false (.int i))):=by
 have W:=eQ (n+2) (ns:=ns) (k:=k) (by omega) (m:=5) (by decide) (c:=aL ns k) (r:=[.sh true (.lst (aD bs)),.sh true (.int m),.sh true (.int dp),.sh false g.d,.own false (ps.map hG),.sh false (.int i)]) (a:=.e (.c (.int 5))) (cM rfl);generalize nxt ns k 5=w at W;by_cases hw:w<3;obtain⟨s,L,s1,s2,s3,s4⟩:=aGU n (ns:=ns) (k:=k+1) (by omega) hm (dp:=1) (.inr rfl) (b:=.e (.c (.int 1))) (r:=[.sh true (.int m),.sh true (.int dp),.sh false g.d,.own false (ps.map hG),.sh false (.int i)]) (cM rfl);refine⟨ps++[(i,s)],L,λp h=>?_,?_,by rw[lA,AX];omega,by omega,?_⟩;rcases Bc.mp h with h|h;exact⟨(M p h).1,by have:=(M p h).2;omega⟩;rw[D3.mp h];exact⟨⟨hi,s1,AH s2 (by decide)⟩,Bk i⟩;unfold Up;rw[List.pairwise_append];refine⟨hu,DO _ _,λp h q h'=>?_⟩;rw[D3.mp h'];exact(M p h).2;have et:=iW (cM (P:=pg) (cl:=call pg (n+4)) (l:=0) (Z:=wf ns (k+1) bs m dp g ps (.sh false (.int i))) (a:=.v 6) (d:=.int i) rfl) s4;have U:(ps.map hG++[hG (i,s)]).length<=lim:=by rw[lA,lM,AX];unfold lim;omega
 refine(stp (Z':=wf ns L bs m dp g (ps++[(i,s)]) (.sh false (.int i))) ?_);rw[yH,W,cB,aI];show O.from _ (R.ok (Vl.cl (.int 3))) (λz=>match bT .Lt (.int w) z.d with|some k=>if k then exs pg (call pg (n+4)) _ _ else exs pg (call pg (n+4)) _ _|none=>.bad)=_;rw[aI,dI,mU,Ay hw];refine stp ?_;rw[yG];show O.from _ (evl pg (call pg (n+4)) 0 (wf ns (k+1) bs m dp g ps (.sh false (.int i))) _).calm _=_;rw[et,cB,aI];show(if (ps.map hG++[hG (i,s)]).length<=lim then O.next ((wf ns L bs m dp g ps (.sh false (.int i))).set 5 _) else O.bad)=_;rw[if_pos U];simp[wf];exact⟨rfl,rfl⟩;refine⟨ps,k+1,λp h=>⟨(M p h).1,by have:=(M p h).2;omega⟩,hu,by omega,by omega,?_⟩;refine(stp (Z':=wf ns (k+1) bs m dp g ps (.sh false (.int i))) ?_);rw[yH,W,cB,aI];show O.from _ (R.ok (Vl.cl (.int 3))) (λz=>match bT .Lt (.int w) z.d with|some k=>if k then exs pg (call pg (n+4)) _ _ else exs pg (call pg (n+4)) _ _|none=>.bad)=_;rw[aI,dI,mU,A4 hw];rfl
theorem aDL(n:Nat)(ns:List Int){k:Nat}(hk:k<=400000){bs:List (Str×Int)}(hm:1<=bs.length)(q0:bs.length<=4){m:Int}(I:0<m){d:Nat}(hd:d<=2) :
 ∃(w:Way) (L:Nat),kJ bs.length w/\(0<=w.nx/\w.nx<m)/\L<=k+200/\call pg (n+8) 18 [.err ⟨#[]⟩ (aL ns k),.lst (aD bs),.int m,.int d]=.ok (.tup [w.d,.err ⟨#[]⟩ (aL ns L)],false,false):=by
 obtain⟨g,k1,g1,g2,g3,g4⟩:=nC ns hm d (n+2-d) k hd (by omega);rw[show n+2-d+d+5=n+7 by omega] at g4;have q4:2 ^ d<=4:=Ey (by decide) hd;have e1:ex pg (call pg (n+7)) [.lent (aL ns k),.sh true (.lst (aD bs)),.sh true (.int m),.sh true (.int d),.dead,.dead,.dead] (.setL 4 0 [] (.call 17 (.cons (.e (.v 1)) (.cons (.e (.v 3)) .nil))))=.next [.lent (aL ns k1),.sh true (.lst (aD bs)),.sh true (.int m),.sh true (.int d),.sh false g.d,.dead,.dead]:=by rw[fI,bM,tV (vs:=[⟨.lst (aD bs),false,true,[]⟩,.cl (.int d)]) rfl rfl g4,cB,aI];show O.next (HW _ 4 (Vl.cl g.d).slot)=_;rw[dP];rfl
 have q1:walk pg (call pg (n+7)) (wf ns k1 bs m d g [] .dead) (.rng (.c (.int 0)) (.bi .len (.cons (.v 1) .nil)))=.ok ((Bt bs.length).map λ(j:Nat)=>Vl.cl (.int (j:Int)),[]):=by have hs:=lB (n:=bs.length) (by omega);have hb:(aD bs).length=bs.length:=lM _;simp only[tU,aP,oQ,aE,bV,dW,bJ,gS,gZ,gQ,aB,fH,hb,dI,yA,hs,Di,aBL,qV]
 obtain⟨Z',ef,ps,k2,s6,M,U,h3,h4,q⟩:=qX (P:=pg) (cl:=call pg (n+7)) (Z:=wf ns k1 bs m d g [] .dead) (t:=.n 6) (b:=aJx) (λi Z=>∃(ps:List (Nat×Sm)) (k2:Nat) (s:Sl),(∀p∈ps,tZ bs.length p/\p.1<i)/\Up ps/\ps.length<=i/\k2<=k1+11*i/\Z=wf ns k2 bs m d g ps s) q1
  ⟨[],k1,.dead,λp h=>absurd h Cj,Fq,An _,An _,rfl⟩ λi hi Z ⟨ps,k2,s,M,U,h3,h4,q⟩=>by
   have W:i<bs.length:=by simpa using hi
   obtain⟨q2,L,b1,b2,b3,b4,b5⟩:=aCb (n+3) (ns:=ns) (k:=k2) (by omega) hm q0 (m:=m) (dp:=d) (g:=g) W M U h3;refine⟨wf ns k2 bs m d g ps (.sh false (.int i)),_,?_,b5,q2,L,_,b1,b2,b3,by omega,rfl⟩;rw[q,eD];simp[wf]
 subst q;have q3:(HY (λ(j:Nat)=>Vl.cl (.int (j:Int))) (Bt bs.length)).length=bs.length:=by simp
 have x1:=eQ (n+5) (ns:=ns) (k:=k2) (by omega) I (c:=aL ns k2) (r:=[.sh true (.lst (aD bs)),.sh true (.int m),.sh true (.int d),.sh false g.d,.own false (ps.map hG),s6]) (a:=.e (.v 2)) (cM rfl);refine⟨⟨g,ps,nxt ns k2 m⟩,k2+1,⟨g1,by show g.sz<=40;omega,λp h=>(M p h).1,U⟩,cP ns k2 I,by omega,?_⟩;refine dD (F:=f18) (b:=_) rfl rfl rfl (v:=.cl (.tup [Way.d ⟨g,ps,nxt ns k2 m⟩,.err ⟨#[]⟩ (aL ns (k2+1))])) ?_;show exs pg (call pg (n+7)) [.lent (aL ns k),.sh true (.lst (aD bs)),.sh true (.int m),.sh true (.int d),.dead,.dead,.dead] _=_;refine(stp e1).trans ((stp (Z':=wf ns k1 bs m d g [] .dead) rfl).trans ((stp ef).trans (gY (kI (lE (cM ?_) (cM ?_) x1)))));exact bD 4 g.d;rw[oQ,aE,dW];show(Sl.val 5 (.own false (ps.map hG)) >>= λx=>evs _ _ _ .nil >>= λxs=>R.ok (x::xs)) >>= _=_;rw[aDD,aB,bV,aB,aB,aDK 5 (oY ps)]
theorem aDM{P:Pg}{cl:Caller}{Z Z1:Sg}{t:T}{e:EL}{b:Ss}{N:Nat}(I:Nat->Sg->Prop)(he:evl P cl 0 Z e=.ok (.cl (.int (N:Int)),Z1))(hN:N<=1000000)(M:I 0 Z1)
 (hs:∀(i:Nat) (_:i<N) (Z:Sg),I i Z->∃Z1 Z',aY Z (.cl (.int (i:Int))) t=.ok Z1/\exs P cl Z1 b=.next Z'/\I (i+1) Z'):∃Z',ex P cl Z (.forL t e b)=.next Z'/\I N Z':=by
 show ∃Z',O.from Z (evl P cl 0 Z e).calm _=.next Z'/\_;rw[he,cB,aI];show ∃Z',(if aR (N:Int) then bB (λZ x=>O.from Z (aY Z x t) λZ'=>exs P cl Z' b) ((bQ 0 (N:Int)).map .cl) Z1 else .bad)=.next Z'/\_;rw[if_pos (lB hN),qV];obtain⟨Z',U,W⟩:=iT (f:=λZ x=>O.from Z (aY Z x t) λZ'=>exs P cl Z' b) ((Bt N).map λ(k:Nat)=>Vl.cl (.int (k:Int))) I Z1 M λi h Z hI=>by
  have hi:i<N:=by simpa using h
  obtain⟨Z2,Z',q,L,h'⟩:=hs i hi Z hI;refine⟨Z',?_,h'⟩;have:((Bt N).map λ(k:Nat)=>Vl.cl (.int (k:Int)))[i]=.cl (.int (i:Int)):=by simp
  rw[this];show O.from Z (aY Z _ t) _=_;rw[q];exact L
 refine⟨Z',U,?_⟩;simpa using W
theorem mul_str{a:Str}{k:Int}(L:0<=k)(M:k<=100)(q:a.length<=100):opD .Mult (.cl (.str a)) (.cl (.int k))=.ok (.cl (.str (Str.rep a k.toNat))):=by
 show R.iff (aR k&&decide (a.length*k.toNat<=lim)) _=_;have hs:aR k=true:=by unfold aR;rw[Ay (by omega),Ay (by omega)];rfl
 have I:a.length*k.toNat<=lim:=by have:a.length*k.toNat<=100*100:=Nat.mul_le_mul q (by omega);unfold lim;omega
 rw[hs,Ay I];rfl
structure Bo (i:Nat) (bs:List (Str×Int)) (room:Int):Prop where
 few:bs.length<=i
 r1:1<=room
 r24:room<=24
 first:bs=[]->room=24/\i=0
theorem Bo.next{i:Nat}{bs:List (Str×Int)}{room:Int}(B:Bo i bs room)(h:1<room){t:Int}(q:1<=t)(I:t<=room-1)(x:Str):Bo (i+1) (bs++[(x,t)]) (room / (1+t)):=by refine⟨by rw[lA,AX];have:=B.few;omega,(Int.le_ediv_iff_mul_le (by omega)).mpr (by omega),?_,λz=>?_⟩;have:=Int.ediv_le_self (1+t) (show 0<=room by omega);have:=B.r24;omega;have:=congrArg CQ z;simp at this
abbrev bf(ns:List Int)(k:Nat)(bs:List (Str×Int))(room:Int)(s4 s5 s6:Sl):Sg:=[.lent (aL ns k),.sh true (.int 24),.own false (aD bs),.sh false (.int room),s4,s5,s6]
abbrev aDN:Ss:=match hdS (drp 3 f15.body) with|.forL _ _ b=>b|_=>.nil
theorem aGV{i:Nat}(h:i<4):∃x:Str,x.length<=1/\bW (.cl (.str "kxmbz")) (.cl (.int (i:Int)))=.ok (.cl (.str x)):=by
 have:i=0\/i=1\/i=2\/i=3:=by omega
 rcases this with rfl|rfl|rfl|rfl;exact⟨⟨#[107]⟩,by decide,rfl⟩;exact⟨⟨#[120]⟩,by decide,rfl⟩;exact⟨⟨#[109]⟩,by decide,rfl⟩;exact⟨⟨#[98]⟩,by decide,rfl⟩
theorem aCc(n:Nat){ns:List Int}{k:Nat}(hk:k<=100000){bs:List (Str×Int)}{room:Int}{i:Nat}(hi:i<4)(B:Bo i bs room)(s5 s6:Sl) :
 ∃(L:List (Str×Int)) (I:Int) (k':Nat) (t5 t6:Sl),Bo (i+1) L I/\k'<=k+3/\exs pg (call pg (n+2)) (bf ns k bs room (.sh false (.int i)) s5 s6) aDN=.next (bf ns k' L I (.sh false (.int i)) t5 t6):=by
 have x1:=eQ n (ns:=ns) (k:=k) (by omega) (m:=3) (by decide) (c:=aL ns k) (r:=[.sh true (.int 24),.own false (aD bs),.sh false (.int room),.sh false (.int i),s5,s6]) (a:=.e (.c (.int 3))) (cM rfl);have rg:=cP ns k (m:=3) (by decide);obtain⟨q,hq,q0,q1⟩:∃q:Int,bW (⟨.lst [.int 2,.int 3,.int 7],false,false,[]⟩:Vl) (.cl (.int (nxt ns k 3)))=.ok (.cl (.int q))/\0<q/\q<=7:=by
  generalize nxt ns k 3=w at rg;have:w=0\/w=1\/w=2:=by omega
  rcases this with rfl|rfl|rfl;exact⟨2,rfl,by decide,by decide⟩;exact⟨3,rfl,by decide,by decide⟩;exact⟨7,rfl,by decide,by decide⟩
 have xi:evl pg (call pg (n+2)) 0 (bf ns k bs room (.sh false (.int i)) s5 s6) (.idx (.e (.lst (.cons (.c (.int 2)) (.cons (.c (.int 3)) (.cons (.c (.int 7)) .nil))))) (.call 14 (.cons (.e (.c (.int 3))) .nil)))=.ok (.cl (.int q),bf ns (k+1) bs room (.sh false (.int i)) s5 s6):=by rw[yE];show(evl pg (call pg (n+2)) 0 (bf ns k bs room (.sh false (.int i)) s5 s6) (.call 14 (.cons (.e (.c (.int 3))) .nil)) >>= λy=>bW (⟨.lst [.int 2,.int 3,.int 7],false,false,[]⟩:Vl) y.1.nr >>= λz=>noAl z y.2)=_;rw[x1];show(bW (⟨.lst [.int 2,.int 3,.int 7],false,false,[]⟩:Vl) (.cl (.int (nxt ns k 3))) >>= λz=>noAl z _)=_;rw[hq];rfl
 have x2:=eQ n (ns:=ns) (k:=k+1) (by omega) q0 (c:=aL ns k) (r:=[.sh true (.int 24),.own false (aD bs),.sh false (.int room),.sh false (.int i),s5,s6]) xi;have q3:=cP ns (k+1) q0;generalize nxt ns (k+1) q=v at x2 q3;obtain⟨x,hx,W⟩:=aGV hi;have e1:ex pg (call pg (n+2)) (bf ns k bs room (.sh false (.int i)) s5 s6) (hdS aDN)=.next (bf ns (k+2) bs room (.sh false (.int i)) (.sh false (.int (1+v))) s6):=by show O.from _ (evl pg (call pg (n+2)) 0 (bf ns k bs room (.sh false (.int i)) s5 s6) (.op .Add (.e (.c (.int 1))) _)).calm _=_;rw[oW (cM rfl) x2 (add_int 1 v),cB,aI];rfl
 have e2:ex pg (call pg (n+2)) (bf ns (k+2) bs room (.sh false (.int i)) (.sh false (.int (1+v))) s6) (hdS (drp 1 aDN))=.next (bf ns (k+2) bs room (.sh false (.int i)) (.sh false (.int (1+v))) (.sh false (.str x))):=by show O.from _ (bW (.cl (.str "kxmbz")) (.cl (.int (i:Int)))) _=_;rw[W,aI];rfl
 have t3:tst pg (call pg (n+2)) (bf ns (k+2) bs room (.sh false (.int i)) (.sh false (.int (1+v))) (.sh false (.str x))) (.cmp .Gt (.v 3) (.c (.int 1)))=.ok (decide (1<room)):=rfl;by_cases hr:1<room;have x3:=eQ n (ns:=ns) (k:=k+2) (by omega) (m:=8) (by decide) (c:=aL ns (k+2)) (r:=[.sh true (.int 24),.own false (aD bs),.sh false (.int room),.sh false (.int i),.sh false (.int (1+v)),.sh false (.str x)]) (a:=.e (.c (.int 8))) (cM rfl);have q4:=cP ns (k+2) (m:=8) (by decide);generalize nxt ns (k+2) 8=u at x3 q4;have M:∀k bs,ev pg (call pg (n+2)) (bf ns k bs room (.sh false (.int i)) (.sh false (.int (1+v))) (.sh false (.str x))) (.bi .min (.cons (.v 5) (.cons (.op .Sub (.v 3) (.c (.int 1))) .nil)))=.ok (.cl (.int (if room-1<1+v then room-1 else 1+v))):=λ_ _=>rfl;have U:1<=(if room-1<1+v then room-1 else 1+v)/\(if room-1<1+v then room-1 else 1+v)<=room-1/\(if room-1<1+v then room-1 else 1+v)<=7:=by split <;> omega
 revert U M;generalize (if room-1<1+v then room-1 else 1+v)=w;intro M U;have B':=B.next hr U.1 U.2.1 (Str.rep x (1+u).toNat);refine⟨bs++[(Str.rep x (1+u).toNat,w)],room / (1+w),k+3,.sh false (.int (1+v)),.sh false (.str x),B',by omega,?_⟩;refine(stp e1).trans ((stp e2).trans (stp ?_));rw[bL,t3,Ay hr,aI];have et:=iW (oW (cM (P:=pg) (cl:=call pg (n+2)) (l:=0) (Z:=bf ns (k+2) bs room (.sh false (.int i)) (.sh false (.int (1+v))) (.sh false (.str x))) (a:=.v 6) (d:=.str x) rfl) (oW (cM (a:=.c (.int 1)) rfl) x3 (add_int 1 u)) (mul_str (by omega) (by omega) (by omega))) (cM (M (k+3) bs));have q2:(aD bs++[box (Str.rep x (1+u).toNat,w)]).length<=lim:=by rw[lA,AX,aD,lM];have:=B.few;unfold lim;omega
 have e3:ex pg (call pg (n+2)) (bf ns (k+2) bs room (.sh false (.int i)) (.sh false (.int (1+v))) (.sh false (.str x))) (.appL 2 0 (.tup (.cons (.op .Mult (.e (.v 6)) (.op .Add (.e (.c (.int 1))) (.call 14 (.cons (.e (.c (.int 8))) .nil)))) (.cons (.e (.bi .min (.cons (.v 5) (.cons (.op .Sub (.v 3) (.c (.int 1))) .nil)))) .nil))))=.next (bf ns (k+3) (bs++[(Str.rep x (1+u).toNat,w)]) room (.sh false (.int i)) (.sh false (.int (1+v))) (.sh false (.str x))):=by rw[yG];show O.from _ (evl pg (call pg (n+2)) 0 (bf ns (k+2) bs room (.sh false (.int i)) (.sh false (.int (1+v))) (.sh false (.str x))) _).calm _=_;rw[et,cB,aI];show(if (aD bs++[box (Str.rep x (1+u).toNat,w)]).length<=lim then O.next ((bf ns (k+3) bs room (.sh false (.int i)) (.sh false (.int (1+v))) (.sh false (.str x))).set 2 _) else O.bad)=_;rw[if_pos q2];simp[bf,aD];exact⟨rfl,rfl⟩
 have dv:opD .FloorDiv (.cl (.int room)) (.cl (.int (1+w)))=.ok (.cl (.int (room / (1+w)))):=cL (by
  unfold rV;rw[Ay (by omega),Ay (by omega)];rfl)
 refine(stp e3).trans (stp ?_);show O.from _ (ev pg (call pg (n+2)) (bf ns (k+3) (bs++[(Str.rep x (1+u).toNat,w)]) room (.sh false (.int i)) (.sh false (.int (1+v))) (.sh false (.str x))) (.op .FloorDiv (.v 3) (.op .Add (.c (.int 1)) _))) _=_;rw[dX,dX,M];show O.from _ (opD .FloorDiv (.cl (.int room)) (.cl (.int (1+w)))) _=_;rw[dv,aI];rfl;refine⟨bs,room,k+2,.sh false (.int (1+v)),.sh false (.str x),⟨by have:=B.few;omega,B.r1,B.r24,λz=>?_⟩,by omega,(stp e1).trans ((stp e2).trans (stp (Z':=bf ns (k+2) bs room (.sh false (.int i)) (.sh false (.int (1+v))) (.sh false (.str x))) ?_))⟩;have:=(B.first z).1;omega;rw[bL,t3,A4 hr,aI];rfl
theorem aAm(n:Nat)(ns:List Int):∃(bs:List (Str×Int)) (k:Nat),1<=bs.length/\bs.length<=4/\k<=100/\call pg (n+3) 15 [.err ⟨#[]⟩ (aL ns 0),.int 24]=.ok (.tup [.lst (aD bs),.err ⟨#[]⟩ (aL ns k)],true,false):=by
 have W:=eQ n (ns:=ns) (k:=0) (by omega) (m:=4) (by decide) (c:=aL ns 0) (r:=[.sh true (.int 24),.own false [],.sh false (.int 24),.dead,.dead,.dead]) (a:=.e (.c (.int 4))) (cM rfl);have rg:=cP ns 0 (m:=4) (by decide);generalize nxt ns 0 4=w at W rg;have M:=oW (cM (P:=pg) (cl:=call pg (n+2)) (l:=0) (Z:=bf ns 0 [] 24 .dead .dead .dead) (a:=.c (.int 1)) (d:=.int 1) rfl) W (add_int 1 w);have hN:(1+w:Int)=(((1+w).toNat:Nat):Int):=by omega
 rw[hN] at M;have L:1<=(1+w).toNat/\(1+w).toNat<=4:=by omega
 revert L M;generalize (1+w).toNat=N;intro M L;obtain⟨Z',ef,bs,room,k,s4,s5,s6,B,hk,q⟩:=aDM (t:=.n 4) (b:=aDN) (λi Z=>∃(bs:List (Str×Int)) (room:Int) (k:Nat) (s4 s5 s6:Sl),Bo i bs room/\k<=1+3*i/\Z=bf ns k bs room s4 s5 s6) M (by omega)
  ⟨[],24,1,_,_,_,⟨An _,by decide,by decide,λ_=>⟨rfl,rfl⟩⟩,An _,rfl⟩ λi hi Z ⟨bs,room,k,s4,s5,s6,B,hk,q⟩=>by obtain⟨U,I,k',t5,t6,B',q0,eb⟩:=aCc n (ns:=ns) (k:=k) (by omega) (show i<4 by omega) B s5 s6;refine⟨bf ns k bs room (.sh false (.int i)) s5 s6,_,?_,eb,U,I,k',_,t5,t6,B',by omega,rfl⟩;rw[q,eD];simp[bf]
 subst q;have hl:1<=bs.length:=by
  cases bs with
  | nil=>have:=(B.first rfl).2;omega|cons _ _=>simp
 refine⟨bs,k,hl,by have:=B.few;omega,by omega,?_⟩;refine dD (F:=f15) (b:=_) rfl rfl rfl (v:=⟨.tup [.lst (aD bs),.err ⟨#[]⟩ (aL ns k)],true,false,[]⟩) ?_;show exs pg (call pg (n+2)) [.lent (aL ns 0),.sh true (.int 24),.dead,.dead,.dead,.dead,.dead] _=_;refine(stp (Z':=[.lent (aL ns 0),.sh true (.int 24),.own false [],.dead,.dead,.dead,.dead]) rfl).trans ((stp (Z':=bf ns 0 [] 24 .dead .dead .dead) rfl).trans ((stp ef).trans (gY rfl)))
theorem aLo:(("cond" : Str) == "sum")=false:=by decide +kernel
theorem aLp:(("cond" : Str) == "cond")=true:=by decide +kernel
abbrev noC:D:=.err "NoCond" []
abbrev aGW:D:=.err "TooMany" []
inductive Rs where
 | ok (m:Nat)|none|many
noncomputable def Rs.r:Rs->R Rt
 | .ok m=>.ok (.int m,false,false)|.none=>.exc noC|.many=>.exc aGW
noncomputable def Rs.o(m:Nat)(F:Int->Sg):Rs->O
 | .ok m'=>.next (F m')|.none=>.exc noC (F m)|.many=>.exc aGW (F m)
theorem Rs.run{bs:List D}{pl:Bool}{k:Str}{d:D}{M s m:Nat}{F:Int->Sg}{r:Rs}(q:∀i,exs pg (call pg M) (F i) (.cons (.retv 4) .nil)=.ret (.cl (.int i)))
 (h:exs pg (call pg M) [.sh true (.lst bs),.sh true (.str k),.sh true d,.sh true (.bl pl),.sh true (.int (s:Int)),.dead,.dead,.dead] f4.body=(r.o m F).on λZ=>exs pg (call pg M) Z (.cons (.retv 4) .nil)) :
 call pg (M+1) 4 [.lst bs,.str k,d,.bl pl,.int s]=r.r:=by
 cases r with
 | ok I=>exact aX (F:=f4) rfl rfl (v:=.cl (.int (I:Int))) (h.trans (q _))|none=>exact aN (F:=f4) rfl rfl (x:=noC) h|many=>exact aN (F:=f4) rfl rfl (x:=aGW) h
noncomputable def uA(pl:Bool)(k:Str)(d:D):Prop:=∀n,call pg (n+1) 5 [.str k,d,.bl pl]=.exc noC
noncomputable def cC(pl:Bool)(k:Str)(d:D)(fm:List Str):Prop:=∀n,call pg (n+1) 5 [.str k,d,.bl pl]=.ok (.tup (fm.map D.str),false,false)
noncomputable def aEq(bs:List D)(w:Str)(x:D):Prop:=∀n,call pg (n+3) 6 [.lst bs,.str w,x]=.ok (.non,false,false)
noncomputable def aGX(bs:List D)(w:Str)(x:D):Prop:=∀n,call pg (n+3) 6 [.lst bs,.str w,x]=.exc noC
noncomputable def Rec(k:Str):Prop:=k = "sum" \/ k = "cond"
noncomputable def Num(w:Str):Prop:=(w == "sum")=false/\(w == "cond")=false
inductive Lk (bs:List D) (pl:Bool):Str->D->Nat->Rs->Prop
 | many {k d}:Lk bs pl k d 40 .many
 | bad {k d s} (h:s<40) (f:uA pl k d):Lk bs pl k d s .none
 | nul {k w s} (h:s<40) (f:cC pl k (.tup [.str w]) []):Lk bs pl k (.tup [.str w]) s (.ok (s+1))
 | num {k w w1 x s} (h:s<40) (f:cC pl k (.tup [.str w,x]) [w1]) (n:Num w1) (c:aEq bs w1 x):Lk bs pl k (.tup [.str w,x]) s (.ok (s+1))
 | numX {k w w1 x s} (h:s<40) (f:cC pl k (.tup [.str w,x]) [w1]) (n:Num w1) (c:aGX bs w1 x):Lk bs pl k (.tup [.str w,x]) s .none
 | un {k w k1 a s r} (h:s<40) (f:cC pl k (.tup [.str w,a]) [k1]) (n:Rec k1) (l:Lk bs pl k1 a (s+1) r):Lk bs pl k (.tup [.str w,a]) s r
 | twoX {k w k1 a b s r} (h:s<40) (f:cC pl k (.tup [.str w,a,b]) [k1,k1]) (n:Rec k1) (l:Lk bs pl k1 a (s+1) r) (x:∀m,r≠.ok m):Lk bs pl k (.tup [.str w,a,b]) s r
 | two {k w k1 a b s m r} (h:s<40) (f:cC pl k (.tup [.str w,a,b]) [k1,k1]) (n:Rec k1) (l:Lk bs pl k1 a (s+1) (.ok m)) (l2:Lk bs pl k1 b m r):Lk bs pl k (.tup [.str w,a,b]) s r
theorem Lk.le{bs:List D}{pl:Bool}{k:Str}{d:D}{s:Nat}{r:Rs}(h:Lk bs pl k d s r):s<=40/\∀m,r=.ok m->s<m:=by
 induction h with
 | many=>exact⟨An _,λm z=>nomatch z⟩|bad h=>exact⟨by omega,λm z=>nomatch z⟩|nul h=>exact⟨by omega,λm z=>by cases z;omega⟩|num h=>exact⟨by omega,λm z=>by cases z;omega⟩|numX h=>exact⟨by omega,λm z=>nomatch z⟩|un h f n l q=>exact⟨by omega,λm z=>by have:=q.2 m z;omega⟩|twoX h f n l x q=>exact⟨by omega,λm z=>absurd z (x m)⟩|two h f n l l2 q I=>exact⟨by omega,λm z=>by have:=q.2 _ rfl;have:=I.2 m z;omega⟩
theorem nE(i:Nat)(p:Bool)(d:D):Sl.val i (.sh p d)=.ok ⟨d,false,p&&!noL d,[]⟩:=rfl
abbrev lkB:=gD 6 4
theorem aGY{P:Pg}{cl:Caller}{Z:Sg}(a:E)(up:Bool)(k:Nat):ev P cl Z (.sli a up k)=(ev P cl Z a >>= λx=>rW x (if up then none else some (k:Int)) (if up then some (k:Int) else none)):=id rfl
abbrev itL:Hp.It:=.zip (.v 5) (.sli (.v 2) false 1)
theorem gU{m:Nat}{bs:List D}{pl:Bool}{k:Str}{d:D}{L:List Str}{s:Nat}(hs:s<40)(M:call pg m 5 [.str k,d,.bl pl]=.ok (.tup (L.map D.str),false,false)){o:O}
 (q:ex pg (call pg m) [.sh true (.lst bs),.sh true (.str k),.sh true d,.sh true (.bl pl),.sh false (.int ((s+1:Nat):Int)),.sh false (.tup (L.map D.str)),.dead,.dead] (.for (.t [6,7]) itL lkB)=o) :
 exs pg (call pg m) [.sh true (.lst bs),.sh true (.str k),.sh true d,.sh true (.bl pl),.sh true (.int (s:Int)),.dead,.dead,.dead] f4.body=o.on λZ=>exs pg (call pg m) Z (.cons (.retv 4) .nil):=by
 have I:((s:Int)==40)=false:=beq_eq_false_iff_ne.mpr (by omega);have U:((s:Int)+1)=((s+1:Nat):Int):=rfl;have W:=nE 2 true d;show exs pg (call pg m) _ (.cons (.iff (.cmp .Eq (.v 4) (.c (.int 40)))
  (.cons (.rse "TooMany" false (.cons (.c (.str "a condition or sum has at most forty parts")) .nil))
  .nil)
  .nil)
 (.cons (.set (.n 4) (.op .Add (.v 4) (.c (.int 1))))
 (.cons (.set (.n 5) (.call 5 (.cons (.v 1) (.cons (.v 2) (.cons (.v 3) .nil)))))
 (.cons (.for (.t [6,7]) itL lkB)
 (.cons (.retv 4)
 .nil)))))=_
 simp only[aW,fG,bL,cF,dW,aP,bJ,gS,gZ,gP,aB,dI,gC,gR,I,bF,if_false,aI,vQ,fF,dX,add_int,oR,bM,eD,dP,lS,lZ,bZ,aE,bV,yB,W,vR,mC,mN,M,aBR,U,q]
theorem jS{P:Pg}{cl:Caller}{s0 s1 s3 s4 s6 s7:Sl}(w:Str)(as:List D)(I:List Str):∃B,walk P cl [s0,s1,.sh true (.tup (.str w::as)),s3,s4,.sh false (.tup (I.map D.str)),s6,s7] itL=.ok (items ⟨.non,false,B,[]⟩ (jD (I.map D.str) as),[]):=by
 have q:cut (.str w::as) (some 1) none=as:=by unfold cut;simp[sIx]
 have hs:∀v:Vl,v.d=.tup (.str w::as)->v.al=[]->rW v (some 1) none=.ok ⟨.tup as,false,v.pa&&!noLs (.str w::as),[]⟩:=by intro v L M;unfold rW;rw[L];simp only[q,M,ite_self]
 have U:=nE 2 true (.tup (.str w::as));have hs:=hs ⟨.tup (.str w::as),false,true&&!noL (.tup (.str w::as)),[]⟩ rfl rfl;refine⟨false||((true&&!noL (.tup (.str w::as)))&&!noLs (.str w::as)),?_⟩;simp only[aBP,dW,aGY,bJ,gS,gZ,U,bD,aB,dI];show(rW ⟨.tup (.str w::as),false,true&&!noL (.tup (.str w::as)),[]⟩ (some 1) none >>= λy=>_)=_;rw[hs];rfl
theorem gE(v:Vl)(d:D):∃p,(Vl.sub v d).slot=.sh p d:=by
 unfold Vl.sub;cases h:noL d with
 | true=>refine⟨false,?_⟩;rw[if_pos rfl,dP]|false=>refine⟨v.pa,?_⟩;rw[if_neg bN];rfl
theorem dM(v:Vl)(d:D):(Vl.sub v d).d=d:=by unfold Vl.sub;split <;> rfl
theorem oZ{s0 s1 s2 s3 s4 s5 s6 s7:Sl}(B:Bool)(w:Str)(a:D):∃p,aY [s0,s1,s2,s3,s4,s5,s6,s7] (Vl.sub ⟨.non,false,B,[]⟩ (.tup [.str w,a])) (.t [6,7])=.ok [s0,s1,s2,s3,s4,s5,.sh false (.str w),.sh p a]:=by obtain⟨p,q⟩:=gE (Vl.sub ⟨.non,false,B,[]⟩ (.tup [.str w,a])) a;refine⟨p,?_⟩;unfold aY;rw[dM];simp only[lC,lN,if_true,Bh,List.zip_nil_left,BW,List.foldl_nil,iV (show Hp.noL (.str w)=true from rfl),dP,q,lS,lZ]
theorem iX{M:Nat}{bs:List D}{s1 s2 s5:Sl}{pl p:Bool}{m:Nat}{w:Str}(I:Rec w){d:D}{r:Rs}(q:call pg M 4 [.lst bs,.str w,d,.bl pl,.int m]=r.r) :
 exs pg (call pg M) [.sh true (.lst bs),s1,s2,.sh true (.bl pl),.sh false (.int m),s5,.sh false (.str w),.sh p d] lkB =
  r.o m (λi=>[.sh true (.lst bs),s1,s2,.sh true (.bl pl),.sh false (.int i),s5,.sh false (.str w),.sh p d]):=by
 have t:tst pg (call pg M) [.sh true (.lst bs),s1,s2,.sh true (.bl pl),.sh false (.int m),s5,.sh false (.str w),.sh p d] (.orr (.cmp .Eq (.v 6) (.c (.str "sum"))) (.cmp .Eq (.v 6) (.c (.str "cond"))))=.ok true:=by rcases I with rfl|rfl;simp only[gO,cF,dW,aP,bJ,gS,gZ,bD,aB,dI,gC,qY,aLi,if_true];simp only[gO,cF,dW,aP,bJ,gS,gZ,bD,aB,dI,gC,qY,aLo,aLp,bF,if_false]
 have e:evs pg (call pg M) [.sh true (.lst bs),s1,s2,.sh true (.bl pl),.sh false (.int m),s5,.sh false (.str w),.sh p d] (.cons (.v 0) (.cons (.v 6) (.cons (.v 7) (.cons (.v 3) (.cons (.v 4) .nil)))))=.ok [⟨.lst bs,false,true,[]⟩,.cl (.str w),⟨d,false,p&&!noL d,[]⟩,.cl (.bl pl),.cl (.int m)]:=by simp only[aE,bV,dW,bJ,gS,gZ,gQ,bD,vR,nE,aB];rfl
 show exs pg (call pg M) _ (gD 6 4)=_;unfold gD;rw[aW,bL,t,aI,if_pos rfl,aW,fF,bZ,e,aB];show(O.on (O.on (O.from _ (call pg M 4 [.lst bs,.str w,d,.bl pl,.int m] >>= _) _) _) _)=_;rw[q];cases r <;> rfl
theorem uB{M:Nat}{bs:List D}{s1 s2 s3 s4 s5:Sl}{p:Bool}{w:Str}(q:Num w){x:D}(b:Bool)(I:call pg M 6 [.lst bs,.str w,x]=bif b then .ok (.non,false,false) else .exc noC) :
 exs pg (call pg M) [.sh true (.lst bs),s1,s2,s3,s4,s5,.sh false (.str w),.sh p x] lkB =
  bif b then .next [.sh true (.lst bs),s1,s2,s3,s4,s5,.sh false (.str w),.sh p x]
  else .exc noC [.sh true (.lst bs),s1,s2,s3,s4,s5,.sh false (.str w),.sh p x]:=by
 have t:tst pg (call pg M) [.sh true (.lst bs),s1,s2,s3,s4,s5,.sh false (.str w),.sh p x] (.orr (.cmp .Eq (.v 6) (.c (.str "sum"))) (.cmp .Eq (.v 6) (.c (.str "cond"))))=.ok false:=by simp only[gO,cF,dW,aP,bJ,gS,gZ,bD,aB,dI,gC,qY,q.1,q.2,bF,if_false]
 have e:evs pg (call pg M) [.sh true (.lst bs),s1,s2,s3,s4,s5,.sh false (.str w),.sh p x] (.cons (.v 0) (.cons (.v 6) (.cons (.v 7) .nil)))=.ok [⟨.lst bs,false,true,[]⟩,.cl (.str w),⟨x,false,p&&!noL x,[]⟩]:=by simp only[aE,bV,dW,bJ,gS,gZ,gQ,bD,nE,aB];rfl
 show exs pg (call pg M) _ (gD 6 4)=_;unfold gD;rw[aW,bL,t,aI,if_neg bN,aW,aJv,bZ,e,aB];show(O.on (O.on (O.from _ (call pg M 6 [.lst bs,.str w,x] >>= _) _) _) _)=_;rw[I];cases b <;> rfl
theorem uC{bs:List D}{pl:Bool}{k:Str}{d:D}{s:Nat}{r:Rs}(h:Lk bs pl k d s r):∀M,44<=M+s->call pg M 4 [.lst bs,.str k,d,.bl pl,.int s]=r.r:=by
 induction h with
 | @many k d=>
  intro M L;obtain⟨M,rfl⟩:∃m,M=m+1:=⟨M-1,by omega⟩
  refine aN (F:=f4) rfl rfl (Z:=[.sh true (.lst bs),.sh true (.str k),.sh true d,.sh true (.bl pl),.sh true (.int 40),.dead,.dead,.dead]) ?_;rfl
 | @bad k d s h f=>
  intro M L;obtain⟨M,rfl⟩:∃m,M=m+2:=⟨M-2,by omega⟩
  have q0:((s:Int)==40)=false:=beq_eq_false_iff_ne.mpr (by omega);refine aN (F:=f4) rfl rfl (Z:=[.sh true (.lst bs),.sh true (.str k),.sh true d,.sh true (.bl pl),.sh false (.int ((s:Int)+1)),.dead,.dead,.dead]) ?_;show exs pg (call pg (M+1)) [.sh true (.lst bs),.sh true (.str k),.sh true d,.sh true (.bl pl),.sh true (.int (s:Int)),.dead,.dead,.dead] f4.body=_;unfold f4;have v2:=nE 2 true d;simp only[aW,fG,bL,cF,dW,aP,bJ,gS,gZ,gP,aB,dI,gC,gR,q0,bF,if_false,aI,vQ,fF,dX,add_int,oR,bM,eD,dP,lS,lZ,bZ,aE,bV,yB,v2,vR,mC,mN,f M,aDG,aDH,aJu]
 | @nul k w s h f=>
  intro M L;obtain⟨M,rfl⟩:∃m,M=m+2:=⟨M-2,by omega⟩
  obtain⟨B,q⟩:=jS (P:=pg) (cl:=call pg (M+1)) (s0:=.sh true (.lst bs)) (s1:=.sh true (.str k)) (s3:=.sh true (.bl pl)) (s4:=.sh false (.int ((s+1:Nat):Int))) (s6:=.dead) (s7:=.dead) w [] [];refine aX (F:=f4) rfl rfl (v:=.cl (.int ((s+1:Nat):Int))) ?_;exact gU (o:=.next [.sh true (.lst bs),.sh true (.str k),.sh true (.tup [.str w]),.sh true (.bl pl),.sh false (.int ((s+1:Nat):Int)),.sh false (.tup []),.dead,.dead]) h (f M) (by rw[iB,q];rfl)
 | @num k w w1 x s h f n c=>
  intro M L;obtain⟨M,rfl⟩:∃m,M=m+4:=⟨M-4,by omega⟩
  obtain⟨B,q⟩:=jS (P:=pg) (cl:=call pg (M+3)) (s0:=.sh true (.lst bs)) (s1:=.sh true (.str k)) (s3:=.sh true (.bl pl)) (s4:=.sh false (.int ((s+1:Nat):Int))) (s6:=.dead) (s7:=.dead) w [x] [w1];obtain⟨p,I⟩:=oZ (s0:=.sh true (.lst bs)) (s1:=.sh true (.str k)) (s2:=.sh true (.tup [.str w,x])) (s3:=.sh true (.bl pl)) (s4:=.sh false (.int ((s+1:Nat):Int))) (s5:=.sh false (.tup ([w1].map D.str))) (s6:=.dead) (s7:=.dead) B w1 x;have t:=uB n true (c M) (s1:=.sh true (.str k)) (s2:=.sh true (.tup [.str w,x])) (s3:=.sh true (.bl pl)) (s4:=.sh false (.int ((s+1:Nat):Int))) (s5:=.sh false (.tup ([w1].map D.str))) (p:=p);refine aX (F:=f4) rfl rfl (v:=.cl (.int ((s+1:Nat):Int))) ?_;refine(gU h (f (M+2)) (o:=.next [.sh true (.lst bs),.sh true (.str k),.sh true (.tup [.str w,x]),.sh true (.bl pl),.sh false (.int ((s+1:Nat):Int)),.sh false (.tup ([w1].map D.str)),.sh false (.str w1),.sh p x]) ?_).trans rfl;rw[iB,q,aI,bM];show bB _ [Vl.sub ⟨.non,false,B,[]⟩ (.tup [.str w1,x])] _=_;rw[bB,I,aI,t];rfl
 | @numX k w w1 x s h f n c=>
  intro M L;obtain⟨M,rfl⟩:∃m,M=m+4:=⟨M-4,by omega⟩
  obtain⟨B,q⟩:=jS (P:=pg) (cl:=call pg (M+3)) (s0:=.sh true (.lst bs)) (s1:=.sh true (.str k)) (s3:=.sh true (.bl pl)) (s4:=.sh false (.int ((s+1:Nat):Int))) (s6:=.dead) (s7:=.dead) w [x] [w1];obtain⟨p,I⟩:=oZ (s0:=.sh true (.lst bs)) (s1:=.sh true (.str k)) (s2:=.sh true (.tup [.str w,x])) (s3:=.sh true (.bl pl)) (s4:=.sh false (.int ((s+1:Nat):Int))) (s5:=.sh false (.tup ([w1].map D.str))) (s6:=.dead) (s7:=.dead) B w1 x;have t:=uB n false (c M) (s1:=.sh true (.str k)) (s2:=.sh true (.tup [.str w,x])) (s3:=.sh true (.bl pl)) (s4:=.sh false (.int ((s+1:Nat):Int))) (s5:=.sh false (.tup ([w1].map D.str))) (p:=p);refine aN (F:=f4) rfl rfl (x:=noC) (Z:=[.sh true (.lst bs),.sh true (.str k),.sh true (.tup [.str w,x]),.sh true (.bl pl),.sh false (.int ((s+1:Nat):Int)),.sh false (.tup ([w1].map D.str)),.sh false (.str w1),.sh p x]) ?_;refine(gU h (f (M+2)) (o:=.exc noC [.sh true (.lst bs),.sh true (.str k),.sh true (.tup [.str w,x]),.sh true (.bl pl),.sh false (.int ((s+1:Nat):Int)),.sh false (.tup ([w1].map D.str)),.sh false (.str w1),.sh p x]) ?_).trans rfl;rw[iB,q,aI,bM];show bB _ [Vl.sub ⟨.non,false,B,[]⟩ (.tup [.str w1,x])] _=_;rw[bB,I,aI,t];rfl
 | @un k w k1 a s r h f n l ih=>
  intro M L;obtain⟨M,rfl⟩:∃m,M=m+2:=⟨M-2,by omega⟩
  obtain⟨B,q⟩:=jS (P:=pg) (cl:=call pg (M+1)) (s0:=.sh true (.lst bs)) (s1:=.sh true (.str k)) (s3:=.sh true (.bl pl)) (s4:=.sh false (.int ((s+1:Nat):Int))) (s6:=.dead) (s7:=.dead) w [a] [k1];obtain⟨p,I⟩:=oZ (s0:=.sh true (.lst bs)) (s1:=.sh true (.str k)) (s2:=.sh true (.tup [.str w,a])) (s3:=.sh true (.bl pl)) (s4:=.sh false (.int ((s+1:Nat):Int))) (s5:=.sh false (.tup ([k1].map D.str))) (s6:=.dead) (s7:=.dead) B k1 a;have t:=iX n (ih (M+1) (by omega)) (s1:=.sh true (.str k)) (s2:=.sh true (.tup [.str w,a])) (s5:=.sh false (.tup ([k1].map D.str))) (p:=p);have g:∀o,bB (λZ x=>O.from Z (aY Z x (.t [6,7])) λZ'=>exs pg (call pg (M+1)) Z' lkB) [Vl.sub ⟨.non,false,B,[]⟩ (.tup [.str k1,a])] [.sh true (.lst bs),.sh true (.str k),.sh true (.tup [.str w,a]),.sh true (.bl pl),.sh false (.int ((s+1:Nat):Int)),.sh false (.tup ([k1].map D.str)),.dead,.dead]=o ->
   ex pg (call pg (M+1)) [.sh true (.lst bs),.sh true (.str k),.sh true (.tup [.str w,a]),.sh true (.bl pl),.sh false (.int ((s+1:Nat):Int)),.sh false (.tup ([k1].map D.str)),.dead,.dead] (.for (.t [6,7]) itL lkB)=o:=by intro o U;rw[iB,q,aI,bM];exact U
  refine Rs.run (m:=s+1) (F:=λi=>[.sh true (.lst bs),.sh true (.str k),.sh true (.tup [.str w,a]),.sh true (.bl pl),.sh false (.int i),.sh false (.tup ([k1].map D.str)),.sh false (.str k1),.sh p a]) (λ_=>rfl) (gU h (f M) (g _ ?_));rw[bB,I,aI,t];cases r <;> rfl
 | @twoX k w k1 a b s r h f n l x ih=>
  intro M L;obtain⟨M,rfl⟩:∃m,M=m+2:=⟨M-2,by omega⟩
  obtain⟨B,q⟩:=jS (P:=pg) (cl:=call pg (M+1)) (s0:=.sh true (.lst bs)) (s1:=.sh true (.str k)) (s3:=.sh true (.bl pl)) (s4:=.sh false (.int ((s+1:Nat):Int))) (s6:=.dead) (s7:=.dead) w [a,b] [k1,k1];obtain⟨p,I⟩:=oZ (s0:=.sh true (.lst bs)) (s1:=.sh true (.str k)) (s2:=.sh true (.tup [.str w,a,b])) (s3:=.sh true (.bl pl)) (s4:=.sh false (.int ((s+1:Nat):Int))) (s5:=.sh false (.tup ([k1,k1].map D.str))) (s6:=.dead) (s7:=.dead) B k1 a;have t:=iX n (ih (M+1) (by omega)) (s1:=.sh true (.str k)) (s2:=.sh true (.tup [.str w,a,b])) (s5:=.sh false (.tup ([k1,k1].map D.str))) (p:=p);have g:∀o,bB (λZ x=>O.from Z (aY Z x (.t [6,7])) λZ'=>exs pg (call pg (M+1)) Z' lkB) [Vl.sub ⟨.non,false,B,[]⟩ (.tup [.str k1,a]),Vl.sub ⟨.non,false,B,[]⟩ (.tup [.str k1,b])] [.sh true (.lst bs),.sh true (.str k),.sh true (.tup [.str w,a,b]),.sh true (.bl pl),.sh false (.int ((s+1:Nat):Int)),.sh false (.tup ([k1,k1].map D.str)),.dead,.dead]=o ->
   ex pg (call pg (M+1)) [.sh true (.lst bs),.sh true (.str k),.sh true (.tup [.str w,a,b]),.sh true (.bl pl),.sh false (.int ((s+1:Nat):Int)),.sh false (.tup ([k1,k1].map D.str)),.dead,.dead] (.for (.t [6,7]) itL lkB)=o:=by intro o U;rw[iB,q,aI,bM];exact U
  refine Rs.run (m:=s+1) (F:=λi=>[.sh true (.lst bs),.sh true (.str k),.sh true (.tup [.str w,a,b]),.sh true (.bl pl),.sh false (.int i),.sh false (.tup ([k1,k1].map D.str)),.sh false (.str k1),.sh p a]) (λ_=>rfl) (gU h (f M) (g _ ?_));rw[bB,I,aI,t];cases r with
  | ok m=>exact absurd rfl (x m)|none=>rfl|many=>rfl
 | @two k w k1 a b s m r h f n l l2 ih ih2=>
  intro M L;obtain⟨M,rfl⟩:∃m,M=m+2:=⟨M-2,by omega⟩
  have q1:=l.le.2 m rfl;obtain⟨B,q⟩:=jS (P:=pg) (cl:=call pg (M+1)) (s0:=.sh true (.lst bs)) (s1:=.sh true (.str k)) (s3:=.sh true (.bl pl)) (s4:=.sh false (.int ((s+1:Nat):Int))) (s6:=.dead) (s7:=.dead) w [a,b] [k1,k1];obtain⟨p,I⟩:=oZ (s0:=.sh true (.lst bs)) (s1:=.sh true (.str k)) (s2:=.sh true (.tup [.str w,a,b])) (s3:=.sh true (.bl pl)) (s4:=.sh false (.int ((s+1:Nat):Int))) (s5:=.sh false (.tup ([k1,k1].map D.str))) (s6:=.dead) (s7:=.dead) B k1 a;have t:=iX n (ih (M+1) (by omega)) (s1:=.sh true (.str k)) (s2:=.sh true (.tup [.str w,a,b])) (s5:=.sh false (.tup ([k1,k1].map D.str))) (p:=p);obtain⟨p2,W⟩:=oZ (s0:=.sh true (.lst bs)) (s1:=.sh true (.str k)) (s2:=.sh true (.tup [.str w,a,b])) (s3:=.sh true (.bl pl)) (s4:=.sh false (.int (m:Int))) (s5:=.sh false (.tup ([k1,k1].map D.str))) (s6:=.sh false (.str k1)) (s7:=.sh p a) B k1 b;have t2:=iX n (ih2 (M+1) (by omega)) (s1:=.sh true (.str k)) (s2:=.sh true (.tup [.str w,a,b])) (s5:=.sh false (.tup ([k1,k1].map D.str))) (p:=p2);have g:∀o,bB (λZ x=>O.from Z (aY Z x (.t [6,7])) λZ'=>exs pg (call pg (M+1)) Z' lkB) [Vl.sub ⟨.non,false,B,[]⟩ (.tup [.str k1,a]),Vl.sub ⟨.non,false,B,[]⟩ (.tup [.str k1,b])] [.sh true (.lst bs),.sh true (.str k),.sh true (.tup [.str w,a,b]),.sh true (.bl pl),.sh false (.int ((s+1:Nat):Int)),.sh false (.tup ([k1,k1].map D.str)),.dead,.dead]=o ->
   ex pg (call pg (M+1)) [.sh true (.lst bs),.sh true (.str k),.sh true (.tup [.str w,a,b]),.sh true (.bl pl),.sh false (.int ((s+1:Nat):Int)),.sh false (.tup ([k1,k1].map D.str)),.dead,.dead] (.for (.t [6,7]) itL lkB)=o:=by intro o U;rw[iB,q,aI,bM];exact U
  refine Rs.run (m:=m) (F:=λi=>[.sh true (.lst bs),.sh true (.str k),.sh true (.tup [.str w,a,b]),.sh true (.bl pl),.sh false (.int i),.sh false (.tup ([k1,k1].map D.str)),.sh false (.str k1),.sh p2 b]) (λ_=>rfl) (gU h (f M) (g _ ?_));rw[bB,I,aI,t];show bB _ _ _=_;rw[bB,W,aI,t2];cases r <;> rfl
section
variable {bs:List D} {pl:Bool} {c:Nat}
theorem vS(i:Bool)(a b:D):cC pl "cond" (.tup [.str (aBW i),a,b]) ["sum", "sum"]:=λn=>by cases pl <;> cases i <;> rfl
theorem rD(p:Bool)(a b:D):cC pl "cond" (.tup [.str (tX p),a,b]) ["cond", "cond"]:=λn=>by cases pl <;> cases p <;> rfl
theorem uD(p:Bool)(a b:D):cC pl "sum" (.tup [.str (aBU p),a,b]) ["sum", "sum"]:=λn=>by cases pl <;> cases p <;> rfl
theorem yL(a:D):cC pl "cond" (.tup [.str "not",a]) ["cond"]:=λn=>by cases pl <;> rfl
theorem yM(a:D):cC pl "sum" (.tup [.str "number",a]) ["number"]:=λn=>by cases pl <;> rfl
theorem yN(a:D):cC pl "sum" (.tup [.str "box",a]) ["box"]:=λn=>by cases pl <;> rfl
theorem aJy(a:D):cC false "sum" (.tup [.str "after",a]) ["box"]:=λn=>rfl
theorem aEr:cC pl "cond" (.tup [.str "yes"]) []:=λn=>by cases pl <;> rfl
theorem aDO:Num "number" := ⟨aLj,aLk⟩
theorem aCd:Num "box" := ⟨aLl,aLm⟩
theorem rS:Rec "sum" := .inl rfl
theorem rC:Rec "cond" := .inr rfl
theorem vT{w:Str}{i:Int}(q:0<=i)(I:i<=(if w == "number" then 99 else (bs.length:Int)-1)):aEq bs w (.int i):=λn=>aBV (P:=pg) (wh:=0) (wi:=1) rfl rfl rfl n q I
theorem aAn(n:Nat)(i b:Int)(h:i<0\/b<i):call pg (n+2) 1 [.int i,.int 0,.int b]=.ok (.bl false,false,false):=by
 refine aX (F:=dE 0) rfl rfl (v:=.cl (.bl false)) ?_;have I:=mY (P:=pg) (wh:=0) rfl n i;by_cases q:0<=i;have L:¬ i<=b:=by omega
 simp[dE,bJ,I,q,L];simp[dE,bJ,I,q]
theorem yO{w:Str}{i:Int}(h:i<0\/(if w == "number" then 99 else (bs.length:Int)-1)<i):aGX bs w (.int i):=λn=>by
 have I:=aAn n i _ h;cases q:w == "number" with
 | true=>rw[q,if_pos rfl] at I;refine aN (F:=fJ 1) rfl rfl (Z:=[.sh true (.lst bs),.sh true (.str w),.sh true (.int i),.sh false (.int 99)]) ?_;simp[fJ,bJ,q,I]|false=>rw[q,if_neg bN] at I;refine aN (F:=fJ 1) rfl rfl (Z:=[.sh true (.lst bs),.sh true (.str w),.sh true (.int i),.sh false (.int ((bs.length:Int)-1))]) ?_;simp[fJ,bJ,q,I]
theorem aEs:(("number" : Str) == "number")=true:=by decide +kernel
theorem aCe:(("box" : Str) == "number")=false:=by decide +kernel
theorem lkS(q:bs.length=c):∀(s:Sm) (n m:Nat),s.wf c pl->m=n+s.sz->m<=40->Lk bs pl "sum" s.d n (.ok m)
 | .num k,n,m,w,e,h=>by have e:m=n+1:=e;subst e;exact .num (by omega) (yM _) aDO (vT w.1 (by rw[aEs];exact w.2))|.box k,n,m,w,e,h=>by have e:m=n+1:=e;subst e;exact .num (by omega) (yN _) aCd (vT (CP _) (by have w:k<c:=w;rw[aCe,if_neg bN];omega))|.aft k,n,m,w,e,h=>by have e:m=n+1:=e;subst e;obtain⟨w1,rfl⟩:k<c/\pl=false:=w;exact .num (by omega) (aJy _) aCd (vT (CP _) (by rw[aCe,if_neg bN];omega))|.two p a b,n,m,w,e,h=>by have e:m=n+(1+a.sz+b.sz):=e;exact .two (by omega) (uD p _ _) rS (lkS q a (n+1) (n+1+a.sz) w.1 rfl (by omega)) (lkS q b _ m w.2 (by omega) h)
theorem lkC(q:bs.length=c):∀(s:Cn) (n m:Nat),s.wf c pl->m=n+s.sz->m<=40->Lk bs pl "cond" s.d n (.ok m)
 | .yes,n,m,w,e,h=>by have e:m=n+1:=e;subst e;exact .nul (by omega) aEr|.cmp p a b,n,m,w,e,h=>by have e:m=n+(1+a.sz+b.sz):=e;exact .two (by omega) (vS p _ _) rS (lkS q a (n+1) (n+1+a.sz) w.1 rfl (by omega)) (lkS q b _ m w.2 (by omega) h)|.nt x,n,m,w,e,h=>by have e:m=n+(1+x.sz):=e;exact .un (by omega) (yL _) rC (lkC q x (n+1) m w (by omega) h)|.two p a b,n,m,w,e,h=>by have e:m=n+(1+a.sz+b.sz):=e;exact .two (by omega) (rD p _ _) rC (lkC q a (n+1) (n+1+a.sz) w.1 rfl (by omega)) (lkC q b _ m w.2 (by omega) h)
theorem pC(L:bs.length=c):∀(s:Sm) (n:Nat),s.wf c pl->n<=40->40<n+s.sz->Lk bs pl "sum" s.d n .many
 | .num k,n,w,h,I=>by
  have I:40<n+1:=I;obtain rfl:n=40:=by omega
  exact .many
 | .box k,n,w,h,I=>by
  have I:40<n+1:=I;obtain rfl:n=40:=by omega
  exact .many
 | .aft k,n,w,h,I=>by
  have I:40<n+1:=I;obtain rfl:n=40:=by omega
  exact .many
 | .two p a b,n,w,h,I=>by have I:40<n+(1+a.sz+b.sz):=I;by_cases q:n=40;subst q;exact .many;by_cases M:40<n+1+a.sz;exact .twoX (by omega) (uD p _ _) rS (pC L a (n+1) w.1 (by omega) M) (λ_ z=>nomatch z);exact .two (by omega) (uD p _ _) rS (lkS L a (n+1) _ w.1 rfl (by omega)) (pC L b _ w.2 (by omega) (by omega))
theorem yP(L:bs.length=c):∀(s:Cn) (n:Nat),s.wf c pl->n<=40->40<n+s.sz->Lk bs pl "cond" s.d n .many
 | .yes,n,w,h,I=>by
  have I:40<n+1:=I;obtain rfl:n=40:=by omega
  exact .many
 | .cmp p a b,n,w,h,I=>by have I:40<n+(1+a.sz+b.sz):=I;by_cases q:n=40;subst q;exact .many;by_cases M:40<n+1+a.sz;exact .twoX (by omega) (vS p _ _) rS (pC L a (n+1) w.1 (by omega) M) (λ_ z=>nomatch z);exact .two (by omega) (vS p _ _) rS (lkS L a (n+1) _ w.1 rfl (by omega)) (pC L b _ w.2 (by omega) (by omega))|.nt x,n,w,h,I=>by have I:40<n+(1+x.sz):=I;by_cases q:n=40;subst q;exact .many;exact .un (by omega) (yL _) rC (yP L x (n+1) w (by omega) (by omega))|.two p a b,n,w,h,I=>by have I:40<n+(1+a.sz+b.sz):=I;by_cases q:n=40;subst q;exact .many;by_cases M:40<n+1+a.sz;exact .twoX (by omega) (rD p _ _) rC (yP L a (n+1) w.1 (by omega) M) (λ_ z=>nomatch z);exact .two (by omega) (rD p _ _) rC (lkC L a (n+1) _ w.1 rfl (by omega)) (yP L b _ w.2 (by omega) (by omega))
theorem Lk.top{bs:List D}{pl:Bool}{k:Str}{d:D}{s:Nat}{r:Rs}(h:Lk bs pl k d s r):∀m,r=.ok m->m<=40:=by
 induction h with
 | many=>exact λm z=>nomatch z|bad h=>exact λm z=>nomatch z|nul h=>exact λm z=>by cases z;omega|num h=>exact λm z=>by cases z;omega|numX h=>exact λm z=>nomatch z|un h f n l q=>exact q|twoX h f n l x q=>exact λm z=>absurd z (x m)|two h f n l l2 q I=>exact I
noncomputable def X(bs:List D)(k:Str)(d:D):Prop:=∀s,s<=40->∃r,Lk bs true k d s r/\∀m,r≠.ok m
noncomputable def Tt(bs:List D)(k:Str)(d:D):Prop:=∀s,s<=40->∃r,Lk bs true k d s r
theorem X.of{k:Str}{d:D}(h:∀s,s<40->∃r,Lk bs true k d s r/\∀m,r≠.ok m):X bs k d:=λs hs=>by by_cases q:s=40;subst q;exact⟨_,.many,λ_ z=>nomatch z⟩;exact h s (by omega)
theorem X.bad{k:Str}{d:D}(f:uA true k d):X bs k d:=.of λs h=>⟨_,.bad h f,λ_ z=>nomatch z⟩
theorem X.num{k w w1:Str}{x:D}(f:cC true k (.tup [.str w,x]) [w1])(n:Num w1)(c:aGX bs w1 x):X bs k (.tup [.str w,x]):=.of λs h=>⟨_,.numX h f n c,λ_ z=>nomatch z⟩
theorem X.un{k w k1:Str}{a:D}(f:cC true k (.tup [.str w,a]) [k1])(n:Rec k1)(h:X bs k1 a):X bs k (.tup [.str w,a]):=.of λs hs=>by obtain⟨r,l,x⟩:=h (s+1) hs;exact⟨r,.un hs f n l,x⟩
theorem X.one{k w k1:Str}{a b:D}(f:cC true k (.tup [.str w,a,b]) [k1,k1])(n:Rec k1)(h:X bs k1 a):X bs k (.tup [.str w,a,b]):=.of λs hs=>by obtain⟨r,l,x⟩:=h (s+1) hs;exact⟨r,.twoX hs f n l x,x⟩
theorem X.two{k w k1:Str}{a b:D}(f:cC true k (.tup [.str w,a,b]) [k1,k1])(n:Rec k1)(g:Tt bs k1 a)(h:X bs k1 b):X bs k (.tup [.str w,a,b]):=.of λs hs=>by obtain⟨r,l⟩:=g (s+1) hs;by_cases q:∃m,r=.ok m;obtain⟨m,rfl⟩:=q;obtain⟨I,l2,x⟩:=h m (l.top m rfl);exact⟨I,.two hs f n l l2,x⟩;have x:∀m,r≠.ok m:=λm z=>q ⟨m,z⟩;exact⟨r,.twoX hs f n l x,x⟩
theorem tS(I:bs.length=c){s:Sm}(w:s.wf c true):Tt bs "sum" s.d:=λn h=>by by_cases q:n+s.sz<=40;exact⟨_,lkS I s n _ w rfl q⟩;exact⟨_,pC I s n w h (by omega)⟩
theorem xS(q:bs.length=c){s:Sm}(w:s.wf c true)(z:40<s.sz):X bs "sum" s.d:=λn h=>⟨_,pC q s n w h (by omega),λ_ z=>nomatch z⟩
theorem xC(q:bs.length=c){s:Cn}(w:s.wf c true)(z:40<s.sz):X bs "cond" s.d:=λn h=>⟨_,yP q s n w h (by omega),λ_ z=>nomatch z⟩
end
theorem rE{v:Vl}{ds:List D}(I:v.d=.lst ds){j:Nat}(q:j<ds.length):bW v (.cl (.int (j:Int)))=.ok (v.sub ds[j]):=by unfold bW;rw[I];have L:ixN ds.length (j:Int)=some j:=cU q;simp only[dI,L,Ap q]
theorem dF{P:Pg}{cl:Caller}{Z:Sg}{i:Nat}{L A:List D}{e:E}(h:Z[i]? = some (.own false L))(U:ev P cl Z e=.ok ⟨.lst A,true,false,[]⟩)(W:L.length+A.length<=1000) :
 ex P cl Z (.set (.n i) (.op .Add (.v i) e))=.next (Z.set i (.own false (L++A))):=by
 have hd:decide (L.length+A.length<=lim)=true:=Ay (by unfold lim;omega);have q:opD .Add ⟨.lst L,false,false,[i]⟩ ⟨.lst A,true,false,[]⟩=.ok ⟨.lst (L++A),true,false,(if noLs L then [] else [i])++(if noLs A then [] else [])⟩:=by show R.iff (decide (L.length+A.length<=lim)) _=_;rw[hd];rfl
 have I:∀al,al=[]\/al=[i]->(freeze Z al).set i (.own false (L++A))=Z.set i (.own false (L++A)):=by rintro al (rfl|rfl);rfl;show(freeze Z [i]).set i _=_;simp only[freeze,h,F0]
 have M:(if noLs L then [] else [i])++(if noLs A then [] else [])=([]:List Nat)\/(if noLs L then [] else [i])++(if noLs A then [] else [])=[i]:=by cases noLs L <;> cases noLs A <;> simp
 rw[fF,dX,dW,bJ,h];show O.from Z (R.ok (⟨.lst L,false,false,[i]⟩:Vl) >>= _) _=_;rw[aB,U,aB,q,aI,eD,aI];exact congrArg O.next (I _ M)
section
variable {P:Pg} {cl:Caller} {Z:Sg}
theorem iM{a:E}{k:Bool}(h:tst P cl Z a=.ok k):tst P cl Z (.nt a)=.ok (!k):=by rw[aGP,h];rfl
theorem rF{a b:E}{x y:D}(q:ev P cl Z a=.ok (.cl x))(I:ev P cl Z b=.ok (.cl y)):ev P cl Z (.tup (.cons a (.cons b .nil)))=.ok (.cl (.tup [x,y])):=by rw[qU,aE,q,aB,aE,I];rfl
theorem iD{a b c:E}{x y z:D}(q:ev P cl Z a=.ok (.cl x))(I:ev P cl Z b=.ok (.cl y))(L:ev P cl Z c=.ok (.cl z)):ev P cl Z (.tup (.cons a (.cons b (.cons c .nil))))=.ok (.cl (.tup [x,y,z])):=by rw[qU,aE,q,aB,aE,I,aB,aE,L];rfl
end
theorem aEt{v:Vl}{α:Type}{f:α->D}{xs:List α}{k:Nat}{x:α}(L:v.d=.lst (xs.map f))(q:xs[k]? = some x):bW v (.cl (.int (k:Int)))=.ok (Vl.sub v (f x)):=by
 have I:k<(xs.map f).length:=by rw[lM];exact(Az.mp q).1
 have e:(xs.map f)[k]? = some (f x):=by rw[A6,q];rfl
 unfold bW;simp only[L,dI,cU I,e]
section
variable {P:Pg} {cl:Caller} {Z Z':Sg}
theorem aJz{i:Nat}{e:E}{v:Vl}{pa:Bool}{ds:List D}(h:ev P cl Z e=.ok v)(hi:(freeze Z v.al)[i]? = some (.own pa ds))(q:ds.length<lim):ex P cl Z (.app i e)=.next ((freeze Z v.al).set i (.own (pa||v.pa) (ds++[v.d]))):=by
 have I:(ds++[v.d]).length<=lim:=by rw[lA];exact q
 rw[aGQ,h,cB,aI];unfold put jX;rw[hi];show(if (ds++[v.d]).length<=lim then O.next _ else .bad)=_;rw[if_pos I]
theorem aBa{o:CmpOp}{a b:E}{x y:Vl}{k:Bool}(h:ev P cl Z a=.ok x)(g:ev P cl Z b=.ok y)(e:bT o x.d y.d=some k):tst P cl Z (.cmp o a b)=.ok k:=by rw[cF,h,aB,g,aB,e]
end
theorem rG{P:Pg}{cl:Caller}{Z:Sg}{f:Nat}{a:E}{x:Vl}{d:D}{fr:Bool}(q:ev P cl Z a=.ok x)(I:cl f [x.d]=.ok (d,fr,false)):ev P cl Z (.call f (.cons a .nil))=.ok ⟨d,fr,false,[]⟩:=by
 have e:evs P cl Z (.cons a .nil)=.ok [x]:=by rw[aE,q];rfl
 rw[bZ,e,aB,show [x].map (·.d)=[x.d] from rfl,I];rfl
section
variable {P:Pg} {cl:Caller} {Z Z':Sg}
theorem yQ{a b:E}(h:tst P cl Z a=.ok true):tst P cl Z (.orr a b)=.ok true:=by rw[gO,h];rfl
theorem gF{f:Nat}{a b:E}{x y:Vl}{d:D}(q:ev P cl Z a=.ok x)(I:ev P cl Z b=.ok y)(L:cl f [x.d,y.d]=.ok (d,true,false)):ev P cl Z (.call f (.cons a (.cons b .nil)))=.ok ⟨d,true,false,[]⟩:=by
 have e:evs P cl Z (.cons a (.cons b .nil))=.ok [x,y]:=by rw[aE,q,aB,aE,I,aB,bV];rfl
 rw[bZ,e,aB,show [x,y].map (·.d)=[x.d,y.d] from rfl,L];rfl
end
abbrev aAo(ws:List Way):D:=.lst (ws.map Way.d)
abbrev bE(h:List (List Way)):List D:=h.map aAo
structure yR (m e:Nat) (ws:List Way):Prop where
 one:1<=ws.length
 few:ws.length<=4
 ok:∀w∈ws,kJ m w/\0<=w.nx/\w.nx<(e:Int)+1
structure jT (m:Nat) (h:List (List Way)):Prop where
 few:h.length<=8
 ok:∀ws∈h,yR m h.length ws
abbrev hf(ns:List Int)(k:Nat)(bs:List (Str×Int))(e:Nat)(s:Sl):Sg:=[s,.lent (aL ns k),.sh true (.lst (aD bs)),.sh true (.int e)]
abbrev aJA:EL:=.call 18 (.cons (.e (.v 2)) (.cons (.e (.op .Add (.v 3) (.c (.int 1)))) (.cons (.e (.c (.int 1))) .nil)))
abbrev aJB:EL:=.comp 1 [1,2,3] (.n 0) (.op .Add (.e (.c (.int 1))) (.call 14 (.cons (.e (.c (.int 4))) .nil))) 1 aJA
theorem nF{α:Type}{P:α->Prop}{l:List α}{x:α}(h:∀y∈l,P y)(q:P x):∀y∈l++[x],P y:=λy I=>by rcases Bc.mp I with z|z;exact h y z;rw[D3.mp z];exact q
theorem aDP(n:Nat)(ns:List Int){k e:Nat}(hk:k<=300000){bs:List (Str×Int)}(hm:1<=bs.length)(I:bs.length<=4)(s:Sl) :
 ∃(ws:List Way) (q:Nat),yR bs.length e ws/\q<=k+1000/\evl pg (call pg (n+8)) 1 (hf ns k bs e s) aJB=.ok (⟨aAo ws,true,false,[]⟩,hf ns q bs e s):=by
 obtain⟨r0,r1⟩:=cP ns k (m:=4) (by decide);have x0:evl pg (call pg (n+8)) 1 (hf ns k bs e s) (.call 14 (.cons (.e (.c (.int 4))) .nil))=.ok (.cl (.int (nxt ns k 4)),hf ns (k+1) bs e s):=jR (z:=(true,aL ns k)) rfl rfl (vs:=[.cl (.int 4)]) (Z1:=hf ns k bs e s) rfl (pa:=true) (cs:=aL ns k) rfl (lD (n+6) ns (by omega) (m:=4) (by decide));have hN:(1:Int)+nxt ns k 4=((1+(nxt ns k 4).toNat:Nat):Int):=by omega
 have L:=oW (cM (P:=pg) (cl:=call pg (n+8)) (l:=1) (Z:=hf ns k bs e s) (a:=.c (.int 1)) (d:=.int 1) rfl) x0 (add_int 1 (nxt ns k 4));rw[hN] at L;obtain⟨ds,Z',h1,ws,q,rfl,h2,h3,h4,rfl⟩:=mW (k:=1) (l':=1) (caps:=[1,2,3]) (t:=.n 0) (elt:=aJA) (λi ds Z=>∃ws q,ds=ws.map Way.d/\ws.length=i/\(∀w∈ws,kJ bs.length w/\0<=w.nx/\w.nx<(e:Int)+1)/\q<=k+1+200*i/\Z=hf ns q bs e s) L (by omega) ⟨[],k+1,rfl,rfl,λ_ z=>absurd z Cj,by omega,rfl⟩ λi Z ds hi ⟨ws,q,M,U,W,e4,e5⟩=>by subst M e5;obtain⟨w,k2,o,hx,q0,hc⟩:=aDL n ns (k:=q) (by omega) hm I (m:=(e:Int)+1) (by omega) (d:=1) (by decide);exact⟨hf ns q bs e (.sh false (.int i)),.cl w.d,hf ns k2 bs e (.sh false (.int i)),(true,aL ns q),true,aL ns k2,rfl,jR (z:=(true,aL ns q)) rfl rfl (vs:=[⟨.lst (aD bs),false,true,[]⟩,.cl (.int ((e:Int)+1)),.cl (.int 1)]) (Z1:=hf ns q bs e (.sh false (.int i))) rfl (pa:=true) (cs:=aL ns q) rfl hc,rfl,rfl,rfl,ws++[w],k2,by rw[Cz];rfl,by rw[lA,U];rfl,nF W ⟨o,hx⟩,by omega,rfl⟩
 exact⟨ws,q,⟨by omega,by omega,h3⟩,by omega,h1⟩
theorem bnd{a b c i:Nat}(q:a<=b+1000)(I:b<=c+1000*i):a<=c+1000*(i+1):=AH q (AH (Nat.add_le_add_right I 1000) (GM (by rw[GQ,Nat.add_assoc])))
theorem aCf(n:Nat)(ns:List Int){k e:Nat}(q0:1<=e)(q1:e<=4)(hk:k<=100000){bs:List (Str×Int)}(hm:1<=bs.length)(L:bs.length<=4) :
 ∃(h:List (List Way)) (q:Nat),jT bs.length h/\1<=h.length/\h.length<=4/\q<=k+4000/\call pg (n+9) 19 [.err ⟨#[]⟩ (aL ns k),.lst (aD bs),.int e]=.ok (.tup [.lst (bE h),.err ⟨#[]⟩ (aL ns q)],true,false):=by
 obtain⟨ds,Z',h1,h,q,rfl,h2,h3,h4,rfl⟩:=mW (P:=pg) (cl:=call pg (n+8)) (l:=0) (Z:=[.lent (aL ns k),.sh true (.lst (aD bs)),.sh true (.int e)]) (n:=.e (.v 2)) (N:=e) (Z0:=[.lent (aL ns k),.sh true (.lst (aD bs)),.sh true (.int e)]) (k:=1) (l':=1) (caps:=[0,1,2]) (t:=.n 0) (elt:=aJB) (λi ds Z=>∃(h:List (List Way)) (q:Nat),ds=bE h/\h.length=i/\(∀ws∈h,yR bs.length e ws)/\q<=k+1000*i/\Z=[.lent (aL ns q),.sh true (.lst (aD bs)),.sh true (.int e)]) (cM rfl) (by omega) ⟨[],k,rfl,rfl,λ_ z=>absurd z Cj,by omega,rfl⟩ λi Z ds hi ⟨h,q,M,U,W,e4,e5⟩=>by subst M e5;obtain⟨ws,k2,o,I,hc⟩:=aDP n ns (k:=q) (e:=e) (by omega) hm L (.sh false (.int i));exact⟨hf ns q bs e (.sh false (.int i)),_,hf ns k2 bs e (.sh false (.int i)),(true,aL ns q),true,aL ns k2,rfl,hc,rfl,rfl,rfl,h++[ws],k2,by rw[bE,bE,Cz];rfl,by rw[lA,U];rfl,nF W o,bnd I e4,rfl⟩
 refine⟨h,q,⟨by omega,by rw[h2];exact h3⟩,by omega,by omega,by omega,?_⟩;refine dD (F:=f19) (b:=_) rfl rfl rfl (v:=⟨.tup [.lst (bE h),.err ⟨#[]⟩ (aL ns q)],true,false,[]⟩) ?_;show exs pg (call pg (n+8)) [.lent (aL ns k),.sh true (.lst (aD bs)),.sh true (.int e)] _=_;refine gY ?_;rw[qZ,h1];rfl
section
variable {P:Pg} {cl:Caller} {Z Z':Sg} {f:Nat} {es:Es} {vs:List Vl} {x:D} {ss:Ss}
theorem kK(I:evs P cl Z es=.ok vs)(q:cl f (vs.map (·.d))=.exc x):exs P cl Z (.cons (.ex (.call f es)) ss)=.exc x Z:=by rw[aW,aEo,bZ,I,aB,q];rfl
theorem hJ{r:Rt}(I:evs P cl Z es=.ok vs)(q:cl f (vs.map (·.d))=.ok r):ex P cl Z (.ex (.call f es))=.next Z:=by rw[aEo,bZ,I,aB,q];rfl
theorem rH{k:Bool}(I:evs P cl Z es=.ok vs)(q:cl f (vs.map (·.d))=.ok (.bl k,false,false)):tst P cl Z (.call f es)=.ok k:=by rw[aBN,I,aB,q];rfl
theorem fL{c:E}{w m:Str}(h:tst P cl Z c=.ok true):exs P cl Z (.cons (.iff c (.cons (.rse w false (.cons (.c (.str m)) .nil)) .nil) .nil) ss)=.exc (.err w []) Z:=by rw[aW,bL,h];rfl
theorem iY{s:S}(h:ex P cl Z s=.next Z'):exs P cl Z (.cons s .nil)=.next Z':=cs h rfl
theorem aCg{b:Ss}{c q:Str}{e:E}(h:exs P cl Z b=.exc (.err q []) Z')(I:isX [.own "NoCond",.own "TooMany"] P (.err q [])=some true):exs P cl Z (.cons (.tryR b ["NoCond", "TooMany"] c e) ss)=.exc (.err c [.non]) Z':=by
 have:ex P cl Z (.tryR b ["NoCond", "TooMany"] c e)=.exc (.err c [.non]) Z':=by show(match exs P cl Z b with|.exc (.err q []) Z'=>(match isX [.own "NoCond",.own "TooMany"] P (.err q []) with|some true=>O.exc (.err c [.non]) Z'|_=>.bad)|.exc _ _=>.bad|o=>o)=_;rw[h];show(match isX [.own "NoCond",.own "TooMany"] P (.err q []) with|some true=>O.exc (.err c [.non]) Z'|_=>.bad)=_;rw[I]
 rw[aW,this];rfl
theorem aCh{b:Ss}{c:Str}{e:E}{cs:List Str}(h:exs P cl Z b=.next Z'):ex P cl Z (.tryR b cs c e)=.next Z':=by show(match exs P cl Z b with|.exc (.err q []) Z'=>(match isX (cs.map .own) P (.err q []) with|some true=>O.exc (.err c [.non]) Z'|_=>.bad)|.exc _ _=>.bad|o=>o)=_;rw[h]
theorem kM{a:E}{cs:List Cl}{v:Vl}{k:Bool}(h:ev P cl Z a=.ok v)(e:isI cs P v.d=some k):tst P cl Z (.isi a cs)=.ok k:=by show(ev P cl Z a >>= λx=>(match isI cs P x.d with|some k=>R.ok k|none=>.bad))=_;rw[h,aB,e]
theorem jU{a b:E}{k:Bool}(h:tst P cl Z a=.ok false)(g:tst P cl Z b=.ok k):tst P cl Z (.orr a b)=.ok k:=by rw[gO,h,aB,if_neg bN,g]
theorem aJC{a b:E}{i j:Int}(h:ev P cl Z a=.ok (.cl (.int i)))(g:ev P cl Z b=.ok (.cl (.int j)))(q:i≠j):tst P cl Z (.cmp .NotEq a b)=.ok true:=by rw[cF,h,aB,g,aB];show(match (eqD (.int i) (.int j)).map (!·) with|some k=>R.ok k|none=>.bad)=_;rw[gR,beq_eq_false_iff_ne.mpr q];rfl
end
noncomputable def Rf(r:R Rt):Prop:=∃fs,r=.exc (.err "NoHand" fs)
abbrev Ok(k f:Nat)(as:List D):Prop:=∀n,call pg (n+k) f as=.ok (.non,false,false)
abbrev No(k f:Nat)(as:List D):Prop:=∀n,Rf (call pg (n+k) f as)
noncomputable def kd(isc:Bool):Str:=if isc then "cond" else "sum"
variable {B:List D}
theorem aEu{isc:Bool}{d:D}{m:Nat}(h:Lk B true (kd isc) d 0 (.ok m))(n:Nat):∃r,call pg (n+45) (bif isc then 3 else 2) [.lst B,d,.bl true]=.ok r:=by
 have q:=uC h (n+44) (by omega);cases isc with
 | true=>exact⟨_,aX (F:=f3) rfl rfl (v:=⟨d,false,true&&!noL d,[]⟩) (cs (hJ (vs:=[⟨.lst B,false,true,[]⟩,.cl (.str "cond"),⟨d,false,true&&!noL d,[]⟩,.cl (.bl true),.cl (.int 0)]) rfl q) rfl)⟩|false=>exact⟨_,aX (F:=f2) rfl rfl (v:=⟨d,false,true&&!noL d,[]⟩) (cs (hJ (vs:=[⟨.lst B,false,true,[]⟩,.cl (.str "sum"),⟨d,false,true&&!noL d,[]⟩,.cl (.bl true),.cl (.int 0)]) rfl q) rfl)⟩
theorem aEv{isc:Bool}{d:D}(h:X B (kd isc) d)(n:Nat):∃c,isX [.own "NoCond",.own "TooMany"] pg (.err c [])=some true/\call pg (n+45) (bif isc then 3 else 2) [.lst B,d,.bl true]=.exc (.err c []):=by
 obtain⟨r,l,x⟩:=h 0 (by decide);have q:=uC l (n+44) (by omega);obtain⟨c,L,I⟩:∃c,isX [.own "NoCond",.own "TooMany"] pg (.err c [])=some true/\r.r=.exc (.err c []):=by
  cases r with
  | ok m=>exact absurd rfl (x m)|none=>exact⟨"NoCond",by decide +kernel,rfl⟩|many=>exact⟨"TooMany",by decide +kernel,rfl⟩
 rw[I] at q;refine⟨c,L,?_⟩;cases isc with
 | true=>exact aN (F:=f3) rfl rfl (kK (vs:=[⟨.lst B,false,true,[]⟩,.cl (.str "cond"),⟨d,false,true&&!noL d,[]⟩,.cl (.bl true),.cl (.int 0)]) rfl q)|false=>exact aN (F:=f2) rfl rfl (kK (vs:=[⟨.lst B,false,true,[]⟩,.cl (.str "sum"),⟨d,false,true&&!noL d,[]⟩,.cl (.bl true),.cl (.int 0)]) rfl q)
theorem aDQ{d:D}{m:Nat}(h:Lk B true "cond" d 0 (.ok m)):Ok 46 10 [.lst B,d]:=λn=>by obtain⟨r,q⟩:=aEu (isc:=true) h n;exact eP (F:=f10) rfl rfl (iY (aCh (iY (hJ (vs:=[⟨.lst B,false,true,[]⟩,⟨d,false,true&&!noL d,[]⟩,.cl (.bl true)]) rfl q))))
theorem yS{d:D}(h:X B "cond" d):No 46 10 [.lst B,d]:=λn=>by obtain⟨c,I,q⟩:=aEv (isc:=true) h n;exact⟨_,aN (F:=f10) rfl rfl (aCg (kK (vs:=[⟨.lst B,false,true,[]⟩,⟨d,false,true&&!noL d,[]⟩,.cl (.bl true)]) rfl q) I)⟩
noncomputable def Within(k:Bool)(a:D)(l t:Int):Prop:=∀n,call pg (n+2) 1 [a,.int l,.int t]=.ok (.bl k,false,false)
theorem nG{i l t:Int}(q:l<=i)(I:i<=t):Within true (.int i) l t:=λn=>oV (P:=pg) (wh:=0) (wi:=1) rfl rfl n i l t q I
theorem iZ{i l t:Int}(h:i<l\/t<i):Within false (.int i) l t:=λn=>by
 refine aX (F:=dE 0) rfl rfl (v:=.cl (.bl false)) ?_;have I:=mY (P:=pg) (wh:=0) rfl n i;by_cases q:l<=i;have L:¬ i<=t:=by omega
 simp[dE,bJ,I,q,L];simp[dE,bJ,I,q]
abbrev tf(B:List D)(d:D)(l:Int):Sg:=[.sh true (.lst B),.sh true d,.sh true (.int l)]
theorem aCi{a s:D}{l:Int}{k:Bool}(h:Within k a l (B.length-1))(n:Nat):tst pg (call pg (n+45)) (tf B (.tup [a,s]) l) (.nt (.call 1 (.cons (.idx (.v 1) (.c (.int 0))) (.cons (.v 2) (.cons (.op .Sub (.bi .len (.cons (.v 0) .nil)) (.c (.int 1))) .nil)))))=.ok (!k):=
 iM (rH (vs:=[Vl.sub ⟨.tup [a,s],false,true&&!noL (.tup [a,s]),[]⟩ a,.cl (.int l),.cl (.int (B.length-1))]) rfl (by
  show call pg (n+45) 1 [(Vl.sub _ a).d,_,_]=_;rw[dM];exact h (n+43)))
theorem aEw(n:Nat){a s:D}{l:Int}:∃v:Vl,v.d=s/\evs pg (call pg (n+45)) (tf B (.tup [a,s]) l) (.cons (.v 0) (.cons (.idx (.v 1) (.c (.int 1))) (.cons (.c (.bl true)) .nil)))=.ok [⟨.lst B,false,true,[]⟩,v,.cl (.bl true)]:=⟨Vl.sub ⟨.tup [a,s],false,true&&!noL (.tup [a,s]),[]⟩ s,dM _ _,rfl⟩
theorem aEx{i l:Int}{s:D}{m:Nat}(I:l<=i)(M:i<B.length)(h:Lk B true "sum" s 0 (.ok m)):Ok 46 12 [.lst B,.tup [.int i,s],.int l]:=λn=>by obtain⟨r,q⟩:=aEu (isc:=false) h n;obtain⟨v,L,e⟩:=aEw (B:=B) n (a:=.int i) (s:=s) (l:=l);subst L;exact eP (F:=f12) rfl rfl (Z:=tf B (.tup [.int i,v.d]) l) (cs (cQ rfl) (cs (cQ (aCi (nG I (by omega)) n)) (iY (aCh (iY (hJ e q))))))
theorem aCj{d:D}{l:Int}(h:isI [.tTuple] pg d=some false):No 46 12 [.lst B,d,.int l]:=λn=>⟨_,aN (F:=f12) rfl rfl (Z:=tf B d l) (fL (yQ (iM (kM (v:=⟨d,false,true&&!noL d,[]⟩) rfl h))))⟩
theorem aEy{ds:List D}{l:Int}(h:ds.length≠2):No 46 12 [.lst B,.tup ds,.int l]:=λn=>⟨_,aN (F:=f12) rfl rfl (Z:=tf B (.tup ds) l) (fL (jU rfl (aJC (i:=ds.length) rfl rfl (by omega))))⟩
theorem aCk{a s:D}{l:Int}(h:Within false a l (B.length-1)):No 46 12 [.lst B,.tup [a,s],.int l]:=λn=>⟨_,aN (F:=f12) rfl rfl (Z:=tf B (.tup [a,s]) l) (cs (cQ rfl) (fL (aCi h n)))⟩
theorem aEz{i l:Int}{s:D}(I:l<=i)(U:i<B.length)(h:X B "sum" s):No 46 12 [.lst B,.tup [.int i,s],.int l]:=λn=>by obtain⟨c,M,q⟩:=aEv (isc:=false) h n;obtain⟨v,L,e⟩:=aEw (B:=B) n (a:=.int i) (s:=s) (l:=l);subst L;exact⟨_,aN (F:=f12) rfl rfl (Z:=tf B (.tup [.int i,v.d]) l) (cs (cQ rfl) (cs (cQ (aCi (nG I (by omega)) n)) (aCg (kK e q) M)))⟩
variable {B:List D}
inductive Pn (B:List D):Int->List D->Prop
 | nil {l}:Pn B l []
 | cons {l i s r} (h:Ok 46 12 [.lst B,.tup [.int i,s],.int l]) (t:Pn B (i+1) r):Pn B l (.tup [.int i,s]::r)
inductive Px (B:List D):Int->List D->Prop
 | hd {l d r} (h:No 46 12 [.lst B,d,.int l]):Px B l (d::r)
 | tl {l i s r} (h:Ok 46 12 [.lst B,.tup [.int i,s],.int l]) (t:Px B (i+1) r):Px B l (.tup [.int i,s]::r)
abbrev pB:Ss:=match hdS (drp 2 f11.body) with|.for _ _ b=>b|_=>.nil
abbrev pf(B:List D)(d:D)(l:Int)(s:Sl):Sg:=[.sh true (.lst B),.sh true d,.sh false (.int l),s]
abbrev pT(n:Nat)(Z:Sg)(x:Vl):O:=O.from Z (aY Z x (.n 3)) λZ'=>exs pg (call pg (n+46)) Z' pB
theorem aJD(n:Nat){d s:D}{l i:Int}{t:Sl}(v:Vl)(h:Ok 46 12 [.lst B,.tup [.int i,s],.int l]):∃t',pT n (pf B d l t) (Vl.sub v (.tup [.int i,s]))=.next (pf B d (i+1) t'):=by obtain⟨p,q⟩:=gE v (.tup [.int i,s]);refine⟨.sh p (.tup [.int i,s]),?_⟩;show O.from _ (R.ok ((pf B d l t).set 3 (Vl.sub v (.tup [.int i,s])).slot)) _=_;rw[q,aI];exact cs (hJ (vs:=[⟨.lst B,false,true,[]⟩,⟨.tup [.int i,s],false,p&&!noL (.tup [.int i,s]),[]⟩,.cl (.int l)]) rfl (h n)) (cs (dL (dB (jQ rfl (aP _) (z:=.cl (.int i)) rfl) (aP _) (add_int i 1))) (fG ..))
theorem aLq(n:Nat){d e:D}{l:Int}{t:Sl}(v:Vl)(h:No 46 12 [.lst B,e,.int l]):∃fs Z',pT n (pf B d l t) (Vl.sub v e)=.exc (.err "NoHand" fs) Z':=by obtain⟨p,q⟩:=gE v e;obtain⟨fs,hf⟩:=h n;refine⟨fs,pf B d l (.sh p e),?_⟩;show O.from _ (R.ok ((pf B d l t).set 3 (Vl.sub v e).slot)) _=_;rw[q,aI];exact kK (vs:=[⟨.lst B,false,true,[]⟩,⟨e,false,p&&!noL e,[]⟩,.cl (.int l)]) rfl hf
theorem aGZ(n:Nat){d:D}(v:Vl){l:Int}{ds:List D}(h:Pn B l ds):∀t,∃Z',bB (pT n) (ds.map v.sub) (pf B d l t)=.next Z':=by
 induction h with
 | nil=>exact λt=>⟨_,rfl⟩
 | cons h _ q=>intro t;obtain⟨t',e⟩:=aJD (d:=d) (t:=t) n v h;rw[mC,bB,e];exact q t'
theorem aHa(n:Nat){d:D}(v:Vl){l:Int}{ds:List D}(h:Px B l ds):∀t,∃fs Z',bB (pT n) (ds.map v.sub) (pf B d l t)=.exc (.err "NoHand" fs) Z':=by
 induction h with
 | hd h=>intro t;obtain⟨fs,Z',e⟩:=aLq (d:=d) (t:=t) n v h;rw[mC,bB,e];exact⟨fs,Z',rfl⟩|tl h _ q=>intro t;obtain⟨t',e⟩:=aJD (d:=d) (t:=t) n v h;rw[mC,bB,e];exact q t'
theorem aHb{ds:List D}(h:Pn B 0 ds):Ok 47 11 [.lst B,.tup ds]:=λn=>by obtain⟨Z',e⟩:=aGZ n (d:=.tup ds) ⟨.tup ds,false,true&&!noL (.tup ds),[]⟩ h .dead;exact eP (F:=f11) rfl rfl (cs (cQ (iM (kM (k:=true) (v:=⟨.tup ds,false,true&&!noL (.tup ds),[]⟩) rfl rfl))) (cs (dL (aP _)) (iY e)))
theorem cV{ds:List D}(h:Px B 0 ds):No 47 11 [.lst B,.tup ds]:=λn=>by obtain⟨fs,Z',e⟩:=aHa n (d:=.tup ds) ⟨.tup ds,false,true&&!noL (.tup ds),[]⟩ h .dead;refine⟨fs,aN (F:=f11) rfl rfl (Z:=Z') (cs (cQ (iM (kM (k:=true) (v:=⟨.tup ds,false,true&&!noL (.tup ds),[]⟩) rfl rfl))) (cs (dL (aP _)) ?_))⟩;rw[aW];show O.on (bB (pT n) (ds.map _) (pf B (.tup ds) 0 .dead)) _=_;rw[e];rfl
theorem aCl{d:D}(h:isI [.tTuple] pg d=some false):No 47 11 [.lst B,d]:=λn=>⟨_,aN (F:=f11) rfl rfl (Z:=[.sh true (.lst B),.sh true d,.dead,.dead]) (fL (iM (kM (v:=⟨d,false,true&&!noL d,[]⟩) rfl h)))⟩
section
variable {g p x:D} {e:Int}
theorem rJ(n:Nat):∃v:Vl,v.d=g/\evs pg (call pg (n+47)) (tf B (.tup [g,p,x]) e) (.cons (.v 0) (.cons (.idx (.v 1) (.c (.int 0))) .nil))=.ok [⟨.lst B,false,true,[]⟩,v]:=⟨Vl.sub ⟨.tup [g,p,x],false,true&&!noL (.tup [g,p,x]),[]⟩ g,dM _ _,rfl⟩
theorem vU(n:Nat):∃v:Vl,v.d=p/\evs pg (call pg (n+47)) (tf B (.tup [g,p,x]) e) (.cons (.v 0) (.cons (.idx (.v 1) (.c (.int 1))) .nil))=.ok [⟨.lst B,false,true,[]⟩,v]:=⟨Vl.sub ⟨.tup [g,p,x],false,true&&!noL (.tup [g,p,x]),[]⟩ p,dM _ _,rfl⟩
theorem aEA{k:Bool}(h:Within k x 0 e)(n:Nat):tst pg (call pg (n+47)) (tf B (.tup [g,p,x]) e) (.nt (.call 1 (.cons (.idx (.v 1) (.c (.int 2))) (.cons (.c (.int 0)) (.cons (.v 2) .nil)))))=.ok (!k):=
 iM (rH (vs:=[Vl.sub ⟨.tup [g,p,x],false,true&&!noL (.tup [g,p,x]),[]⟩ x,.cl (.int 0),.cl (.int e)]) rfl (by
  show call pg (n+47) 1 [(Vl.sub _ x).d,_,_]=_;rw[dM];exact h (n+45)))
theorem aJE(L:Ok 46 10 [.lst B,g])(M:Ok 47 11 [.lst B,p])(U:Within true x 0 e)(nl:noL (.tup [g,p,x])=true)(n:Nat):call pg (n+48) 9 [.lst B,.tup [g,p,x],.int e]=.ok (.tup [g,p,x],false,false):=by obtain⟨v,rfl,q⟩:=rJ (B:=B) (g:=g) (p:=p) (x:=x) (e:=e) n;obtain⟨w,rfl,I⟩:=vU (B:=B) (g:=v.d) (p:=p) (x:=x) (e:=e) n;refine aX (F:=f9) rfl rfl (v:=.cl (.tup [v.d,w.d,x])) (cs (cQ rfl) (cs (hJ q (L (n+1))) (cs (hJ I (M n)) (cs (cQ (aEA U n)) ?_))));show O.on (O.from (tf B (.tup [v.d,w.d,x]) e) (Sl.val 1 (.sh true (.tup [v.d,w.d,x]))) .ret) (λZ=>exs pg (call pg (n+47)) Z .nil)=_;rw[yC 1 true nl];rfl
theorem aEB(h:No 46 10 [.lst B,g]):No 48 9 [.lst B,.tup [g,p,x],.int e]:=λn=>by obtain⟨v,rfl,q⟩:=rJ (B:=B) (g:=g) (p:=p) (x:=x) (e:=e) n;obtain⟨fs,hf⟩:=h (n+1);exact⟨fs,aN (F:=f9) rfl rfl (cs (cQ rfl) (kK q hf))⟩
theorem aEC(L:Ok 46 10 [.lst B,g])(h:No 47 11 [.lst B,p]):No 48 9 [.lst B,.tup [g,p,x],.int e]:=λn=>by obtain⟨v,rfl,q⟩:=rJ (B:=B) (g:=g) (p:=p) (x:=x) (e:=e) n;obtain⟨w,rfl,I⟩:=vU (B:=B) (g:=v.d) (p:=p) (x:=x) (e:=e) n;obtain⟨fs,hf⟩:=h n;exact⟨fs,aN (F:=f9) rfl rfl (cs (cQ rfl) (cs (hJ q (L (n+1))) (kK I hf)))⟩
theorem aJF(L:Ok 46 10 [.lst B,g])(M:Ok 47 11 [.lst B,p])(U:Within false x 0 e):No 48 9 [.lst B,.tup [g,p,x],.int e]:=λn=>by obtain⟨v,rfl,q⟩:=rJ (B:=B) (g:=g) (p:=p) (x:=x) (e:=e) n;obtain⟨w,rfl,I⟩:=vU (B:=B) (g:=v.d) (p:=p) (x:=x) (e:=e) n;exact⟨_,aN (F:=f9) rfl rfl (cs (cQ rfl) (cs (hJ q (L (n+1))) (cs (hJ I (M n)) (fL (aEA U n)))))⟩
theorem yT{d:D}(h:isI [.tTuple] pg d=some false):No 48 9 [.lst B,d,.int e]:=λn=>⟨_,aN (F:=f9) rfl rfl (Z:=tf B d e) (fL (yQ (iM (kM (v:=⟨d,false,true&&!noL d,[]⟩) rfl h))))⟩
theorem aCm{ds:List D}(h:ds.length≠3):No 48 9 [.lst B,.tup ds,.int e]:=λn=>⟨_,aN (F:=f9) rfl rfl (Z:=tf B (.tup ds) e) (fL (jU rfl (aJC (i:=ds.length) rfl rfl (by omega))))⟩
end
variable {B:List D}
noncomputable def Gw(B:List D)(e:Int)(d:D):Prop:=noL d=true/\∀n,call pg (n+48) 9 [.lst B,d,.int e]=.ok (d,false,false)
section
variable {P:Pg} {cl:Caller} {Z:Sg}
theorem aCn{a:E}{x:D}{ss:Ss}(h:ev P cl Z a=.exc x):exs P cl Z (.cons (.ret a) ss)=.exc x Z:=by rw[aW,mQ,h];rfl
theorem aLr{a b c:E}{x y z:Int}(q:ev P cl Z a=.ok (.cl (.int x)))(I:ev P cl Z b=.ok (.cl (.int y)))(L:ev P cl Z c=.ok (.cl (.int z))):tst P cl Z (.cmp2 .LtE .LtE a b c)=.ok (decide (x<=y)&&decide (y<=z)):=by
 rw[aBM,q,aB,I,aB];show(match some (decide (x<=y)) with|some true=>ev P cl Z c >>= λz=>(match bT .LtE (.int y) z.d with|some k=>R.ok k|none=>.bad)|some false=>.ok false|none=>.bad)=_;cases decide (x<=y) with
 | true=>show(ev P cl Z c >>= λz=>(match bT .LtE (.int y) z.d with|some k=>R.ok k|none=>.bad))=_;rw[L];rfl|false=>rfl
theorem aJG{a b:E}{x y:Int}(q:ev P cl Z a=.ok (.cl (.int x)))(I:ev P cl Z b=.ok (.cl (.int y))):tst P cl Z (.cmp .Gt a b)=.ok (decide (y<x)):=by rw[cF,q,aB,I];rfl
end
abbrev lv(d:D):Vl:=⟨d,false,true&&!noL d,[]⟩
theorem aED{d:D}{e:Int}{p:Bool}(n:Nat):evs pg (call pg n) [.sh p d,.sh true (.lst B),.sh true (.int e)] (.cons (.v 1) (.cons (.v 0) (.cons (.v 2) .nil)))=.ok [⟨.lst B,false,true,[]⟩,⟨d,false,p&&!noL d,[]⟩,.cl (.int e)]:=rfl
abbrev aDR:E:=.call 9 (.cons (.v 1) (.cons (.v 0) (.cons (.v 2) .nil)))
theorem aEE{d:D}{e:Int}{p:Bool}{n:Nat}(h:call pg n 9 [.lst B,d,.int e]=.ok (d,false,false)):ev pg (call pg n) [.sh p d,.sh true (.lst B),.sh true (.int e)] aDR=.ok (.cl d):=by rw[bZ,aED,aB];show(call pg n 9 [.lst B,d,.int e] >>= _)=_;rw[h];rfl
theorem aJH{d x:D}{e:Int}{p:Bool}{n:Nat}(h:call pg n 9 [.lst B,d,.int e]=.exc x):ev pg (call pg n) [.sh p d,.sh true (.lst B),.sh true (.int e)] aDR=.exc x:=by rw[bZ,aED,aB];show(call pg n 9 [.lst B,d,.int e] >>= _)=_;rw[h];rfl
theorem aCo(v:Vl)(d:D){e:Int}:∃p,aY [.dead,.sh true (.lst B),.sh true (.int e)] (Vl.sub v d) (.n 0)=.ok [.sh p d,.sh true (.lst B),.sh true (.int e)]:=by obtain⟨p,q⟩:=gE v d;exact⟨p,by rw[eD,q];rfl⟩
theorem aJI{L:List D}{e:Int}(n:Nat):ev pg (call pg n) (tf B (.lst L) e) (.bi .len (.cons (.v 1) .nil))=.ok (.cl (.int L.length)):=rfl
theorem aEF{L:List D}{e:Int}(n:Nat):walk pg (call pg n) (tf B (.lst L) e) (.seq (.v 1))=.ok (L.map (lv (.lst L)).sub,[]):=rfl
theorem aCp{L:List D}{e:Int}(n:Nat){k:Bool}(h:(decide ((1:Int)<=L.length)&&decide ((L.length:Int)<=4))=k):tst pg (call pg n) (tf B (.lst L) e) (.orr (.nt (.isi (.v 1) [.tList])) (.nt (.cmp2 .LtE .LtE (.c (.int 1)) (.bi .len (.cons (.v 1) .nil)) (.c (.int 4)))))=.ok (!k):=
 jU rfl (iM ((aLr (aP _) (aJI n) (aP _)).trans (congrArg R.ok h)))
theorem aEG{L:List D}{e:Int}(I:1<=L.length)(M:L.length<=4)(h:∀d∈L,Gw B e d)(n:Nat):call pg (n+49) 8 [.lst B,.lst L,.int e]=.ok (.lst L,true,false):=by
 refine aX (F:=f8) rfl rfl (v:=⟨.lst L,true,false,[]⟩) (cs (cQ (aCp (n+48) (k:=true) (by rw[Ay (by omega),Ay (by omega)];rfl))) (eO ?_));have c:=qW (P:=pg) (cl:=call pg (n+48)) (Z:=tf B (.lst L) e) (k:=1) (caps:=[0,2]) (t:=.n 0) (elt:=aDR) (λx=>Vl.cl x.d) (aEF (n+48)) (by rw[lM];unfold lim;omega) λx q=>by obtain⟨d,hd,rfl⟩:=Aw.mp q;obtain⟨p,W⟩:=aCo (B:=B) (lv (.lst L)) d (e:=e);exact⟨_,W,(aEE ((h d hd).2 n)).trans (by rw[dM])⟩
 have hm:((L.map (lv (.lst L)).sub).map λx=>Vl.cl x.d)=L.map Vl.cl:=by rw[Bb];exact CG λd _=>congrArg Vl.cl (dM _ _)
 rw[hm] at c;refine c.trans (congrArg R.ok ?_);have hi:(L.map Vl.cl).map (·.d)=L:=by rw[Bb];exact FM L
 have U:noLs L=true:=by
  clear c hm hi I M
  induction L with
  | nil=>rfl|cons d L ih=>rw[noLs,(h d Aj).1,ih λx q=>h x (Af _ q)];rfl
 rw[aAj (by rw[hi];exact U),hi]
theorem uE{d:D}{e:Int}(h:isI [.tList] pg d=some false):No 49 8 [.lst B,d,.int e]:=λn=>⟨_,aN (F:=f8) rfl rfl (Z:=tf B d e) (fL (yQ (iM (kM (v:=lv d) rfl h))))⟩
theorem aEH{L:List D}{e:Int}(h:L.length<1\/4<L.length):No 49 8 [.lst B,.lst L,.int e]:=λn=>⟨_,aN (F:=f8) rfl rfl (Z:=tf B (.lst L) e) (fL (aCp (n+48) (k:=false) (by
 rcases h with h|h;rw[A4 (by omega)];rfl;rw[A4 (p:=(L.length:Int)<=4) (by omega),Bool.and_false])))⟩
theorem aEI{L M:List D}{d:D}{e:Int}(U:(L++d::M).length<=4)(h:∀d∈L,Gw B e d)(I:No 48 9 [.lst B,d,.int e]):No 49 8 [.lst B,.lst (L++d::M),.int e]:=λn=>by
 obtain⟨fs,hf⟩:=I n;have W:(L++d::M).length=L.length+(M.length+1):=by rw[lA,lC]
 refine⟨fs,aN (F:=f8) rfl rfl (Z:=tf B (.lst (L++d::M)) e) (cs (cQ (aCp (n+48) (k:=true) (by rw[Ay (by omega),Ay (by omega)];rfl))) ?_)⟩;have w:=aEF (B:=B) (L:=L++d::M) (e:=e) (n+48);rw[Cz,mC] at w;have c:=tW (P:=pg) (cl:=call pg (n+48)) (Z:=tf B (.lst (L++d::M)) e) (k:=1) (caps:=[0,2]) (t:=.n 0) (elt:=aDR) (e:=.err "NoHand" fs) w (by simp only[lA,lC,lM];unfold lim;omega) (λx I=>by
  obtain⟨d,hd,rfl⟩:=Aw.mp I;obtain⟨p,q⟩:=aCo (B:=B) _ d (e:=e);exact⟨_,_,q,aEE ((h d hd).2 n)⟩) (by
  obtain⟨p,q⟩:=aCo (B:=B) _ d (e:=e);exact⟨_,q,aJH hf⟩)
 exact aCn c
structure Gr (B:List D) (e:Int) (ws:List D):Prop where
 one:1<=ws.length
 few:ws.length<=4
 ok:∀d∈ws,Gw B e d
theorem aDS{α:Type}(k:Nat)(caps:List Nat)(f:α->D):∀h:List α,dJ k caps [] (h.map λx=>Vl.mk (f x) true false [])=⟨.lst (h.map f),true,false,[]⟩:=λh=>by
 have q:(h.map λx=>Vl.mk (f x) true false []).map (·.d)=h.map f:=by rw[Bb];rfl
 have L:anyPa (h.map λx=>Vl.mk (f x) true false [])=false:=by
  clear q
  induction h with
  | nil=>rfl|cons x h I=>exact I
 have M:unionAl (h.map λx=>Vl.mk (f x) true false [])=[]:=by
  clear q L
  induction h with
  | nil=>rfl|cons x h I=>exact I
 unfold dJ;rw[q,L,M];split <;> rfl
abbrev aDT:E:=.call 8 (.cons (.v 1) (.cons (.v 0) (.cons (.bi .len (.cons (.v 2) .nil)) .nil)))
abbrev hs(p:Bool)(d:D)(B L:List D):Sg:=[.sh p d,.sh true (.lst B),.sh true (.lst L)]
theorem aCq{d:D}{L:List D}{p:Bool}(n:Nat):evs pg (call pg n) (hs p d B L) (.cons (.v 1) (.cons (.v 0) (.cons (.bi .len (.cons (.v 2) .nil)) .nil)))=.ok [⟨.lst B,false,true,[]⟩,⟨d,false,p&&!noL d,[]⟩,.cl (.int L.length)]:=rfl
theorem aCr{d:D}{L:List D}{p:Bool}{n:Nat}(h:call pg n 8 [.lst B,d,.int L.length]=.ok (d,true,false)):ev pg (call pg n) (hs p d B L) aDT=.ok ⟨d,true,false,[]⟩:=by rw[bZ,aCq,aB];show(call pg n 8 [.lst B,d,.int L.length] >>= _)=_;rw[h];rfl
theorem aHc{d x:D}{L:List D}{p:Bool}{n:Nat}(h:call pg n 8 [.lst B,d,.int L.length]=.exc x):ev pg (call pg n) (hs p d B L) aDT=.exc x:=by rw[bZ,aCq,aB];show(call pg n 8 [.lst B,d,.int L.length] >>= _)=_;rw[h];rfl
theorem vV(v:Vl)(d:D){L:List D}:∃p,aY [.dead,.sh true (.lst B),.sh true (.lst L)] (Vl.sub v d) (.n 0)=.ok (hs p d B L):=by obtain⟨p,q⟩:=gE v d;exact⟨p,by rw[eD,q];rfl⟩
abbrev hf2(B:List D)(d:D):Sg:=[.sh true (.lst B),.sh true d]
theorem aCs{L:List D}(n:Nat):walk pg (call pg n) (hf2 B (.lst L)) (.seq (.v 1))=.ok (L.map (lv (.lst L)).sub,[]):=rfl
theorem vW{L:List D}(n:Nat){k:Bool}(h:decide ((8:Int)<L.length)=k):tst pg (call pg n) (hf2 B (.lst L)) (.orr (.nt (.isi (.v 1) [.tList])) (.cmp .Gt (.bi .len (.cons (.v 1) .nil)) (.c (.int 8))))=.ok k:=
 jU rfl ((aJG (x:=L.length) rfl (aP _)).trans (congrArg R.ok h))
theorem aHd{h:List (List D)}(W:h.length<=8)(o:∀ws∈h,Gr B h.length ws)(n:Nat):call pg (n+50) 7 [.lst B,.lst (h.map .lst)]=.ok (.lst (h.map .lst),true,false):=by
 have q:(h.map D.lst).length=h.length:=lM _;refine aX (F:=f7) rfl rfl (v:=⟨.lst (h.map .lst),true,false,[]⟩) (cs (cQ (vW (n+49) (A4 (by omega)))) (eO ?_));have c:=qW (P:=pg) (cl:=call pg (n+49)) (Z:=hf2 B (.lst (h.map .lst))) (k:=1) (caps:=[0,1]) (t:=.n 0) (elt:=aDT) (λx=>⟨x.d,true,false,[]⟩) (aCs (n+49)) (by rw[lM];unfold lim;omega) λx U=>by obtain⟨d,hd,rfl⟩:=Aw.mp U;obtain⟨ws,M,rfl⟩:=Aw.mp hd;obtain⟨p,I⟩:=vV (B:=B) (lv (.lst (h.map .lst))) (.lst ws) (L:=h.map .lst);have g:=o ws M;rw[<-q] at g;exact⟨_,I,(aCr (aEG g.one g.few g.ok n)).trans (by rw[dM])⟩
 have hm:((h.map D.lst).map (lv (.lst (h.map .lst))).sub).map (λx=>(⟨x.d,true,false,[]⟩:Vl))=h.map λws=>Vl.mk (.lst ws) true false []:=by rw[Bb,Bb];exact CG λd _=>congrArg (λd=>(⟨d,true,false,[]⟩:Vl)) (dM _ _)
 rw[hm,aDS] at c;exact c
theorem jV{d:D}(h:isI [.tList] pg d=some false):No 50 7 [.lst B,d]:=λn=>⟨_,aN (F:=f7) rfl rfl (Z:=hf2 B d) (fL (yQ (iM (kM (v:=lv d) rfl h))))⟩
theorem aCt{L:List D}(h:8<L.length):No 50 7 [.lst B,.lst L]:=λn=>⟨_,aN (F:=f7) rfl rfl (Z:=hf2 B (.lst L)) (fL (vW (n+49) (Ay (by omega))))⟩
theorem aHe{h:List (List D)}{M:List D}{d:D}{z:Nat}(hz:h.length+(M.length+1)=z)(h8:z<=8)(o:∀ws∈h,Gr B z ws)(I:No 49 8 [.lst B,d,.int z]):No 50 7 [.lst B,.lst (h.map .lst++d::M)]:=λn=>by
 obtain⟨fs,hf⟩:=I n;have U:(h.map D.lst++d::M).length=z:=by rw[lA,lC,lM];exact hz
 rw[<-U] at hf;refine⟨fs,aN (F:=f7) rfl rfl (Z:=hf2 B (.lst (h.map .lst++d::M))) (cs (cQ (vW (n+49) (A4 (by omega)))) ?_)⟩;have w:=aCs (B:=B) (L:=h.map .lst++d::M) (n+49);rw[Cz,mC] at w;have c:=tW (P:=pg) (cl:=call pg (n+49)) (Z:=hf2 B (.lst (h.map .lst++d::M))) (k:=1) (caps:=[0,1]) (t:=.n 0) (elt:=aDT) (e:=.err "NoHand" fs) w (by simp only[lA,lC,lM];unfold lim;omega) (λx I=>by
  obtain⟨d,hd,rfl⟩:=Aw.mp I;obtain⟨ws,W,rfl⟩:=Aw.mp hd;obtain⟨p,q⟩:=vV (B:=B) _ (.lst ws) (L:=h.map .lst++_::M);have g:=o ws W;rw[<-U] at g;exact⟨_,_,q,aCr (aEG g.one g.few g.ok n)⟩) (by
  obtain⟨p,q⟩:=vV (B:=B) _ d (L:=h.map .lst++d::M);exact⟨_,q,aHc hf⟩)
 exact aCn c
theorem aDU{d:D}(h:No 50 7 [.lst B,d])(n:Nat):call pg (n+51) 21 [.lst B,d]=.ok (.bl true,false,false):=by
 obtain⟨fs,hf⟩:=h n;have q:exs pg (call pg (n+50)) [.sh true (.lst B),.sh true d,.sh false .non,.dead] (.cons (.ex (.call 7 (.cons (.v 0) (.cons (.v 1) .nil)))) .nil)=.exc (.err "NoHand" fs) [.sh true (.lst B),.sh true d,.sh false .non,.dead]:=kK (vs:=[⟨.lst B,false,true,[]⟩,lv d]) rfl hf;have I:ex pg (call pg (n+50)) [.sh true (.lst B),.sh true d,.sh false .non,.dead] (hdS (drp 1 f21.body))=.next [.sh true (.lst B),.sh true d,.sh true (.err "NoHand" fs),.dead]:=by show ex _ _ _ (.tryAs _ _ _ _)=_;rw[aGS,q];rfl
 exact aX (F:=f21) rfl rfl (v:=.cl (.bl true)) (cs (dL (aP _)) (cs I rfl))
theorem al0{p:D->Prop}:∀d∈([]:List D),p d:=λ_ h=>nomatch h
theorem al1{p:D->Prop}{a:D}{l:List D}(h:p a)(r:∀d∈l,p d):∀d∈a::l,p d:=Ez.mpr ⟨h,r⟩
theorem al2{p:D->Prop}{a b:List D}(h:∀d∈a,p d)(r:∀d∈b,p d):∀d∈a++b,p d:=λd z=>(Bc.mp z).elim (h d) (r d)
noncomputable def mS:Nat->Sm
 | 0=>.num 0|t+1=>.two true (mS t) (.num 0)
noncomputable def mCo:Nat->Cn
 | 0=>.yes|t+1=>.nt (mCo t)
theorem pD{c:Nat}:∀t,(mS t).wf c true
 | 0=>(show(0:Int)<=0/\(0:Int)<=99 by decide)
 | t+1=>⟨pD t,(show(0:Int)<=0/\(0:Int)<=99 by decide)⟩
theorem aCu{c:Nat}:∀t,(mCo t).wf c true
 | 0=>trivial|t+1=>aCu t
theorem aJJ{P:Pg}{cl:Caller}{Z:Sg}{i:Nat}{p:Bool}{d:D}{v:Vl}{ss:Ss}(h:Z[i]? = some (.sh p d))(g:Sl.val i (.sh p d)=.ok v):exs P cl Z (.cons (.retv i) ss)=.ret v:=by show O.on (match Z[i]? with|some (.own pa ds)=>O.ret ⟨.lst ds,true,pa,[]⟩|_=>O.from Z (bJ Z i) .ret) _=_;unfold bJ;rw[h];show O.on (O.from Z (Sl.val i (.sh p d)) .ret) _=_;rw[g];rfl
theorem aLs{m:Int}{t:Nat}(h:m / 2=(t:Int)):opD .FloorDiv (.cl (.int m)) (.cl (.int 2))=.ok (.cl (.int (t:Int))):=by rw[cL (by decide),h]
theorem sub1{m:Int}{t:Nat}(h:m-1=(t:Int)):opD .Sub (.cl (.int m)) (.cl (.int 1))=.ok (.cl (.int (t:Int))):=by rw[sub_int,h]
theorem aHf(n:Nat){m:Int}{t:Nat}(h:m / 2=(t:Int))(L:t<=1000):call pg (n+1) 23 [.int m]=.ok ((mS t).d,false,false):=by
 have w:=mT (v:=.cl (.int (t:Int))) (P:=pg) (cl:=call pg n) (Z:=[.sh true (.int m),.sh false (mS 0).d,.dead]) (a:=.op .FloorDiv (.v 0) (.c (.int 2))) (dB rfl (aP _) (aLs h)) rfl (by omega);obtain⟨Z',e,I⟩:=qX (t:=.n 2) (b:=(.cons (.set (.n 1) (.tup (.cons (.c (.str "plus")) (.cons (.v 1) (.cons (.tup (.cons (.c (.str "number")) (.cons (.c (.int 0)) .nil))) .nil))))) .nil)) (λi Z=>∃s,Z=[.sh true (.int m),.sh false (mS i).d,s]) w ⟨_,rfl⟩ (λi hi Z ⟨s,q⟩=>by
  subst q;refine⟨[.sh true (.int m),.sh false (mS i).d,.sh false (.int (i:Int))],[.sh true (.int m),.sh false (mS (i+1)).d,.sh false (.int (i:Int))],by rw[Dg,Fc,eD];rfl,iY (dL (iD (aP _) (bD 1 _) rfl)),_,rfl⟩)
 obtain⟨s,rfl⟩:=I;rw[lM,DB] at e;exact aX (F:=f23) rfl rfl (v:=.cl (mS t).d) (cs rfl (cs e (aJJ rfl (bD 1 _))))
theorem aHg(n:Nat){m:Int}{t:Nat}(h:m-1=(t:Int))(L:t<=1000):call pg (n+1) 22 [.int m]=.ok ((mCo t).d,false,false):=by
 have w:=mT (v:=.cl (.int (t:Int))) (P:=pg) (cl:=call pg n) (Z:=[.sh true (.int m),.sh false (mCo 0).d,.dead]) (a:=.op .Sub (.v 0) (.c (.int 1))) (dB rfl (aP _) (sub1 h)) rfl (by omega);obtain⟨Z',e,I⟩:=qX (t:=.n 2) (b:=(.cons (.set (.n 1) (.tup (.cons (.c (.str "not")) (.cons (.v 1) .nil)))) .nil)) (λi Z=>∃s,Z=[.sh true (.int m),.sh false (mCo i).d,s]) w ⟨_,rfl⟩ (λi hi Z ⟨s,q⟩=>by
  subst q;refine⟨[.sh true (.int m),.sh false (mCo i).d,.sh false (.int (i:Int))],[.sh true (.int m),.sh false (mCo (i+1)).d,.sh false (.int (i:Int))],by rw[Dg,Fc,eD];rfl,iY (dL (rF (aP _) (bD 1 _))),_,rfl⟩)
 obtain⟨s,rfl⟩:=I;rw[lM,DB] at e;exact aX (F:=f22) rfl rfl (v:=.cl (mCo t).d) (cs rfl (cs e (aJJ rfl (bD 1 _))))
theorem uF{n:Nat}{Z:Sg}{m:Int}{t:Nat}(h:m / 2=(t:Int))(q:t<=1000):ev pg (call pg (n+1)) Z (.call 23 (.cons (.c (.int m)) .nil))=.ok (.cl (mS t).d):=rG (aP _) (aHf n h q)
theorem aEJ{n:Nat}{Z:Sg}{m:Int}{t:Nat}(h:m-1=(t:Int))(q:t<=1000):ev pg (call pg (n+1)) Z (.call 22 (.cons (.c (.int m)) .nil))=.ok (.cl (mCo t).d):=rG (aP _) (aHg n h q)
theorem c_l{P:Pg}{cl:Caller}{Z:Sg}{es:Es}{ds:List D}(h:evs P cl Z es=.ok (ds.map .cl)):ev P cl Z (.lst es)=.ok ⟨.lst ds,true,false,[]⟩:=by
 rw[eI,h];have q:(ds.map Vl.cl).map (·.d)=ds:=by rw[Bb];exact FM ds
 have L:anyPa (ds.map Vl.cl)=false:=by
  clear q h
  induction ds with
  | nil=>rfl|cons x h I=>exact I
 have M:unionAl (ds.map Vl.cl)=[]:=by
  clear q L h
  induction ds with
  | nil=>rfl|cons x h I=>exact I
 show R.ok (⟨.lst ((ds.map Vl.cl).map (·.d)),true,anyPa (ds.map Vl.cl),unionAl (ds.map Vl.cl)⟩:Vl)=_;rw[q,L,M]
theorem l_c{P:Pg}{cl:Caller}{Z:Sg}{e:E}{es:Es}{d:D}{ds:List D}(h:ev P cl Z e=.ok (.cl d))(r:evs P cl Z es=.ok (ds.map .cl)):evs P cl Z (.cons e es)=.ok ((d::ds).map .cl):=by rw[aE,h,aB,r];rfl
theorem l_n{P:Pg}{cl:Caller}{Z:Sg}:evs P cl Z .nil=.ok (([]:List D).map .cl):=rfl
abbrev nD(i:Int):D:=.tup [.str "number",.int i]
abbrev xD(i:Int):D:=.tup [.str "box",.int i]
noncomputable def S1(far:Int):List D:=[nD (-1),nD 100,nD (100+far),.tup [.str "number",.bl true],.tup [.str "number",.str "1"],.tup [.str "number"]]
noncomputable def S2(c far:Int):List D:=[.tup [.str "number",.int 1,.int 1],xD c,xD (-1),.tup [.str "box",.bl false],xD (c+far)]
noncomputable def S3:List D:=[.tup [.str "box",.str "a"],.tup [.str "after",.int 0],.tup [.str "plus",nD 1],.tup [.str "plus",nD 1,.int 1],.tup [.str "times"],.tup []]
noncomputable def S4:List D:=[.tup [.str "minus",xD 0,.tup [.str "after",.int 0]],.lst [.str "number",.int 1],.non,.int 1,.tup [.str "yes"]]
noncomputable def S5:List D:=[.tup [.str "sum",xD 0,xD 0]]
noncomputable def S6:List D:=[.tup [.str "minus",xD 0,xD 0,xD 0],(mS 20).d,.tup [.lst [],.int 1]]
noncomputable def badS(c far:Int):List D:=S1 far++S2 c far++S3++S4++S5++S6
theorem rK{P:Pg}{cl:Caller}{Z:Sg}{i:Nat}{L A:List D}{e:E}{pa:Bool}{al:List Nat}{fr:Bool}(h:Z[i]? = some (.own false L))(I:ev P cl Z e=.ok ⟨.lst A,fr,pa,al⟩)(M:L.length+A.length<=1000) :
 ∃pa' q,ev P cl Z (.op .Add (.v i) e)=.ok ⟨.lst (L++A),true,pa',q⟩/\(pa=false->pa'=false):=by have hd:decide (L.length+A.length<=lim)=true:=Ay (by unfold lim;omega);refine⟨(false&&!noLs L)||(pa&&!noLs A),(if noLs L then [] else [i])++(if noLs A then [] else al),?_,λz=>by rw[z];rfl⟩;rw[dX,dW,bJ,h];show(R.ok (⟨.lst L,false,false,[i]⟩:Vl) >>= _)=_;rw[aB,I,aB];show R.iff (decide (L.length+A.length<=lim)) _=_;rw[hd];rfl
variable {B:List D}
theorem nH(n:Nat)(q:Int):call pg (n+2) 24 [.lst B,.int q]=.ok (.lst (badS B.length q),true,false):=by obtain⟨pa,al,e,I⟩:=rK (P:=pg) (cl:=call pg (n+1)) (Z:=[.sh true (.lst B),.sh true (.int q),.own false (S1 q++S2 B.length q++S3++S4++S5)]) (i:=2) (A:=S6) (e:=.lst (.cons (.tup (.cons (.c (.str "minus")) (.cons (.tup (.cons (.c (.str "box")) (.cons (.c (.int 0)) .nil))) (.cons (.tup (.cons (.c (.str "box")) (.cons (.c (.int 0)) .nil))) (.cons (.tup (.cons (.c (.str "box")) (.cons (.c (.int 0)) .nil))) .nil))))) (.cons (.call 23 (.cons (.c (.int 41)) .nil)) (.cons (.tup (.cons (.lst .nil) (.cons (.c (.int 1)) .nil))) .nil)))) rfl (c_l (l_c rfl (l_c (uF (by decide) (by decide)) (l_c rfl l_n)))) (show 23+3<=1000 by decide);cases I rfl;refine aX (F:=f24) rfl rfl (v:=⟨.lst (badS B.length q),true,false,al⟩) ?_;refine cs (Z':=[.sh true (.lst B),.sh true (.int q),.own false (S1 q)]) rfl ?_;refine cs (dF (A:=S2 B.length q) rfl rfl (show 6+5<=1000 by decide)) ?_;refine cs (dF (A:=S3) rfl rfl (show 11+6<=1000 by decide)) ?_;refine cs (dF (A:=S4) rfl rfl (show 17+5<=1000 by decide)) ?_;exact cs (aJz (v:=.cl (.tup [.str "sum",xD 0,xD 0])) (pa:=false) (ds:=S1 q++S2 B.length q++S3++S4) rfl rfl (show 22<lim by decide)) (eO e)
theorem bS{d:D}(f:uA true "sum" d):X B "sum" d:=.bad f
theorem nI(h1:1<=B.length){q:Int}(hf:0<=q):∀d∈badS B.length q,X B "sum" d:=by have W:Tt B "sum" (nD 1):=tS (s:=.num 1) rfl (show(0:Int)<=1/\(1:Int)<=99 by decide);have U:Tt B "sum" (xD 0):=tS (s:=.box 0) rfl (show 0<B.length by omega);have I:∀{i:Int},i<0\/99<i->X B "sum" (nD i):=λh=>.num (yM _) aDO (yO (by rw[aEs,if_pos rfl];exact h));have L:∀{i:Int},i<0\/(B.length:Int)-1<i->X B "sum" (xD i):=λh=>.num (yN _) aCd (yO (by rw[aCe,if_neg bN];exact h));have M:X B "sum" (.tup [.str "after",.int 0]):=bS λn=>rfl;refine al2 (al2 (al2 (al2 (al2 ?_ ?_) ?_) ?_) ?_) ?_;exact al1 (I (by omega)) (al1 (I (by omega)) (al1 (I (by omega)) (al1 (.num (yM _) aDO λn=>rfl) (al1 (.num (yM _) aDO λn=>rfl) (al1 (bS λn=>rfl) al0)))));exact al1 (bS λn=>rfl) (al1 (L (by omega)) (al1 (L (by omega)) (al1 (.num (yN _) aCd λn=>rfl) (al1 (L (by omega)) al0))));exact al1 (.num (yN _) aCd λn=>rfl) (al1 M (al1 (bS λn=>rfl) (al1 (.two (uD true _ _) rS W (bS λn=>rfl)) (al1 (bS λn=>rfl) (al1 (bS λn=>rfl) al0)))));exact al1 (.two (uD false _ _) rS U M) (al1 (bS λn=>rfl) (al1 (bS λn=>rfl) (al1 (bS λn=>rfl) (al1 (bS λn=>rfl) al0))));exact al1 (bS λn=>rfl) al0;exact al1 (bS λn=>rfl) (al1 (xS rfl (pD 20) (by decide)) (al1 (bS λn=>rfl) al0))
section
variable {P:Pg} {cl:Caller} {Z:Sg} {e:E} {es:Es} {d:D} {ds:List D}
noncomputable def Ev(P:Pg)(cl:Caller)(Z:Sg)(e:E)(d:D):Prop:=∃v:Vl,v.d=d/\ev P cl Z e=.ok v
noncomputable def Evs(P:Pg)(cl:Caller)(Z:Sg)(es:Es)(ds:List D):Prop:=∃vs:List Vl,vs.map (·.d)=ds/\evs P cl Z es=.ok vs
theorem Ev.of{v:Vl}(h:ev P cl Z e=.ok v):Ev P cl Z e v.d:=⟨v,rfl,h⟩
theorem e_n:Evs P cl Z .nil []:=⟨[],rfl,rfl⟩
theorem e_c(h:Ev P cl Z e d)(r:Evs P cl Z es ds):Evs P cl Z (.cons e es) (d::ds):=by obtain⟨v,rfl,h⟩:=h;obtain⟨vs,rfl,r⟩:=r;exact⟨v::vs,rfl,by rw[aE,h,aB,r];rfl⟩
theorem uG(h:Evs P cl Z es ds):∃p al,ev P cl Z (.tup es)=.ok ⟨.tup ds,false,p,al⟩:=by obtain⟨vs,rfl,h⟩:=h;exact⟨_,_,by rw[qU,h];rfl⟩
theorem e_t(h:Evs P cl Z es ds):Ev P cl Z (.tup es) (.tup ds):=by obtain⟨p,al,h⟩:=uG h;exact⟨_,rfl,h⟩
theorem yU(h:Evs P cl Z es ds):∃p al,ev P cl Z (.lst es)=.ok ⟨.lst ds,true,p,al⟩:=by obtain⟨vs,rfl,h⟩:=h;exact⟨_,_,by rw[eI,h];rfl⟩
theorem e_v(i:Nat){p:Bool}(h:Z[i]? = some (.sh p d)):Ev P cl Z (.v i) d:=⟨⟨d,false,p&&!noL d,[]⟩,rfl,by rw[dW,bJ,h];rfl⟩
theorem iE{i:Nat}{p:Bool}{L:List D}{x:Int}(h:Z[i]? = some (.own p L))(I:ev P cl Z e=.ok (.cl (.int x)))(hl:0<L.length):∃d∈L,Ev P cl Z (.idx (.v i) (.op .Mod e (.bi .len (.cons (.v i) .nil)))) d:=by
 have U:0<=x % (L.length:Int):=CL _ (by omega);have W:x % (L.length:Int)<(L.length:Int):=Cs _ (by omega);obtain⟨j,M⟩:∃j:Nat,x % (L.length:Int)=j:=⟨(x % (L.length:Int)).toNat,by omega⟩
 have q:j<L.length:=by omega
 have v:ev P cl Z (.v i)=.ok ⟨.lst L,false,p,[i]⟩:=by rw[dW,bJ,h];rfl
 have m1:opD .Mod (.cl (.int x)) (.cl (.int (L.length:Int)))=.ok (.cl (.int (j:Int))):=by rw[eE (by omega),M]
 exact⟨L[j],Bl q,_,dM _ _,jQ v (dB I (kH v (fH ..)) m1) (rE rfl q)⟩
theorem aCv{L:List D}{x:Int}{k:Nat}{a:E}{w:Vl}(I:ev P cl Z a=.ok w)(W:w.d=.lst L)(M:ev P cl Z e=.ok (.cl (.int x)))(hl:L.length=k)(h0:0<k):∃d∈L,ev P cl Z (.idx a (.op .Mod e (.c (.int (k:Int)))))=.ok (w.sub d):=by
 have g0:0<=x % (k:Int):=CL _ (by omega);have g1:x % (k:Int)<(k:Int):=Cs _ (by omega);obtain⟨j,U⟩:∃j:Nat,x % (k:Int)=j:=⟨(x % (k:Int)).toNat,by omega⟩
 have q:j<L.length:=by omega
 have m1:opD .Mod (.cl (.int x)) (.cl (.int (k:Int)))=.ok (.cl (.int (j:Int))):=by rw[eE (by omega),U]
 exact⟨L[j],Bl q,jQ I (dB M (aP ..) m1) (rE W q)⟩
theorem gG{i:Nat}{p:Bool}{L:List D}(h:ev P cl Z e=.ok ⟨.lst L,true,p,[]⟩):ex P cl Z (.set (.n i) e)=.next (Z.set i (.own p L)):=by rw[fF,h];rfl
theorem rL{f:Nat}{vs:List Vl}{fr pa:Bool}(L:evs P cl Z es=.ok vs)(q:unionAl vs=[])(I:cl f (vs.map (·.d))=.ok (d,fr,pa)):∃p,ev P cl Z (.call f es)=.ok ⟨d,fr,p,[]⟩:=by
 rw[bZ,L,aB,I,aB];cases pa with
 | false=>exact⟨false,rfl⟩|true=>exact⟨anyPa vs,by show R.ok (⟨d,fr,anyPa vs,unionAl vs⟩:Vl)=_;rw[q]⟩
theorem aCw{a:E}{i j:Int}{b:Bool}(h:ev P cl Z a=.ok (.cl (.int i)))(q:(i==j)=b):tst P cl Z (.cmp .Eq a (.c (.int j)))=.ok b:=by rw[cF,h,aB,aP,aB,dI,dI,gC,gR,q]
end
variable {B:List D}
abbrev yD:D:=.tup [.str "yes"]
noncomputable def G1:List D:=[.tup [.str "is",nD 1],.tup [.str "is",nD 1,nD 1,nD 1],.tup [.str "less",nD 1,.tup [.str "after",.int 0]],.tup [.str "yes",nD 1],.tup [.str "no"],.tup [.str "not"],nD 1]
noncomputable def G2:List D:=[.tup [.str "not",nD 1],.tup [.str "both",yD,nD 1],.tup [.str "both",yD],.lst [.str "yes"],.str "yes",.non,.bl true,.tup [],.int 1]
noncomputable def G3:List D:=[.tup [.str "either",yD,yD,yD],.tup [.str "is",yD,nD 1],(mCo 40).d,.tup [.int 1]]
noncomputable def G4:List D:=[.tup [.str "is",(mS 19).d,nD 1],.tup [.str "not",.tup [.str "both",yD,.tup [.str "less",nD 1,(mS 18).d]]]]
noncomputable def G5(x y:D):List D:=[.tup [.str "less",x,nD 1],.tup [.str "not",.tup [.str "is",nD 1,y]]]
theorem aCx:∀d∈G1++G2++G3++G4,X B "cond" d:=by
 have I:Tt B "sum" (nD 1):=tS (s:=.num 1) rfl (show(0:Int)<=1/\(1:Int)<=99 by decide);have L:Tt B "cond" yD:=λs h=>by by_cases q:s=40;subst q;exact⟨_,.many⟩;exact⟨_,.nul (by omega) aEr⟩
 have b:∀{d:D},uA true "cond" d->X B "cond" d:=.bad;refine al2 (al2 (al2 ?_ ?_) ?_) ?_;exact al1 (b λn=>rfl) (al1 (b λn=>rfl) (al1 (.two (vS false _ _) rS I (bS λn=>rfl)) (al1 (b λn=>rfl) (al1 (b λn=>rfl) (al1 (b λn=>rfl) (al1 (b λn=>rfl) al0))))));exact al1 (.un (yL _) rC (b λn=>rfl)) (al1 (.two (rD true _ _) rC L (b λn=>rfl)) (al1 (b λn=>rfl) (al1 (b λn=>rfl) (al1 (b λn=>rfl) (al1 (b λn=>rfl) (al1 (b λn=>rfl) (al1 (b λn=>rfl) (al1 (b λn=>rfl) al0))))))));exact al1 (b λn=>rfl) (al1 (.one (vS true _ _) rS (bS λn=>rfl)) (al1 (xC rfl (aCu 40) (by decide)) (al1 (b λn=>rfl) al0)));exact al1 (xC rfl (s:=.cmp true (mS 19) (.num 1)) ⟨pD 19,(show(0:Int)<=1/\(1:Int)<=99 by decide)⟩ (by decide)) (al1 (xC rfl (s:=.nt (.two true .yes (.cmp false (.num 1) (mS 18)))) ⟨trivial,(show(0:Int)<=1/\(1:Int)<=99 by decide),pD 18⟩ (by decide)) al0)
theorem aCy(M:1<=B.length)(n:Nat){q:Int}(hf:0<=q):∃L pa,call pg (n+3) 25 [.lst B,.int q]=.ok (.lst L,true,pa)/\0<L.length/\∀d∈L,X B "cond" d:=by
 let fr:Sl->Sl->Sg:=λs t=>[.sh true (.lst B),.sh true (.int q),.sh false (nD 1),s,t]
 have W:opD .FloorDiv (.cl (.int q)) (.cl (.int 3))=.ok (.cl (.int (q / 3))):=cL (by decide)
 let bad:Sl:=.own false (badS B.length q)
 obtain⟨x,hx,ex⟩:=iE (P:=pg) (cl:=call pg (n+2)) (Z:=fr (.own false (G1++G2++G3++G4)) bad) (i:=4) (e:=.v 1) (x:=q) rfl rfl (show 0<26 by decide);obtain⟨y,hy,ey⟩:=iE (P:=pg) (cl:=call pg (n+2)) (Z:=fr (.own false (G1++G2++G3++G4)) bad) (i:=4) (e:=.op .FloorDiv (.v 1) (.c (.int 3))) (x:=q / 3) rfl (dB rfl (aP _) W) (show 0<26 by decide);have n1:Tt B "sum" (nD 1):=tS (s:=.num 1) rfl (show(0:Int)<=1/\(1:Int)<=99 by decide);obtain⟨p,al,el⟩:=yU (ds:=G5 x y) (e_c (e_t (e_c (.of (aP (.str "less"))) (e_c ex (e_c (e_v 2 rfl) e_n)))) (e_c (e_t (e_c (.of (aP (.str "not"))) (e_c (e_t (e_c (.of (aP (.str "is"))) (e_c (e_v 2 rfl) (e_c ey e_n)))) e_n))) e_n));obtain⟨U,I,er,_⟩:=rK (i:=3) (L:=G1++G2++G3++G4) rfl el (show 22+2<=1000 by decide);refine⟨G1++G2++G3++G4++G5 x y,U,aX (F:=f25) rfl rfl (v:=⟨_,true,U,I⟩) ?_,(show 0<24 by decide),al2 aCx (al1 ?_ (al1 ?_ al0))⟩;refine cs (dL (d:=nD 1) rfl) (cs (Z':=fr (.own false G1) .dead) rfl (cs (dF (A:=G2) rfl rfl (show 7+9<=1000 by decide)) (cs (dF (A:=G3) rfl (c_l (l_c rfl (l_c rfl (l_c (aEJ (by decide) (by decide)) (l_c rfl l_n))))) (show 16+4<=1000 by decide)) (cs (dF (A:=G4) rfl (c_l (l_c (iD (aP _) (uF (by decide) (by decide)) rfl) (l_c (rF (aP _) (iD (aP _) rfl (iD (aP _) rfl (uF (by decide) (by decide))))) l_n))) (show 20+2<=1000 by decide)) (cs (Z':=fr (.own false (G1++G2++G3++G4)) bad) ?_ (eO er))))));exact gG (gF (x:=⟨.lst B,false,true,[]⟩) (y:=.cl (.int q)) rfl rfl (nH n q));exact .one (vS false _ _) rS (nI M hf x hx);exact .un (yL _) rC (.two (vS true _ _) rS n1 (nI M hf y hy))
variable {B:List D}
abbrev oD:D:=nD 0
noncomputable def P1(l:Int):List D:=[.lst [.tup [.int 0,oD]],.non,oD,.tup [.tup [.int 0,oD],.tup [.int 0,oD]],.tup [.tup [.int l,oD],.tup [.int 0,oD]],.tup [.tup [.int (l+1),oD]],.tup [.tup [.int (-1),oD]]]
noncomputable def P2:List D:=[.tup [.tup [.bl false,oD]],.tup [.tup [.int 0]],.tup [.tup [.int 0,oD,oD]],.tup [.lst [.int 0,oD]],.tup [.tup [.int 0,oD],.non]]
noncomputable def P3(far:Int):List D:=[.tup [.tup [.str "0",oD]],.tup [.tup [.int (far+9),oD]]]
noncomputable def P4(l:Int)(x y:D):List D:=[.tup [.tup [.int 0,x]],.tup [.tup [.int l,y]]]
theorem aEK(q:1<=B.length){s:D}(h:X B "sum" s):No 47 11 [.lst B,.tup [.tup [.int 0,s]]]:=cV (.hd (aEz (Int.le_refl 0) (by omega) h))
theorem aHh(I:1<=B.length)(U:B.length<=4){q:Int}(hf:0<=q){x y:D}(L:X B "sum" x)(M:X B "sum" y):∀d∈P1 ((B.length:Int)-1)++P2++P3 q++P4 ((B.length:Int)-1) x y,No 47 11 [.lst B,d]:=by have o:Lk B true "sum" oD 0 (.ok 1):=lkS rfl (.num 0) 0 1 (show(0:Int)<=0/\(0:Int)<=99 by decide) rfl (by decide);have g:∀{i:Int},0<=i->i<B.length->Ok 46 12 [.lst B,.tup [.int i,oD],.int 0]:=λa b=>aEx a b o;have w:∀{i l:Int} {r:List D},i<l\/(B.length:Int)-1<i->Px B l (.tup [.int i,oD]::r):=λh=>.hd (aCk (iZ h));refine al2 (al2 (al2 ?_ ?_) ?_) ?_;exact al1 (aCl rfl) (al1 (aCl rfl) (al1 (cV (.hd (aCj rfl))) (al1 (cV (.tl (g (by omega) (by omega)) (w (by omega)))) (al1 (cV (.tl (g (by omega) (by omega)) (w (by omega)))) (al1 (cV (w (by omega))) (al1 (cV (w (by omega))) al0))))));exact al1 (cV (.hd (aCk λn=>rfl))) (al1 (cV (.hd (aEy (by decide)))) (al1 (cV (.hd (aEy (by decide)))) (al1 (cV (.hd (aCj rfl))) (al1 (cV (.tl (g (by omega) (by omega)) (.hd (aCj rfl)))) al0))));exact al1 (cV (.hd (aCk λn=>rfl))) (al1 (cV (w (by omega))) al0);exact al1 (aEK I L) (al1 (cV (.hd (aEz (by omega) (by omega) M))) al0)
theorem aCz(M:1<=B.length)(h4:B.length<=4)(n:Nat){q:Int}(hf:0<=q):∃L pa,call pg (n+3) 26 [.lst B,.int q]=.ok (.lst L,true,pa)/\0<L.length/\∀d∈L,No 47 11 [.lst B,d]:=by
 let l:Int:=(B.length:Int)-1
 let fr:Sl->Sl->Sg:=λs t=>[.sh true (.lst B),.sh true (.int q),.sh false oD,.sh false (.int l),s,t]
 have W:opD .FloorDiv (.cl (.int q)) (.cl (.int 5))=.ok (.cl (.int (q / 5))):=cL (by decide)
 let bad:Sl:=.own false (badS B.length q)
 obtain⟨x,hx,ex⟩:=iE (P:=pg) (cl:=call pg (n+2)) (Z:=fr (.own false (P1 l++P2++P3 q)) bad) (i:=5) (e:=.v 1) (x:=q) rfl rfl (show 0<26 by decide);obtain⟨y,hy,ey⟩:=iE (P:=pg) (cl:=call pg (n+2)) (Z:=fr (.own false (P1 l++P2++P3 q)) bad) (i:=5) (e:=.op .FloorDiv (.v 1) (.c (.int 5))) (x:=q / 5) rfl (dB rfl (aP _) W) (show 0<26 by decide);obtain⟨p,al,el⟩:=yU (ds:=P4 l x y) (e_c (e_t (e_c (e_t (e_c (.of (aP (.int 0))) (e_c ex e_n))) e_n)) (e_c (e_t (e_c (e_t (e_c (e_v 3 rfl) (e_c ey e_n))) e_n)) e_n));obtain⟨U,I,er,_⟩:=rK (i:=4) (L:=P1 l++P2++P3 q) rfl el (show 14+2<=1000 by decide);refine⟨P1 l++P2++P3 q++P4 l x y,U,aX (F:=f26) rfl rfl (v:=⟨_,true,U,I⟩) ?_,(show 0<16 by decide),aHh M h4 hf (nI M hf x hx) (nI M hf y hy)⟩;refine cs (dL (d:=oD) rfl) (cs (dL (d:=.int l) rfl) (cs (Z':=fr (.own false (P1 l)) .dead) rfl (cs (dF (A:=P2) rfl rfl (show 7+5<=1000 by decide)) (cs (dF (A:=P3 q) rfl rfl (show 12+2<=1000 by decide)) (cs (Z':=fr (.own false (P1 l++P2++P3 q)) bad) ?_ (eO er))))));exact gG (gF (x:=⟨.lst B,false,true,[]⟩) (y:=.cl (.int q)) rfl rfl (nH n q))
variable {B:List D}
theorem aJK{a:D}{r:List D}(h:isI [.tStr] pg a=some false):uA true "cond" (.tup (a::r)):=λn=>by
 have q:ev pg (call pg n) [.sh true (.str "cond"),.sh true (.tup (a::r)),.sh true (.bl true),.dead,.dead] (.idx (.v 1) (.c (.int 0)))=.ok (Vl.sub (lv (.tup (a::r))) a):=jQ rfl (aP _) (by
  show(match ixN (a::r).length 0 with|some j=>(match (a::r)[j]? with|some d=>R.ok (Vl.sub (lv (.tup (a::r))) d)|none=>.bad)|none=>.bad)=_;rw[show ixN (a::r).length 0=some 0 from cU (k:=0) (by simp)];rfl)
 exact aN (F:=f5) rfl rfl (Z:=[.sh true (.str "cond"),.sh true (.tup (a::r)),.sh true (.bl true),.dead,.dead]) (fL (jU rfl (jU (aCw (i:=(a::r).length) rfl (beq_eq_false_iff_ne.mpr (by rw[lC];omega))) (iM (kM (k:=false) q (by rw[dM];exact h))))))
noncomputable def W2(e far:Int):List D:=[.int (-1),.int (e+1),.bl true,.non,.str "0",.int (e+1+far),.tup [.int 0]]
noncomputable def W4(g p x:D):List D:=[.lst [g,p,x],.tup [g,p],.tup [g,p,x,.int 0],.non,.tup [],.int 7,.tup [p,g,x]]
theorem kR{P:Pg}{cl:Caller}{Z:Sg}{e:E}{d:D}(h:ev P cl Z e=.ok (.cl d)):Ev P cl Z e d:=⟨_,rfl,h⟩
theorem aCA(h1:1<=B.length)(h4:B.length<=4)(n:Nat){g p x:D}{e m:Int}(he:0<=e)(hm:0<=m)(nl:noL (.tup [g,p,x])=true)(hg:Ok 46 10 [.lst B,g])(hp:Ok 47 11 [.lst B,p])(hb:X B "cond" p) :
 ∃d pa,call pg (n+4) 27 [.lst B,.tup [g,p,x],.int (e+1),.int m]=.ok (d,false,pa)/\No 48 9 [.lst B,d,.int e]:=by
 let fr:Sl->Sg:=λs=>[.sh true (.lst B),.sh true (.tup [g,p,x]),.sh true (.int (e+1)),.sh true (.int m),.sh false (.int (m / 12)),.sh false (.int (m / 5)),s]
 have W:noL g=true/\noL p=true/\noL x=true:=by simpa[noL,noLs] using nl
 have x1:∀s,ev pg (call pg (n+3)) (fr s) (.v 1)=.ok (.cl (.tup [g,p,x])):=λs=>yC 1 true nl;have g0:∀s,ev pg (call pg (n+3)) (fr s) (.idx (.v 1) (.c (.int 0)))=.ok (.cl g):=λs=>jQ (x1 s) (aP _) (aLf _ _ W.1);have g1:∀s,ev pg (call pg (n+3)) (fr s) (.idx (.v 1) (.c (.int 1)))=.ok (.cl p):=λs=>jQ (x1 s) (aP _) (aLg _ _ _ W.2.1);have g2:∀s,ev pg (call pg (n+3)) (fr s) (.idx (.v 1) (.c (.int 2)))=.ok (.cl x):=λs=>jQ (x1 s) (aP _) (aLh _ _ _ _ W.2.2);have hf:0<=m / 12:=by omega
 have t:∀j:Int,tst pg (call pg (n+3)) (fr .dead) (.cmp .Eq (.op .Mod (.v 3) (.c (.int 5))) (.c (.int j)))=.ok (m % 5==j):=λj=>aCw (dB rfl (aP _) (eE (by decide))) rfl;have ty:∀{j:Int},m % 5=j->tst pg (call pg (n+3)) (fr .dead) (.cmp .Eq (.op .Mod (.v 3) (.c (.int 5))) (.c (.int j)))=.ok true:=λ{j} h=>by rw[t,h];exact congrArg R.ok (beq_self_eq_true j)
 have tn:∀{j:Int},m % 5≠j->tst pg (call pg (n+3)) (fr .dead) (.cmp .Eq (.op .Mod (.v 3) (.c (.int 5))) (.c (.int j)))=.ok false:=λ{j} h=>by rw[t,beq_eq_false_iff_ne.mpr h]
 have I:∀{v:Vl},exs pg (call pg (n+3)) (fr .dead) (drp 2 f27.body)=.ret v->v.fr=false->No 48 9 [.lst B,v.d,.int e]->∃d pa,call pg (n+4) 27 [.lst B,.tup [g,p,x],.int (e+1),.int m]=.ok (d,false,pa)/\No 48 9 [.lst B,d,.int e]:=λ{v} h hv ho=>by refine⟨v.d,v.pa,?_,ho⟩;have:=aX (P:=pg) (cl:=call pg (n+3)) (f:=27) (ds:=[.lst B,.tup [g,p,x],.int (e+1),.int m]) (F:=f27) rfl rfl (v:=v) (cs (dL (dB rfl (aP _) (cL (by decide)))) (cs (dL (dB rfl (aP _) (cL (by decide)))) h));rw[hv] at this;exact this
 by_cases c0:m % 5=0;obtain⟨L,pa,hc,hl,hL⟩:=aCy h1 n hf (B:=B);obtain⟨q,eq⟩:=rL (P:=pg) (cl:=call pg (n+3)) (Z:=fr .dead) (f:=25) (es:=.cons (.v 0) (.cons (.v 4) .nil)) (vs:=[⟨.lst B,false,true,[]⟩,.cl (.int (m / 12))]) rfl rfl hc;obtain⟨d,hd,M⟩:=iE (P:=pg) (cl:=call pg (n+3)) (Z:=fr (.own q L)) (i:=6) (e:=.v 5) (x:=m / 5) rfl rfl hl;obtain⟨p',al,U⟩:=uG (e_c M (e_c (kR (g1 _)) (e_c (kR (g2 _)) e_n)));exact I (oU (ty c0) (cs (gG eq) (eO U))) rfl (aEB (yS (hL d hd)));by_cases c1:m % 5=1;obtain⟨L,pa,hc,hl,hL⟩:=aCz h1 h4 n hf (B:=B);obtain⟨q,eq⟩:=rL (P:=pg) (cl:=call pg (n+3)) (Z:=fr .dead) (f:=26) (es:=.cons (.v 0) (.cons (.v 4) .nil)) (vs:=[⟨.lst B,false,true,[]⟩,.cl (.int (m / 12))]) rfl rfl hc;obtain⟨d,hd,M⟩:=iE (P:=pg) (cl:=call pg (n+3)) (Z:=fr (.own q L)) (i:=6) (e:=.v 5) (x:=m / 5) rfl rfl hl;obtain⟨p',al,U⟩:=uG (e_c (kR (g0 _)) (e_c M (e_c (kR (g2 _)) e_n)));exact I (cs (cQ (tn c0)) (oU (ty c1) (cs (gG eq) (eO U)))) rfl (aEC hg (hL d hd));by_cases c2:m % 5=2;have el:ev pg (call pg (n+3)) (fr .dead) (.lst (.cons (.neg (.c (.int 1))) (.cons (.v 2) (.cons (.c (.bl true)) (.cons (.c .non) (.cons (.c (.str "0")) (.cons (.op .Add (.v 2) (.v 4)) (.cons (.tup (.cons (.c (.int 0)) .nil)) .nil))))))))=.ok ⟨.lst (W2 e (m / 12)),true,false,[]⟩:=rfl;obtain⟨d,hd,M⟩:=aCv (P:=pg) (cl:=call pg (n+3)) (Z:=fr (.own false (W2 e (m / 12)))) (a:=.v 6) (w:=⟨.lst (W2 e (m / 12)),false,false,[6]⟩) (e:=.v 5) (x:=m / 5) (k:=7) rfl rfl rfl rfl (by decide);obtain⟨p',al,U⟩:=uG (e_c (kR (g0 _)) (e_c (kR (g1 _)) (e_c ⟨_,dM _ _,M⟩ e_n)));have hw:∀d∈W2 e (m / 12),Within false d 0 e:=al1 (iZ (by omega)) (al1 (iZ (by omega)) (al1 (λn=>rfl) (al1 (λn=>rfl) (al1 (λn=>rfl) (al1 (iZ (by omega)) (al1 (λn=>rfl) al0))))));exact I (cs (cQ (tn c0)) (cs (cQ (tn c1)) (oU (ty c2) (cs (gG el) (eO U))))) rfl (aJF hg hp (hw d hd));by_cases c3:m % 5=3;have hc:=nH (B:=B) (n+1) (m / 12);have eq:=gF (P:=pg) (cl:=call pg (n+3)) (Z:=fr .dead) (f:=24) (a:=.v 0) (b:=.v 4) (x:=⟨.lst B,false,true,[]⟩) (y:=.cl (.int (m / 12))) rfl rfl hc;obtain⟨d,hd,M⟩:=iE (P:=pg) (cl:=call pg (n+3)) (Z:=fr (.own false (badS B.length (m / 12)))) (i:=6) (e:=.v 5) (x:=m / 5) rfl rfl (show 0<26 by decide);obtain⟨p',al,U⟩:=uG (e_c (kR (g0 _)) (e_c (e_t (e_c (e_t (e_c (.of (aP (.int 0))) (e_c M e_n))) e_n)) (e_c (kR (g2 _)) e_n)));exact I (cs (cQ (tn c0)) (cs (cQ (tn c1)) (cs (cQ (tn c2)) (oU (ty c3) (cs (gG eq) (eO U)))))) rfl (aEC hg (aEK h1 (nI h1 hf d hd)));have gl:ev pg (call pg (n+3)) (fr .dead) (.bi .list (.cons (.v 1) .nil))=.ok ⟨.lst [g,p,x],true,false&&!noLs [g,p,x],if noLs [g,p,x] then [] else []⟩:=kH (x1 _) rfl;have gs:ev pg (call pg (n+3)) (fr .dead) (.sli (.v 1) true 2)=.ok ⟨.tup [g,p],false,false&&!noLs [g,p,x],if noLs [g,p,x] then [] else []⟩:=by show(ev pg (call pg (n+3)) (fr .dead) (.v 1) >>= _)=_;rw[x1];rfl
 have ga:ev pg (call pg (n+3)) (fr .dead) (.op .Add (.v 1) (.tup (.cons (.c (.int 0)) .nil)))=.ok (.cl (.tup [g,p,x,.int 0])):=dB (x1 _) (y:=.cl (.tup [.int 0])) rfl rfl;obtain⟨p',al,el⟩:=yU (ds:=W4 g p x) (e_c ⟨_,rfl,gl⟩ (e_c ⟨_,rfl,gs⟩ (e_c (kR ga) (e_c (.of (aP .non)) (e_c (show Ev pg (call pg (n+3)) (fr .dead) (.tup .nil) (.tup []) from⟨_,rfl,rfl⟩) (e_c (.of (aP (.int 7))) (e_c (e_t (e_c (kR (g1 _)) (e_c (kR (g0 _)) (e_c (kR (g2 _)) e_n)))) e_n)))))));obtain⟨d,hd,M⟩:=aCv (e:=.v 5) (x:=m / 5) (k:=7) el rfl rfl rfl (by decide);have hw:∀d∈W4 g p x,No 48 9 [.lst B,d,.int e]:=al1 (yT rfl) (al1 (aCm (show 2≠3 by decide)) (al1 (aCm (show 4≠3 by decide)) (al1 (yT rfl) (al1 (aCm (by decide)) (al1 (yT rfl) (al1 (aEB (yS hb)) al0))))));have hs:(Vl.sub (⟨.lst (W4 g p x),true,p',al⟩:Vl) d).fr=false:=by unfold Vl.sub;split <;> rfl
 have:=I (cs (cQ (tn c0)) (cs (cQ (tn c1)) (cs (cQ (tn c2)) (cs (cQ (tn c3)) (eO M))))) hs;rw[dM] at this;exact this (hw d hd)
noncomputable def Wf(B:List D)(e:Int)(d:D):Prop:=∃g p x,d=.tup [g,p,x]/\noL d=true/\Ok 46 10 [.lst B,g]/\Ok 47 11 [.lst B,p]/\X B "cond" p/\Within true x 0 e
structure Hg (B:List D) (h:List (List D)):Prop where
 one:∀ws∈h,1<=ws.length
 few:∀ws∈h,ws.length<=4
 ok:∀ws∈h,∀d∈ws,Wf B h.length d
variable {B:List D}
theorem Wf.nl{e:Int}{d:D}(w:Wf B e d):noL d=true:=by obtain⟨g,p,x,rfl,n,_⟩:=w;exact n
theorem Wf.gw{e:Int}{d:D}(w:Wf B e d):Gw B e d:=by obtain⟨g,p,x,rfl,n,q,I,_,L⟩:=w;exact⟨n,λk=>aJE q I L n k⟩
theorem yV:∀{ds:List D},(∀d∈ds,noL d=true)->noLs ds=true
 | [],_=>rfl|d::ds,h=>by rw[noLs,h d Aj,yV λx q=>h x (Af _ q)];rfl
theorem yW:∀{h:List (List D)},(∀ws∈h,noLs ws=true)->fN (h.map .lst)=some h
 | [],_=>rfl|ws::h,o=>by show(if noLs ws=true then (fN (h.map .lst)).map (ws::·) else none)=_;rw[if_pos (o ws Aj),yW λx q=>o x (Af _ q)];rfl
theorem Hg.gr{h:List (List D)}(o:Hg B h){ws:List D}(q:ws∈h):Gr B h.length ws:=⟨o.one ws q,o.few ws q,λd hd=>(o.ok ws q d hd).gw⟩
theorem Hg.nl{h:List (List D)}(o:Hg B h):∀ws∈h,noLs ws=true:=λws q=>yV λd hd=>(o.ok ws q d hd).nl
section
variable {P:Pg} {cl:Caller} {Z:Sg}
theorem aCB{i:Nat}{dss:List (List D)}{a:E}{d:D}(h:Z[i]? = some (.own2 dss))(g:ev P cl (Z.set i (.sh false (o2D dss))) a=.ok (.cl d))(n:noL d=true):ev P cl Z (.hid i a)=.ok (.cl d):=by
 have c:fM (.cl d)=true:=by unfold fM;cases d <;> first|exact n|simp[noL] at n
 show(match Z[i]? with|some (.own2 dss)=>(ev P cl (Z.set i (.sh false (o2D dss))) a >>= λx=>R.iff (fM x) (R.ok (⟨x.d,x.fr,false,[]⟩:Vl)))|_=>.bad)=_;rw[h];show(ev P cl (Z.set i (.sh false (o2D dss))) a >>= λx=>R.iff (fM x) (R.ok (⟨x.d,x.fr,false,[]⟩:Vl)))=_;rw[g,aB,c];rfl
theorem aJL{i:Nat}{k j e:E}{kk I:Nat}{dss:List (List D)}{ds:List D}{d:D}{q:Bool}(U:ev P cl Z e=.ok ⟨d,false,q,[]⟩)(hk:ev P cl Z k=.ok (.cl (.int (kk:Int))))(W:ev P cl Z j=.ok (.cl (.int (I:Int))))(hs:Z[i]? = some (.own2 dss))(L:dss[kk]? = some ds)(M:I<ds.length) :
 ex P cl Z (.ixF i k j e)=.next (Z.set i (.own q ((dss.map .lst).set kk (.lst (ds.set I d))))):=by
 have hl:kk<dss.length:=(Az.mp L).1;show O.from Z (ev P cl Z e) (λv=>O.from Z (ev P cl Z k).calm λkv=>O.from Z (ev P cl Z j).calm λjv=>match Z[i]?,kv.d,jv.d with
  | some (.own2 dss),.int k,.int j=>(match ixN dss.length k with
   | some k=>(match dss[k]? with
    | some ds=>(match ixN ds.length j with
     | some j=>if v.al=[]/\v.fr=false then .next (Z.set i (.own v.pa ((dss.map D.lst).set k (.lst (ds.set j v.d))))) else .bad|none=>.bad)
    | none=>.bad)
   | none=>.bad)
  | _,_,_=>.bad)=_
 rw[U,aI,hk,cB,aI,W,cB,aI,hs];simp only[dI,cU hl,L,cU M];exact if_pos (by simp)
theorem aEL{i:Nat}{p:Bool}{ds:List D}{ss:Ss}(h:Z[i]? = some (.own p ds)):exs P cl Z (.cons (.retv i) ss)=.ret ⟨.lst ds,true,p,[]⟩:=by show O.on (match Z[i]? with|some (.own pa ds)=>O.ret ⟨.lst ds,true,pa,[]⟩|_=>O.from Z (bJ Z i) .ret) _=_;rw[h];rfl
theorem aCC{h:List (List D)}{k:Nat}{ws:List D}{al:List Nat}(q:h[k]? = some ws):bW ⟨.lst (h.map .lst),false,false,al⟩ (.cl (.int (k:Int)))=.ok ⟨.lst ws,false,false,al⟩:=aEt (v:=⟨.lst (h.map .lst),false,false,al⟩) rfl q
theorem aEM{ws:List D}{j:Nat}{w:D}{al:List Nat}(q:ws[j]? = some w)(n:noL w=true):bW ⟨.lst ws,false,false,al⟩ (.cl (.int (j:Int)))=.ok (.cl w):=by have:=aEt (v:=⟨.lst ws,false,false,al⟩) (f:=id) (xs:=ws) (k:=j) (x:=w) (by rw[FM]) q;rwa [show id w=w from rfl,iV n] at this
end
theorem rM{α:Type}:∀(l:List α) (k:Nat) (x:α),k<l.length->l.set k x=l.take k++x::l.drop (k+1)
 | _::_,0,_,_=>rfl|a::l,k+1,x,h=>by rw[lS,rM l k x (by simpa using h)];rfl
theorem pE{h:List (List D)}(o:Hg B h)(q:h.length<=8){k:Nat}(I:k<h.length){d:D}(hd:No 49 8 [.lst B,d,.int h.length]):No 50 7 [.lst B,.lst ((h.map .lst).set k d)]:=by rw[rM _ _ _ (by rw[lM];exact I),<-List.map_take,<-List.map_drop];exact aHe (z:=h.length) (by rw[lM,Bv,C8];omega) q (λws L=>o.gr (E1 L)) hd
theorem aAp{h:List (List D)}(o:Hg B h)(L:h.length<=8){k j:Nat}{ws:List D}(q:h[k]? = some ws)(M:j<ws.length){d:D}(hd:No 48 9 [.lst B,d,.int h.length]):No 50 7 [.lst B,.lst ((h.map .lst).set k (.lst (ws.set j d)))]:=by have I:=mG q;refine pE o L (Az.mp q).1 ?_;have U:=o.few ws I;rw[rM _ _ _ M];exact aEI (by rw[lA,lC,Bv,C8];omega) (λd hd=>(o.gr I).ok d (E1 hd)) hd
abbrev sf(B:List D)(h:List (List D))(m:Int)(s3 s4 s5 s6 s7:Sl):Sg:=[.sh true (.lst B),.sh true (.lst (h.map .lst)),.sh true (.int m),s3,s4,s5,s6,s7]
theorem aJM{x:Int}{l:Nat}(h:0<l):∃k:Nat,k<l/\opD .Mod (.cl (.int x)) (.cl (.int (l:Int)))=.ok (.cl (.int (k:Int))):=by have q:0<=x % (l:Int):=CL _ (by omega);have I:x % (l:Int)<(l:Int):=Cs _ (by omega);exact⟨(x % (l:Int)).toNat,by omega,by rw[eE (by omega)];exact congrArg (λz=>R.ok (Vl.cl (.int z))) (by omega)⟩
section
variable {P:Pg} {cl:Caller} {Z:Sg} {e:E} {es:Es} {d:D} {ds:List D}
noncomputable def E0(P:Pg)(cl:Caller)(Z:Sg)(e:E)(d:D):Prop:=∃v:Vl,v.d=d/\v.al=[]/\ev P cl Z e=.ok v
noncomputable def Es0(P:Pg)(cl:Caller)(Z:Sg)(es:Es)(ds:List D):Prop:=∃vs:List Vl,vs.map (·.d)=ds/\unionAl vs=[]/\evs P cl Z es=.ok vs
theorem aLt:Es0 P cl Z .nil []:=⟨[],rfl,rfl,rfl⟩
theorem uH(h:E0 P cl Z e d)(r:Es0 P cl Z es ds):Es0 P cl Z (.cons e es) (d::ds):=by
 obtain⟨v,rfl,a,h⟩:=h;obtain⟨vs,rfl,b,r⟩:=r;refine⟨v::vs,rfl,?_,by rw[aE,h,aB,r];rfl⟩;show v.al++unionAl vs=[]
 rw[a,b];rfl
theorem aHi(h:Es0 P cl Z es ds):∃p,ev P cl Z (.lst es)=.ok ⟨.lst ds,true,p,[]⟩:=by obtain⟨vs,rfl,a,h⟩:=h;refine⟨anyPa vs,?_⟩;rw[eI,h];show R.ok (⟨.lst (vs.map (·.d)),true,anyPa vs,unionAl vs⟩:Vl)=_;rw[a]
theorem aHj{L:List D}{x:Int}{k:Nat}{a:E}{w:Vl}(M:ev P cl Z a=.ok w)(W:w.d=.lst L)(U:ev P cl Z e=.ok (.cl (.int x)))(hl:L.length=k)(h0:0<k):∃j,∃I:j<L.length,x % (k:Int)=j/\ev P cl Z (.idx a (.op .Mod e (.c (.int (k:Int)))))=.ok (w.sub L[j]):=by
 have g0:0<=x % (k:Int):=CL _ (by omega);have g1:x % (k:Int)<(k:Int):=Cs _ (by omega);obtain⟨j,I⟩:∃j:Nat,x % (k:Int)=j:=⟨(x % (k:Int)).toNat,by omega⟩
 have q:j<L.length:=by omega
 have m1:opD .Mod (.cl (.int x)) (.cl (.int (k:Int)))=.ok (.cl (.int (j:Int))):=by rw[eE (by omega),I]
 exact⟨j,q,I,jQ M (dB U (aP ..) m1) (rE W q)⟩
theorem aHk{i kk:Nat}{k:E}{pa:Bool}{L:List D}{v:Vl}(I:ev P cl Z e=.ok v)(q:v.al=[])(M:ev P cl Z k=.ok (.cl (.int (kk:Int))))(hs:Z[i]? = some (.own pa L))(U:kk<L.length)(h1:L.length<=1000):ex P cl Z (.setIx i k e)=.next (Z.set i (.own (pa||v.pa) (L.set kk v.d))):=by
 have W:L.length<=lim:=by unfold lim;omega
 simp only[aBQ,I,M,aI,cB,dI,put,q,bM,jX,hs,cU U,Ax,W,if_true]
end
variable {B:List D}
theorem aDV{v:Vl}{d:D}(h:v.al=[]):(Vl.sub v d).al=[]:=by unfold Vl.sub;split;rfl;exact h
noncomputable def R8(ws:List D)(w:D):List D:=[.lst [],.lst [w,w,w,w,w],.tup ws,.non,.dic [(.int 0,w)],w,.lst [w,.lst [w]],.lst ws]
noncomputable def T8(H:List D)(w:D):List D:=[.tup H,.non,.tup [],.str "",.dic [],.int 0,.lst [.lst [w],.lst [w],.lst [w],.lst [w],.lst [w],.lst [w],.lst [w],.lst [w],.lst [w]],.lst (Ae 9 (.lst [.tup [yD,.tup [],.int 0]]))]
theorem aAq(h1:1<=B.length)(h4:B.length<=4){h:List (List D)}(o:Hg B h)(hl:1<=h.length)(h8:h.length<=4){m:Int}(hm:0<=m)(n:Nat) :
 ∃d fr pa,call pg (n+5) 28 [.lst B,.lst (h.map .lst),.int m]=.ok (d,fr,pa)/\No 50 7 [.lst B,d]:=by
 obtain⟨k,hk,mk⟩:=aJM (x:=m / 7) (l:=h.length) (by omega);have gk:h[k]? = some h[k]:=Ap hk;have hw:=Bl hk;generalize h[k]=ws at gk hw;have q6:=o.one ws hw;have q7:=o.few ws hw;obtain⟨j,hj,mj⟩:=aJM (x:=m / 3) (l:=ws.length) (by omega);have gj:ws[j]? = some ws[j]:=Ap hj;have hd:=o.ok ws hw _ (Bl hj);generalize ws[j]=w at gj hd;have nl:=hd.nl;have W:(h.map D.lst).length=h.length:=lM _
 let K:Sl:=.sh false (.int (k:Int))
 let J0:Sl:=.sh false (.int (j:Int))
 let cl:=call pg (n+4)
 have q0:∀{v:Vl},exs pg cl (sf B h m .dead .dead .dead .dead .dead) f28.body=.ret v->No 50 7 [.lst B,v.d]->∃d fr pa,call pg (n+5) 28 [.lst B,.lst (h.map .lst),.int m]=.ok (d,fr,pa)/\No 50 7 [.lst B,d]:=λ{v} r z=>⟨v.d,v.fr,v.pa,aX (P:=pg) (cl:=cl) (f:=28) (F:=f28) rfl rfl r,z⟩
 have e1:ex pg cl (sf B h m .dead .dead .dead .dead .dead) (.set2 3 1)=.next (sf B h m (.own2 h) .dead .dead .dead .dead):=by
  show(match fN (h.map .lst),true with
   | some dss,true=>if (h.map D.lst).length<=lim then O.next ((sf B h m .dead .dead .dead .dead .dead).set 3 (.own2 dss)) else .bad|_,_=>.bad)=_
  rw[yW o.nl];exact if_pos (by rw[W];unfold lim;omega)
 have d7:opD .FloorDiv (.cl (.int m)) (.cl (.int 7))=.ok (.cl (.int (m / 7))):=cL (by decide);have d3:opD .FloorDiv (.cl (.int m)) (.cl (.int 3))=.ok (.cl (.int (m / 3))):=cL (by decide);have d9:opD .FloorDiv (.cl (.int m)) (.cl (.int 9))=.ok (.cl (.int (m / 9))):=cL (by decide);have q3:opD .FloorDiv (.cl (.int m)) (.cl (.int 72))=.ok (.cl (.int (m / 72))):=cL (by decide);have q2:opD .FloorDiv (.cl (.int m)) (.cl (.int 11))=.ok (.cl (.int (m / 11))):=cL (by decide);have ln:∀s4 s5,ev pg cl (sf B h m (.own2 h) s4 s5 .dead .dead) (.hid 3 (.bi .len (.cons (.v 3) .nil)))=.ok (.cl (.int h.length)):=λs4 s5=>aCB rfl (kH (x:=⟨.lst (h.map .lst),false,false,[]⟩) rfl (by rw[fH,W])) rfl;have e2:ex pg cl (sf B h m (.own2 h) .dead .dead .dead .dead) (hdS (drp 1 f28.body))=.next (sf B h m (.own2 h) K .dead .dead .dead):=dL (dB (dB rfl (aP _) d7) (ln _ _) mk);have e3:ex pg cl (sf B h m (.own2 h) K .dead .dead .dead) (hdS (drp 2 f28.body))=.next (sf B h m (.own2 h) K J0 .dead .dead):=dL (dB (dB rfl (aP _) d3) (aCB rfl (kH (x:=⟨.lst ws,false,false,[]⟩) (jQ (x:=⟨.lst (h.map .lst),false,false,[]⟩) (y:=.cl (.int (k:Int))) rfl rfl (aCC gk)) (fH ..)) rfl) mj);have t3:tst pg cl (sf B h m (.own2 h) K J0 .dead .dead) (.cmp .Gt (.op .Mod (.v 2) (.c (.int 3))) (.c (.int 0)))=.ok (decide (0<m % 3)):=aJG (dB rfl (aP _) (eE (by decide))) (aP _);by_cases c3:0<m % 3;have x0:ev pg cl (sf B h m (.own2 h) K J0 .dead .dead) (.hid 3 (.idx (.idx (.v 3) (.v 4)) (.v 5)))=.ok (.cl w):=aCB rfl (jQ (jQ (x:=⟨.lst (h.map .lst),false,false,[]⟩) (y:=.cl (.int (k:Int))) rfl rfl (aCC gk)) (y:=.cl (.int (j:Int))) rfl (aEM gj nl)) nl;obtain⟨g,p,x,rfl,_,hg,hp,hb,hx⟩:=hd;obtain⟨d,pa,hc,q5⟩:=aCA h1 h4 n (g:=g) (p:=p) (x:=x) (e:=h.length) (m:=m / 11) (by omega) (by omega) nl hg hp hb;obtain⟨q,eq⟩:=rL (P:=pg) (cl:=cl) (Z:=sf B h m (.own2 h) K J0 .dead .dead) (f:=27) (es:=.cons (.v 0) (.cons (.hid 3 (.idx (.idx (.v 3) (.v 4)) (.v 5))) (.cons (.op .Add (.hid 3 (.bi .len (.cons (.v 3) .nil))) (.c (.int 1))) (.cons (.op .FloorDiv (.v 2) (.c (.int 11))) .nil)))) (vs:=[⟨.lst B,false,true,[]⟩,.cl (.tup [g,p,x]),.cl (.int (h.length+1)),.cl (.int (m / 11))]) (by
  rw[aE,show ev pg cl (sf B h m (.own2 h) K J0 .dead .dead) (.v 0)=.ok ⟨.lst B,false,true,[]⟩ from rfl,aB,aE,x0,aB,aE,dB (ln _ _) (aP _) (add_int _ 1),aB,aE,dB rfl (aP _) q2];rfl) rfl hc
 exact q0 (cs e1 (cs e2 (cs e3 (oU (t3.trans (by rw[Ay c3])) (cs (aJL eq rfl rfl rfl gk hj) (aEL rfl)))))) (aAp o (by omega) gk hj q5)
 . let H:Sl:=.own false (h.map .lst)
   let U:Sl:=.own false [.lst [w],.lst [w]]
   let Z:Sg:=sf B h m H K J0 (.sh false w) U
   have e5:ex pg cl (sf B h m H K J0 .dead .dead) (hdS (drp 5 f28.body))=.next (sf B h m H K J0 (.sh false w) .dead):=dL (jQ (jQ (x:=⟨.lst (h.map .lst),false,false,[3]⟩) (y:=.cl (.int (k:Int))) rfl rfl (aCC gk)) (y:=.cl (.int (j:Int))) rfl (aEM gj nl));have v6:∀I:Sg,I[6]? = some (.sh false w)->ev pg cl I (.v 6)=.ok (.cl w):=λI h=>by rw[dW,bJ,h];exact bD 6 w
   have w1:∀I:Sg,I[6]? = some (.sh false w)->ev pg cl I (.lst (.cons (.v 6) .nil))=.ok ⟨.lst [w],true,false,[]⟩:=λI h=>c_l (ds:=[w]) (l_c (v6 I h) l_n);have e6:ex pg cl (sf B h m H K J0 (.sh false w) .dead) (hdS (drp 6 f28.body))=.next Z:=by refine gG ?_;rw[eI,aE,w1 _ rfl,aB,aE,w1 _ rfl];rfl
   have q1:ev pg cl Z (.row 3 (.v 4))=.ok ⟨.lst ws,false,false,[]⟩:=by show(match ixN (h.map D.lst).length (k:Int) with|some j=>(match (h.map D.lst)[j]? with|some d=>R.ok (⟨d,false,false&&!noL d,[]⟩:Vl)|none=>.bad)|none=>.bad)=_;rw[W,cU hk];show(match (h.map D.lst)[k]? with|some d=>R.ok (⟨d,false,false&&!noL d,[]⟩:Vl)|none=>.bad)=_;rw[A6,gk];rfl
   have dc:ev pg cl Z (.dic (.cons (.c (.int 0)) .nil) (.cons (.v 6) .nil))=.ok (.cl (.dic [(.int 0,w)])):=by show((evs pg cl Z (.cons (.c (.int 0)) .nil):R (List Vl)) >>= λks=>evs pg cl Z (.cons (.v 6) .nil) >>= λvs=>_)=_;rw[aE,aP,aB,bV,aB,aB,aE,v6 Z rfl,aB,bV,aB,aB];show R.iff (noL w) _=_;rw[nl];rfl
   obtain⟨p,el⟩:=aHi (P:=pg) (cl:=cl) (Z:=Z) (ds:=R8 ws w) (uH ⟨_,rfl,rfl,(rfl:ev pg cl Z (.lst .nil)=.ok ⟨.lst [],true,false,[]⟩)⟩ (uH (e:=.op .Mult (.lst (.cons (.v 6) .nil)) (.c (.int 5))) ⟨⟨.lst [w,w,w,w,w],true,false&&!noLs [w],if noLs [w] then [] else []⟩,rfl,ite_self _,dB (w1 Z rfl) (aP _) rfl⟩ (uH ⟨⟨.tup ws,false,false&&!noLs ws,if noLs ws then [] else []⟩,rfl,ite_self _,kH (b:=.tuple) q1 rfl⟩ (uH ⟨_,rfl,rfl,aP .non⟩ (uH ⟨_,rfl,rfl,dc⟩ (uH ⟨_,rfl,rfl,v6 Z rfl⟩ (uH (e:=.lst (.cons (.v 6) (.cons (.lst (.cons (.v 6) .nil)) .nil))) ⟨⟨.lst [w,.lst [w]],true,false,[]⟩,rfl,rfl,by rw[eI,aE,v6 Z rfl,aB,aE,w1 Z rfl];rfl⟩ (uH ⟨_,rfl,rfl,q1⟩ aLt))))))));obtain⟨i,hi,mi,ei⟩:=aHj (e:=.op .FloorDiv (.v 2) (.c (.int 9))) (x:=m / 9) (k:=8) el rfl (dB rfl (aP _) d9) rfl (by decide);have e7:=aHk (i:=3) (k:=.v 4) (kk:=k) ei (aDV rfl) rfl (show Z[3]? = some (.own false (h.map .lst)) from rfl) (by rw[W];exact hk) (by rw[W];omega);rw[dM] at e7;have e0:∀{v:Vl},exs pg cl (Z.set 3 (.own (false||(Vl.sub ⟨.lst (R8 ws w),true,p,[]⟩ (R8 ws w)[i]).pa) ((h.map .lst).set k (R8 ws w)[i]))) (drp 8 f28.body)=.ret v->exs pg cl (sf B h m .dead .dead .dead .dead .dead) f28.body=.ret v:=λ{v} r=>cs e1 (cs e2 (cs e3 (cs (cQ (t3.trans (by rw[A4 c3]))) (cs (Z':=sf B h m H K J0 .dead .dead) rfl (cs e5 (cs e6 (cs e7 r)))))));generalize (false||(Vl.sub ⟨.lst (R8 ws w),true,p,[]⟩ (R8 ws w)[i]).pa)=q at e0;have t8:tst pg cl (sf B h m (.own q ((h.map .lst).set k (R8 ws w)[i])) K J0 (.sh false w) U) (.cmp .Eq (.op .Mod (.op .FloorDiv (.v 2) (.c (.int 9))) (.c (.int 8))) (.c (.int 7)))=.ok (m / 9 % 8==7):=aCw (dB (dB rfl (aP _) d9) (aP _) (eE (by decide))) rfl;by_cases c7:m / 9 % 8=7
   . rw[c7] at t8
     let H':List D:=(h.map .lst).set k (R8 ws w)[i]
     let I:Sg:=sf B h m (.own q H') K J0 (.sh false w) U
     have v7:ev pg cl I (.v 7)=.ok ⟨.lst [.lst [w],.lst [w]],false,false,[7]⟩:=rfl;have x4:ev pg cl I (.op .Mult (.v 7) (.c (.int 4)))=.ok ⟨.lst [.lst [w],.lst [w],.lst [w],.lst [w],.lst [w],.lst [w],.lst [w],.lst [w]],true,false,[7]⟩:=dB v7 (aP _) rfl;have y1:ev pg cl I (.lst (.cons (.lst (.cons (.v 6) .nil)) .nil))=.ok ⟨.lst [.lst [w]],true,false,[]⟩:=by rw[eI,aE,w1 I rfl];rfl
     have x9:ev pg cl I (.op .Mult (.lst (.cons (.lst (.cons (.tup (.cons (.tup (.cons (.c (.str "yes")) .nil)) (.cons (.tup .nil) (.cons (.c (.int 0)) .nil)))) .nil)) .nil)) (.c (.int 9)))=.ok ⟨.lst (Ae 9 (.lst [.tup [yD,.tup [],.int 0]])),true,false,[]⟩:=rfl;obtain⟨p',al,et⟩:=yU (P:=pg) (cl:=cl) (Z:=I) (ds:=T8 H' w) (e_c ⟨_,rfl,(kH (b:=.tuple) (x:=⟨.lst H',false,q,[3]⟩) rfl rfl:ev pg cl I (.bi .tuple (.cons (.v 3) .nil))=.ok ⟨.tup H',false,q&&!noLs H',if noLs H' then [] else [3]⟩)⟩ (e_c (.of (aP .non)) (e_c (show Ev pg cl I (.tup .nil) (.tup []) from⟨_,rfl,rfl⟩) (e_c (.of (aP (.str ""))) (e_c (show Ev pg cl I (.dic .nil .nil) (.dic []) from⟨_,rfl,rfl⟩) (e_c (.of (aP (.int 0))) (e_c ⟨_,rfl,dB (o:=.Add) (z:=⟨.lst [.lst [w],.lst [w],.lst [w],.lst [w],.lst [w],.lst [w],.lst [w],.lst [w],.lst [w]],true,false,[7]⟩) x4 y1 rfl⟩ (e_c ⟨_,rfl,x9⟩ e_n))))))));obtain⟨d,q4,ed⟩:=aCv (e:=.op .FloorDiv (.v 2) (.c (.int 72))) (x:=m / 72) (k:=8) et rfl (dB rfl (aP _) q3) rfl (by decide);have hz:∀d∈T8 H' w,No 50 7 [.lst B,d]:=al1 (jV rfl) (al1 (jV rfl) (al1 (jV rfl) (al1 (jV rfl) (al1 (jV rfl) (al1 (jV rfl) (al1 (aCt (show 8<9 by decide)) (al1 (aCt (show 8<9 by decide)) al0)))))));exact q0 (e0 (oU t8 (eO ed))) (by rw[dM];exact hz d q4)
   . rw[beq_eq_false_iff_ne.mpr c7] at t8;refine q0 (e0 (cs (cQ t8) (aEL rfl))) (pE o (by omega) hk ?_);have h7:i<7:=by have:i<8:=hi;omega
     have z:∀(a:D),isI [.tList] pg a=some false->No 49 8 [.lst B,a,.int h.length]:=λa h=>uE h
     match i,h7 with
     | 0,_=>exact aEH (.inl (by decide))|1,_=>exact aEH (.inr (show 4<5 by decide))|2,_=>exact uE rfl|3,_=>exact uE rfl|4,_=>exact uE rfl|5,_=>obtain⟨g,p,x,rfl,_⟩:=hd;exact uE rfl|6,_=>exact aEI (L:=[w]) (M:=[]) (show 2<=4 by decide) (al1 hd.gw al0) (yT rfl)
mutual
noncomputable def dpt:D->Nat
 | .tup ds=>dpts ds+1|.lst ds=>dpts ds+1|.non=>0|.bl _=>0|.int _=>0|.str _=>0|.dic _=>0|.err _ _=>0
noncomputable def dpts:List D->Nat
 | []=>0|d::ds=>max (dpt d) (dpts ds)
end
mutual
theorem aJN:∀(d:D) (n:Nat),wH d=true->dpt d<n->eqF n d d=some true
 | _,0,_,h=>absurd h (Nat.not_lt_zero _)|.non,n+1,_,_=>rfl|.bl b,n+1,_,_=>by cases b <;> rfl|.int i,n+1,_,_=>congrArg some (beq_self_eq_true i)|.str x,n+1,_,_=>congrArg some (beq_self_eq_true x)|.tup ds,n+1,h,k=>by show eqL (eqF n) ds ds=_;rw[uU];exact eq_ds ds n h (Ed k)|.lst ds,n+1,h,k=>by show(if ds.length=ds.length then eqL (eqF n) ds ds else some false)=_;rw[if_pos rfl,uU];exact eq_ds ds n h (Ed k)|.dic _,n+1,h,_=>nomatch h|.err _ _,n+1,h,_=>nomatch h
theorem eq_ds:∀(ds:List D) (n:Nat),noDics ds=true->dpts ds<n->eF n ds ds=some true
 | [],_,_,_=>rfl|d::ds,n,h,k=>by
  have h:wH d=true/\noDics ds=true:=by simpa[noDics] using h
  have k:max (dpt d) (dpts ds)<n:=k;rw[eF,aJN d n h.1 (by omega),eq_ds ds n h.2 (by omega)];rfl
end
mutual
theorem aLu:∀d:D,noL d=true->wH d=true
 | .non,_=>rfl|.bl _,_=>rfl|.int _,_=>rfl|.str _,_=>rfl|.tup ds,h=>nd_ds ds h|.lst _,h=>nomatch h|.dic _,h=>nomatch h|.err _ _,h=>nomatch h
theorem nd_ds:∀ds:List D,noLs ds=true->noDics ds=true
 | [],_=>rfl|d::ds,h=>by
  have h:noL d=true/\noLs ds=true:=by simpa[noLs] using h
  rw[noDics,aLu d h.1,nd_ds ds h.2];rfl
end
theorem lG{k:Nat}:∀{ds:List D},(∀d∈ds,dpt d<=k)->dpts ds<=k
 | [],_=>Cm _|d::ds,h=>Nat.max_le.mpr ⟨h d Aj,lG λx q=>h x (Af _ q)⟩
theorem uI:∀s:Sm,dpt s.d<=s.sz
 | .num _=>An 1|.box _=>An 1|.aft _=>An 1|.two p a b=>by have:=uI a;have:=uI b;show max 0 (max (dpt a.d) (max (dpt b.d) 0))+1<=1+a.sz+b.sz;omega
theorem yX:∀s:Cn,dpt s.d<=s.sz
 | .yes=>An 1|.cmp p a b=>by have:=uI a;have:=uI b;show max 0 (max (dpt a.d) (max (dpt b.d) 0))+1<=1+a.sz+b.sz;omega|.nt a=>by have:=yX a;show max 0 (max (dpt a.d) 0)+1<=1+a.sz;omega|.two p a b=>by have:=yX a;have:=yX b;show max 0 (max (dpt a.d) (max (dpt b.d) 0))+1<=1+a.sz+b.sz;omega
variable {B:List D} {c:Nat}
theorem aJO{w:Way}(o:kJ c w):dpt w.d<=50:=by
 have I:=yX w.g;have L:=o.gs;have M:dpts (w.ps.map hG)<=41:=lG λd hd=>by obtain⟨p,q,rfl⟩:=Aw.mp hd;have:=uI p.2;have:=(o.ps p q).sz;show max 0 (max (dpt p.2.d) 0)+1<=41;omega
 show max (dpt w.g.d) (max (dpts (w.ps.map hG)+1) (max 0 0))+1<=50;omega
theorem yY{h:List (List Way)}(o:jT c h):eqD (.lst (bE h)) (.lst (bE h))=some true:=by
 refine aJN _ 120 ?_ ?_;show noDics (bE h)=true;have:∀h:List (List Way),noDics (bE h)=true:=λh=>by
  induction h with
  | nil=>rfl|cons ws h L=>show(noDics (ws.map Way.d)&&noDics (bE h))=true;rw[L,nd_ds _ (aAl ws)];rfl
 exact this h;have:dpts (bE h)<=51:=lG λd hd=>by obtain⟨ws,I,rfl⟩:=Aw.mp hd;refine Nat.succ_le_succ (lG λd hd=>?_);obtain⟨w,q,rfl⟩:=Aw.mp hd;exact aJO ((o.ok ws I).ok w q).1
 show dpts (bE h)+1<120;omega
theorem yZ(L:B.length=c):∀{ps:List (Nat×Sm)} {l:Int},(∀p∈ps,tZ c p/\l<=p.1)->Up ps->Pn B l (ps.map hG)
 | [],_,_,_=>.nil|p::ps,l,h,u=>by have u:=List.pairwise_cons.mp u;have I:=h p Aj;exact .cons (aEx I.2 (by rw[L];exact Int.ofNat_lt.mpr I.1.box) (lkS L p.2 0 _ I.1.wf (GY _).symm (by have:=I.1.sz;omega))) (yZ L (λq M=>⟨(h q (Af _ M)).1,by have:=u.1 q M;omega⟩) u.2)
theorem aHl(q:B.length=c){w:Way}(o:kJ c w){e:Nat}(L:0<=w.nx/\w.nx<(e:Int)+1):Wf B e w.d:=by
 refine⟨w.g.d,.tup (w.ps.map hG),.int w.nx,rfl,yK w,aDQ (lkC q w.g 0 _ o.g (GY _).symm (by have:=o.gs;omega)),aHb (yZ q (λp I=>⟨o.ps p I,by omega⟩) o.up),.bad ?_,nG L.1 (by omega)⟩;cases w.ps with
 | nil=>exact λn=>rfl|cons p ps=>exact aJK rfl
abbrev hD(h:List (List Way)):List (List D):=h.map λws=>ws.map Way.d
theorem aEN(h:List (List Way)):(hD h).map D.lst=bE h:=by rw[Bb];rfl
theorem zA(M:B.length=c){h:List (List Way)}(o:jT c h):Hg B (hD h):=by
 have U:(hD h).length=h.length:=lM _;refine⟨λws L=>?_,λws L=>?_,λws L d hd=>?_⟩
 all_goals obtain⟨vs,I,rfl⟩:=Aw.mp L
 rw[lM];exact(o.ok vs I).one;rw[lM];exact(o.ok vs I).few;obtain⟨w,q,rfl⟩:=Aw.mp hd;rw[U];exact aHl M ((o.ok vs I).ok w q).1 ((o.ok vs I).ok w q).2
theorem zB(q:B.length=c){h:List (List Way)}(o:jT c h)(n:Nat):call pg (n+50) 7 [.lst B,.lst (bE h)]=.ok (.lst (bE h),true,false):=by have g:=zA q o;have:=aHd (by rw[lM];exact o.few) (λws I=>g.gr I) n;rwa [aEN] at this
variable {B:List D} {c:Nat}
abbrev W8:Way:=⟨.yes,[],8⟩
abbrev W0:Way:=⟨.yes,[],0⟩
abbrev Wa:Way:=⟨mCo 39,[(0,mS 19)],0⟩
abbrev Wb:Way:=⟨.nt (.cmp true (mS 18) (.num 0)),[],1⟩
noncomputable def HL:List (List (List Way)):=[[],Ae 8 [W8],[[Wa,Wb]],[Ae 4 W0]]
theorem aCD:∀t,(mS t).sz=2*t+1
 | 0=>rfl|t+1=>by show 1+(mS t).sz+1=_;rw[aCD t];omega
theorem aEO:∀t,(mCo t).sz=t+1
 | 0=>rfl|t+1=>by show 1+(mCo t).sz=_;rw[aEO t];omega
theorem aEP(i:Int):kJ c ⟨.yes,[],i⟩:=⟨trivial,by show 1<=40;decide,λ_ z=>absurd z Cj,.nil⟩
theorem rN{α:Type}{p:α->Prop}:∀d∈([]:List α),p d:=λ_ h=>nomatch h
theorem nN{α:Type}{p:α->Prop}{a:α}{l:List α}(h:p a)(r:∀d∈l,p d):∀d∈a::l,p d:=Ez.mpr ⟨h,r⟩
theorem aJP(I:1<=c):∀h∈HL,jT c h:=by
 have L:yR c 8 [W8]:=⟨by decide,by decide,nN ⟨aEP _,by decide,by decide⟩ rN⟩
 have M:kJ c Wa:=⟨aCu 39,by rw[aEO];decide,nN ⟨I,pD 19,by rw[aCD];decide⟩ rN,DO _ _⟩
 have U:kJ c Wb:=⟨⟨pD 18,(show(0:Int)<=0/\(0:Int)<=99 by decide)⟩,by show 1+(1+(mS 18).sz+1)<=40;rw[aCD];decide,rN,.nil⟩
 refine nN ⟨by decide,rN⟩ (nN ⟨by decide,λws q=>?_⟩ (nN ⟨by decide,nN ⟨by decide,by decide,nN ⟨M,by decide,by decide⟩ (nN ⟨U,by decide,by decide⟩ rN)⟩ rN⟩ (nN ⟨by decide,nN ⟨by decide,by decide,λw q=>?_⟩ rN⟩ rN)));rw[Cd q];exact L;rw[Cd q];exact⟨aEP _,by decide,by decide⟩
noncomputable def aLv:D:=.tup [.str "not",.tup [.str "is",(mS 18).d,nD 0]]
abbrev lf(B:List D)(s3 s4:Sl):Sg:=[.sh true (.lst B),.sh false yD,.sh false aLv,s3,s4]
theorem aJQ{x y:D}(h:eqD x y=some true):bT .NotEq x y=some false:=by show(eqD x y).map (!·)=_;rw[h];rfl
theorem aCE(hc:B.length=c)(n:Nat){h:List (List Way)}(o:jT c h){Z:Sg}{q I L:E}{x y z:Vl}(h0:ev pg (call pg (n+50)) Z q=.ok x)(h1:ev pg (call pg (n+50)) Z I=.ok y)(h2:ev pg (call pg (n+50)) Z L=.ok z)(M:x.d=.lst B)(U:y.d=.lst (bE h))(W:z.d=.lst (bE h)):tst pg (call pg (n+50)) Z (.cmp .NotEq (.call 7 (.cons q (.cons I .nil))) L)=.ok false:=
 aBa (gF h0 h1 (by rw[M,U];exact zB hc o n)) h2 (by rw[W];exact aJQ (yY o))
theorem aDW(hc:B.length=c)(h1:1<=c)(n:Nat):call pg (n+51) 29 [.lst B]=.ok (.bl true,false,false):=by
 let cl:=call pg (n+50)
 let I:List D:=[Wa.d,Wb.d]
 have e2:ex pg cl [.sh true (.lst B),.sh false yD,.dead,.dead,.dead] (hdS (drp 1 f29.body))=.next (lf B .dead .dead):=dL (rF (aP _) (iD (aP _) (uF (by decide) (by decide)) rfl));have e3:ex pg cl (lf B .dead .dead) (hdS (drp 2 f29.body))=.next (lf B (.own false I) .dead):=by refine gG (c_l (l_c (iD (aEJ (by decide) (by decide)) (z:=.int 0) (y:=.tup [.tup [.int 0,(mS 19).d]]) ?_ rfl) (l_c (iD (bD 2 _) rfl rfl) l_n)));rw[qU,aE,rF (aP _) (uF (t:=19) (by decide) (by decide))];rfl
 let L:Sg:=lf B (.own false I) .dead
 have U:ev pg cl L (.op .Mult (.lst (.cons (.lst (.cons (.tup (.cons (.v 1) (.cons (.tup .nil) (.cons (.c (.int 8)) .nil)))) .nil)) .nil)) (.c (.int 8)))=.ok ⟨.lst (bE (Ae 8 [W8])),true,false,[]⟩:=rfl;have W:ev pg cl L (.lst (.cons (.v 3) .nil))=.ok ⟨.lst [.lst I],true,false,[3]⟩:=rfl;have a4:ev pg cl L (.lst (.cons (.op .Mult (.lst (.cons (.tup (.cons (.v 1) (.cons (.tup .nil) (.cons (.c (.int 0)) .nil)))) .nil)) (.c (.int 4))) .nil))=.ok ⟨.lst (bE [Ae 4 W0]),true,false,[]⟩:=rfl;have ew:walk pg cl L (match hdS (drp 3 f29.body) with|.for _ it _=>it|_=>.seq (.v 0))=.ok (HL.map λh=>(Vl.mk (.lst (bE h)) false false [3]:Vl),[3]):=by show walk pg cl L (.seq (.lst (.cons (.lst .nil) (.cons _ (.cons _ (.cons _ .nil))))))=_;rw[aBO,eI,aE,show ev pg cl L (.lst .nil)=.ok ⟨.lst [],true,false,[]⟩ from rfl,aB,aE,U,aB,aE,W,aB,aE,a4];rfl
 obtain⟨Z',ef,s4,q⟩:=qX (P:=pg) (cl:=cl) (t:=.n 4) (b:=match hdS (drp 3 f29.body) with|.for _ _ b=>b|_=>.nil) (λi Z=>∃s4,Z=lf B (.sh false (.lst I)) s4) ew ⟨_,rfl⟩ λi hi Z ⟨s4,q⟩=>by
  have M:i<HL.length:=by simpa using hi
  have o:=aJP h1 _ (Bl M);subst q;refine⟨lf B (.sh false (.lst I)) (.sh false (.lst (bE HL[i]))),lf B (.sh false (.lst I)) (.sh false (.lst (bE HL[i]))),by rw[Dg,eD];rfl,iY (cQ (aCE hc n o (x:=⟨.lst B,false,true,[]⟩) rfl (kH (x:=⟨.lst (bE HL[i]),false,false&&!noL (.lst (bE HL[i])),[]⟩) rfl rfl) rfl rfl rfl rfl)),_,rfl⟩
 subst q;exact aX (F:=f29) rfl rfl (v:=.cl (.bl true)) (cs (dL (d:=yD) rfl) (cs e2 (cs e3 (cs ef (eO (aP _))))))
abbrev lw(ns:List Int)(k:Nat)(s2 s3 s4:Sl):Sg:=[.sh true (.lst (ns.map D.int)),.own true (aL ns k),s2,s3,s4]
theorem uJ(n:Nat){h:List (List Way)}{ns:List Int}{k:Nat}{s2 s4:Sl}(I:h.length<=8):∃v:Vl,v.d=.lst (bE h)/\ev pg (call pg n) (lw ns k s2 (.own false (bE h)) s4) (.comp 1 [] (.n 0) (.seq (.v 3)) .nil (.bi .list (.cons (.v 0) .nil)))=.ok v:=by
 have c:=qW (P:=pg) (cl:=call pg n) (Z:=lw ns k s2 (.own false (bE h)) s4) (k:=1) (caps:=[]) (t:=.n 0) (it:=.seq (.v 3)) (elt:=.bi .list (.cons (.v 0) .nil)) (xs:=h.map λws=>Vl.mk (aAo ws) false false [3]) (al:=[3]) (λx=>⟨x.d,true,false,[]⟩) (by
  show R.ok (items ⟨.lst (bE h),false,false,[3]⟩ (bE h),[3])=_;unfold items;rw[Bb];rfl) (by rw[lM];unfold lim;omega) λx q=>by obtain⟨ws,_,rfl⟩:=Aw.mp q;refine⟨[.sh false (aAo ws)],rfl,kH (x:=⟨aAo ws,false,false,[]⟩) rfl ?_⟩;show R.ok (⟨.lst (ws.map Way.d),true,false&&!noLs (ws.map Way.d),if noLs (ws.map Way.d) then [] else []⟩:Vl)=_;rw[ite_self];rfl
 refine⟨_,?_,c⟩;have hd:((h.map λws=>Vl.mk (aAo ws) false false [3]).map λx=>(⟨x.d,true,false,[]⟩:Vl)).map (·.d)=bE h:=by rw[Bb,Bb];rfl
 unfold dJ;split;exact congrArg D.lst hd;exact congrArg D.lst hd
theorem aDX{P:Pg}{cl:Caller}{Z:Sg}(t:T)(l:Nat)(fz:List Nat)(e:EL)(b:Ss):ex P cl Z (.forC t l fz e b)=O.from Z (evl P cl l (freeze Z fz) e).calm λr=>match r.1.fr,r.1.d with|true,.lst ds=>if noLs ds then bB (λZ x=>O.from Z (aY Z x t) λZ'=>exs P cl Z' b) (items (.cl (.lst ds)) ds) r.2 else .bad|_,_=>.bad:=id rfl
theorem pure(ns:List Int)(w5:ns.length<=63):∃fr pa,call pg 60 30 [.lst (ns.map D.int)]=.ok (.bl true,fr,pa):=by
 refine⟨false,false,aX (F:=f30) rfl rfl (v:=.cl (.bl true)) ?_⟩;show exs pg (call pg 59) (ns.map D.int |> λl=>[.sh true (.lst l),.dead,.dead,.dead,.dead]) _=_;obtain⟨bs,k,hm,q8,hk,q4⟩:=aAm 56 ns;have hc:(aD bs).length=bs.length:=lM _;obtain⟨r0,r1⟩:=cP ns k (m:=4) (by decide);obtain⟨h,L,o,q6,q7,w4,q1⟩:=aCf 50 ns (k:=k+1) (e:=(1+nxt ns k 4).toNat) (by omega) (by omega) (by omega) hm q8;have he:(((1+nxt ns k 4).toNat:Nat):Int)=1+nxt ns k 4:=by omega
 rw[he] at q1;have e1:ex pg (call pg 59) [.sh true (.lst (ns.map D.int)),.dead,.dead,.dead,.dead] (hdS f30.body)=.next (lw ns 0 .dead .dead .dead):=rfl;have e2:ex pg (call pg 59) (lw ns 0 .dead .dead .dead) (.setL 2 1 [] (.call 15 (.cons (.e (.c (.int 24))) .nil)))=.next (lw ns k (.own false (aD bs)) .dead .dead):=by rw[fI,bM,jR (P:=pg) (cl:=call pg 59) (l:=1) (Z:=lw ns 0 .dead .dead .dead) (z:=(true,aL ns 0)) rfl rfl (vs:=[.cl (.int 24)]) (Z1:=lw ns 0 .dead .dead .dead) rfl (pa:=true) (cs:=aL ns 0) rfl q4];rfl
 let I:Sl:=.sh false (.lst (aD bs))
 have x0:evl pg (call pg 59) 1 (lw ns k I .dead .dead) (.call 14 (.cons (.e (.c (.int 4))) .nil))=.ok (.cl (.int (nxt ns k 4)),lw ns (k+1) I .dead .dead):=jR (z:=(true,aL ns k)) rfl rfl (vs:=[.cl (.int 4)]) (Z1:=lw ns k I .dead .dead) rfl (pa:=true) (cs:=aL ns k) rfl (lD 57 ns (by omega) (m:=4) (by decide));have x1:=oW (cM (P:=pg) (cl:=call pg 59) (l:=1) (Z:=lw ns k I .dead .dead) (a:=.c (.int 1)) (d:=.int 1) rfl) x0 (add_int 1 (nxt ns k 4));have e3:ex pg (call pg 59) (lw ns k (.own false (aD bs)) .dead .dead) (hdS (drp 2 f30.body))=.next (lw ns L I (.own false (bE h)) .dead):=by show ex pg (call pg 59) _ (.setL 3 1 [2] _)=_;rw[fI];show O.from _ (evl pg (call pg 59) 1 (lw ns k I .dead .dead) _).calm _=_;rw[jR (P:=pg) (cl:=call pg 59) (l:=1) (Z:=lw ns k I .dead .dead) (z:=(true,aL ns k)) rfl rfl (vs:=[.cl (.lst (aD bs)),.cl (.int (1+nxt ns k 4))]) (Z1:=lw ns (k+1) I .dead .dead) (aBY rfl x1) (pa:=true) (cs:=aL ns (k+1)) rfl q1];rfl
 let M:Sl:=.own false (bE h)
 have same:∀q s4,tst pg (call pg 59) (lw ns q I M s4) (.cmp .NotEq (.call 7 (.cons (.v 2) (.cons (.comp 1 [] (.n 0) (.seq (.v 3)) .nil (.bi .list (.cons (.v 0) .nil))) .nil))) (.v 3))=.ok false:=λq s4=>by obtain⟨v,hv,ev⟩:=uJ 59 (h:=h) (ns:=ns) (k:=q) (s2:=I) (s4:=s4) o.few;exact aCE hc 9 o (x:=.cl (.lst (aD bs))) (bD 2 _) ev (z:=⟨.lst (bE h),false,false,[3]⟩) rfl rfl hv rfl
 have g:=zA hc o;have q3:∀q {x:Int},0<=x->exs pg (call pg 59) (lw ns q I M (.sh false (.int x))) (match hdS (drp 4 f30.body) with|.forC _ _ _ _ b=>b|_=>.nil)=.next (lw ns q I M (.sh false (.int x))):=λq x hx=>by
  obtain⟨d,fr,pa,q0,q9⟩:=aAq (B:=aD bs) (by omega) (by omega) g (by rw[lM];exact q6) (by rw[lM];exact q7) hx 54;rw[aEN] at q0;have W:Ev pg (call pg 59) (lw ns q I M (.sh false (.int x))) (.call 28 (.cons (.v 2) (.cons (.v 3) (.cons (.v 4) .nil)))) d:=by refine⟨eT [.cl (.lst (aD bs)),⟨.lst (bE h),false,false,[3]⟩,.cl (.int x)] (d,fr,pa),by unfold eT;split <;> rfl,?_⟩;rw[bZ,aE,show ev pg (call pg 59) (lw ns q I M (.sh false (.int x))) (.v 2)=.ok (.cl (.lst (aD bs))) from bD 2 _,aB];show(call pg 59 28 [.lst (aD bs),.lst (bE h),.int x] >>= _)=_;rw[q0];rfl
  obtain⟨v,rfl,W⟩:=W;exact iY (cQ (iM (rH (k:=true) (vs:=[.cl (.lst (aD bs)),v]) (by
   rw[aE,show ev pg (call pg 59) (lw ns q I M (.sh false (.int x))) (.v 2)=.ok (.cl (.lst (aD bs))) from bD 2 _,aB,aE,W];rfl) (aDU q9 8))))
 have w3:(cut (ns.map D.int) none (some 8)).length<=63:=by unfold cut;rw[Bv,C8,lM];omega
 obtain⟨ds,Z',hl,us,rfl,q2,U⟩:=mW (P:=pg) (cl:=call pg 59) (l:=1) (Z:=lw ns L I M .dead) (n:=.e (.op .Add (.c (.int 4)) (.bi .len (.cons (.sli (.v 0) true 8) .nil)))) (N:=4+(cut (ns.map D.int) none (some 8)).length) (Z0:=lw ns L I M .dead) (k:=1) (l':=1) (caps:=[1]) (t:=.n 0) (elt:=.call 14 (.cons (.e (.c (.int 2147483647))) .nil)) (λi ds Z=>∃cs:List Int,ds=cs.map D.int/\(∀x∈cs,0<=x)/\Z=lw ns (L+i) I M .dead) (cM (by
  refine(dB (y:=.cl (.int (cut (ns.map D.int) none (some 8)).length)) (aP _) rfl (add_int 4 _)).trans ?_;rw[FS];rfl)) (by omega) ⟨[],rfl,rN,rfl⟩ λi Z ds hi ⟨cs,e1,e2,e3⟩=>by subst e1 e3;have rg:=cP ns (L+i) (m:=2147483647) (by decide);exact⟨[.sh false (.int i),.own true (aL ns (L+i))],.cl (.int (nxt ns (L+i) 2147483647)),[.sh false (.int i),.own true (aL ns (L+i+1))],(true,aL ns (L+i)),true,aL ns (L+i+1),rfl,jR (z:=(true,aL ns (L+i))) rfl rfl (vs:=[.cl (.int 2147483647)]) (Z1:=[.sh false (.int i),.own true (aL ns (L+i))]) rfl (pa:=true) (cs:=aL ns (L+i)) rfl (lD 57 ns (by omega) (by decide)),rfl,rfl,rfl,cs++[nxt ns (L+i) 2147483647],by rw[Cz];rfl,nF e2 rg.1,rfl⟩
 subst U;obtain⟨Z',ef,s4,U⟩:=iT (f:=λZ x=>O.from Z (aY Z x (.n 4)) λZ'=>exs pg (call pg 59) Z' (match hdS (drp 4 f30.body) with|.forC _ _ _ _ b=>b|_=>.nil)) (us.map λx=>Vl.cl (.int x)) (λi Z=>∃s4,Z=lw ns (L+(4+(cut (ns.map D.int) none (some 8)).length)) I M s4) (lw ns (L+(4+(cut (ns.map D.int) none (some 8)).length)) I M .dead) ⟨_,rfl⟩ λi hi Z ⟨s4,U⟩=>by
  have q5:i<us.length:=by simpa using hi
  subst U;refine⟨_,?_,.sh false (.int us[i]),rfl⟩;rw[Dg];exact q3 _ (q2 _ (Bl q5))
 subst U;have e5:ex pg (call pg 59) (lw ns L I M .dead) (hdS (drp 4 f30.body))=.next (lw ns (L+(4+(cut (ns.map D.int) none (some 8)).length)) I M s4):=by show ex pg (call pg 59) (lw ns L I M .dead) (.forC (.n 4) 1 [] _ _)=_;rw[aDX,bM,hl,cB,aI];show(if noLs (us.map D.int)=true then bB _ (items (.cl (.lst (us.map D.int))) (us.map D.int)) _ else O.bad)=_;rw[if_pos (iU (λ_=>rfl) us),aAk (λ_=>rfl)];exact ef
 generalize L+(4+(cut (ns.map D.int) none (some 8)).length)=q at e5;obtain⟨v,hv,el⟩:=uJ 59 (h:=h) (ns:=ns) (k:=q) (s2:=I) (s4:=s4) o.few;have v2:ev pg (call pg 59) (lw ns q I M s4) (.v 2)=.ok (.cl (.lst (aD bs))):=bD 2 _;exact cs e1 (cs e2 (cs e3 (cs (cQ (same _ _)) (cs e5 (eO (aLc (aJt (o:=.Eq) (gF (d:=.lst (bE h)) v2 el (by rw[hv];exact zB hc o 9)) (y:=⟨.lst (bE h),false,false,[3]⟩) rfl (yY o)) (rG v2 (aDW hc hm 8))))))))
end K13
noncomputable section
open PySem PySem.W PyProof.Rows Hh
set_option maxRecDepth 100000 in
set_option maxHeartbeats 0 in
theorem PySem.Challenge.cw_handpromise_k13_what_is_no_hand_holds : PySem.Challenge.rw_handpromise_k13_what_is_no_hand.Holds := by
 refine holds_law K13.ws λ said => ?_;refine aGN (l := BS) (k := 59) (f := 30) (x := "_law_script") (sl := ["_law_pen", "_law_boxes_here", "_law_hand_here", "_law_cell_here"]) said K13.lft (by kernel_rfl) (by kernel_rfl) rfl rfl (by decide +kernel) ⟨rfl, rfl, rfl, rfl, rfl, by decide +kernel⟩ ?hw rfl rfl (by decide +kernel) (by decide +kernel) K13.chk rfl (by decide +kernel) rfl (by decide +kernel) ⟨rfl, rfl, by decide, by decide⟩ (by kernel_rfl) rfl K13.pure
 w_witness2
end
