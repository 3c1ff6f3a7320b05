import PyProof.Rows.All
import Wide.All
import OpenK.AllK
import Wide.FinOn
import Lean
import PyProof.EqAt
import PyProof.EqKinds
import PyProof.TupleCall
import PyProof.NeKinds
import PySem.Syntax
import PySem.Builtin.Str.Common
import PyProof.ReprReads
import PyProof.DictUpdate
import PyProof.TupleKey
import PyProof.DictRoadsH
import PyProof.Rows.TupTab
import PyProof.StrLaws
import PyProof.ReprRoads
import PyProof.FitsInt
import KE.KIsAll
import PyProof.DictTable
import PyProof.Rows.SetFrom
import PyProof.SetRoads
import PyProof.ZipIter
import PyProof.StrWalks
import PyProof.EnumFor
import PyProof.EnumStmt
import PyProof.ListNew
import PyProof.CollectIter
import PyProof.Rows.SortWalk
import PyProof.Rows.Range3
import PySem.Challenge.RW_handpromise_k14_reads_and_writes
set_option genSizeOf false
set_option genInjectivity false
set_option bootstrap.genMatcherCode false
set_option Elab.async false
set_option linter.all false
def Aa:=@PySem.wpAny_bind
def Ab:=@PySem.Heap.get?_push_of_some
def Ac:=@List.getElem?_set_ne.{0}
def Ad:=@PySem.wpAny_pure
def Ae:=@List.mem_cons_of_mem.{0}
def Af:=@List.size_toArray.{0}
def Ag:=@Nat.le_refl
def Ah:=@PySem.Heap.get?_push_size
def Ai:=@Option.some.inj.{0}
def Aj:=@PySem.Heap.lt_size
def Ak:=@List.mem_cons_self.{0}
def Al:=@List.mem_cons.{0}
def Am:=@List.getElem?_set_self.{0}
def An:=@List.getElem?_eq_getElem.{0}
def Ao:=@Nat.ne_of_lt
def Ap:=@List.length_set.{0}
def Aq:=@List.mem_append_right.{0}
def Ar:=@Nat.lt_of_lt_of_le
def As:=@of_decide_eq_true
def Au:=@decide_eq_true
def Av:=@Nat.le_trans
def Aw:=@decide_eq_false
def Ax:=@List.getElem?_map.{0,0}
def Ay:=@List.getElem?_eq_some_iff.{0}
def Az:=@List.mem_singleton.{0}
def A0:=@Nat.add_sub_cancel_left
def A1:=@beq_eq_false_iff_ne.{0}
def A2:=@List.mem_map.{0,0}
def A3:=@List.mem_append.{0}
def A4:=@decide_eq_true_eq
def A5:=@PySem.wpAny_setField_rec
def A6:=@PySem.wpAny_callSpecial?_slot
def A7:=@Array.length_toList.{0}
def A8:=@Nat.lt_irrefl
def A9:=@List.mem_append_left.{0}
def Ba:=@List.filterMap_cons_none.{0,0}
def Bb:=@PySem.wpAny_call_entry
def Bc:=@List.length_replicate.{0}
def Bd:=@PySem.wpAny_field
def Be:=@PySem.sizeLine_eq
def Bf:=@PySem.wpAny_newObj_type
def Bg:=@Int.toNat_natCast
def Bh:=@PyProof.Rows.slot_tuple_getitem
def Bj:=@Nat.zero_le
def Bk:=@List.getElem?_append_right.{0}
def Bl:=@List.getElem_mem.{0}
def Bm:=@Option.map_eq_some_iff.{0,0}
def Bn:=@List.zip_cons_cons.{0,0}
def Bp:=@List.replicate_succ.{0}
def Bq:=@List.length_singleton.{0}
def Br:=@PyProof.Rows.callWith_type1
def Bs:=@PySem.Heap.size_push
def Bt:=@List.append_nil.{0}
def Bu:=@List.nodup_cons.{0}
def Bv:=@List.map_map.{0,0,0}
def Bw:=@List.not_mem_nil.{0}
def Bx:=@List.all_eq_true.{0}
def Bz:=@List.getElem?_append_left.{0}
def B0:=@PySem.mem_of_lookup
def B1:=@Nat.lt_succ_of_lt
def B2:=@PySem.wpAny_holding
def B3:=@List.filterMap_cons_some.{0,0}
def B4:=@Nat.ne_of_gt
def B5:=@PySem.wpAny_Call_Name_kw
def B6:=@PySem.F.called_set
def B7:=@PySem.Around.under_plainId
def B8:=@PySem.wpAny_truthy_bool
def B9:=@List.flatten_cons.{0}
def Ca:=@List.getD_eq_getElem?_getD.{0}
def Cb:=@List.foldl_cons.{0,0}
def Cc:=@List.map_append.{0,0}
def Cd:=@List.length_take.{0}
def Ce:=@PyProof.Rows.callWith_builtin1
def Cf:=@List.take_length.{0}
def Cg:=@Nat.lt_succ_self
def Ch:=@List.getElem_map.{0,0}
def Ci:=@List.getElem?_replicate.{0}
def Cj:=@PySem.codeAny_builtin
def Ck:=@PyProof.Rows.F.plain_set_update_loop
def Cm:=@List.mem_range
def Co:=@List.mem_filterMap.{0,0}
def Cp:=@PySem.F.slot_tuple_iterator_next
def Cq:=@PySem.wpAny_seqItems
def Cr:=@Array.getElem?_toList.{0}
def Cs:=@Array.getElem?_eq_getElem.{0}
def Cu:=@List.mem_filter.{0}
def Cv:=@Bool.or_eq_true
def Cw:=@PySem.W.kia_one
def Cy:=@Option.some.injEq.{0}
def Cz:=@List.take_succ_eq_append_getElem.{0}
def C0:=@List.map_congr_left.{0,0}
def C1:=@Int.toNat_of_nonneg
def C2:=@List.length_drop.{0}
def C3:=@beq_self_eq_true.{0}
def C4:=@PySem.AutoSeq1.wpAny_loadPart'
def C5:=@PySem.F.plainAttrs_list
def C6:=@Bool.false_ne_true
def C7:=@Nat.le_of_lt
def C8:=@PySem.wpAny_mono
def C9:=@PySem.Calls.spliced_cons
def Da:=@List.length_append.{0}
def Db:=@PySem.Heap.get?_update_other
def Dc:=@PySem.wpAny_Call_method_late
def Dd:=@PySem.Calls.callWith_builtin
def De:=@Bool.or_true
def Df:=@List.pairwise_cons.{0}
def Dg:=@PySem.F.slot_dict_get
def Dh:=@PySem.F.slot_enumerate_next
def Di:=@List.length_filter_le.{0}
def Dj:=@List.filterMap_append.{0,0}
def Dk:=@List.foldl_append.{0,0}
def Dl:=@PySem.Calls.evalArgs_plain
def Dm:=@Nat.le_succ
def Dn:=@PySem.wpAny_typeOf
def Dp:=@List.lookup_cons.{0,0}
def Dq:=@PySem.wpAny_isInstance
def Dr:=@PySem.wpAny_askSetting
def Ds:=@List.getElem?_eq_none_iff.{0}
def Dt:=@List.drop_eq_getElem_cons.{0}
def Du:=@List.filterMap_cons.{0,0}
def Dv:=@List.toList_toArray.{0}
def Dw:=@PyProof.Rows.F.entry_set_update_loop
def Dy:=@PySem.Heap.get?_update_ne
def Dz:=@PySem.F.args_tuple_add_2
def D1:=@Bool.and_true
def D2:=@PySem.wpAny_attempt
def D3:=@PySem.plainId_quiet
def D4:=@Bool.not_true
def D5:=@PySem.F.slot_list_append
def D6:=@PySem.F.type_list_append
def D7:=@PySem.wpAny_passesOwn
def D8:=@PySem.wpAny_rule
def D9:=@beq_iff_eq.{0}
def Ea:=@PySem.F.entry_tuple_add
def Eb:=@PySem.F.plainAttrs_dict
def Ec:=@PySem.Calls.spliced_nil
def Ed:=@PySem.F.slot_tuple_add
def Ee:=@List.reverse_cons.{0}
def Ef:=@List.append_assoc.{0}
def Eg:=@PySem.wpAny_pyIter_list
def Eh:=@List.take_of_length_le.{0}
def Ei:=@PySem.wpAny_setState_of
def Ej:=@PySem.F.plain_list_iadd
def Ek:=@Bool.not_false
def El:=@List.map_inj_left.{0,0}
theorem nf{p:Prop}(h:false=true):p:=absurd h C6
def gS:=@List.getElem?_cons_succ.{0}
def gZ:=@List.getElem?_cons_zero.{0}
def lS:=@List.set_cons_succ.{0}
def lZ:=@List.set_cons_zero.{0}
def bF:=@Bool.false_eq_true
def lC:=@List.length_cons.{0}
def lN:=@List.length_nil.{0}
def lA:=@List.length_append.{0}
def mC:=@List.map_cons.{0,0}
def mN:=@List.map_nil.{0,0}
def lM:=@List.length_map.{0,0}
def mG:=@List.mem_of_getElem?.{0}
def bN:=@Bool.false_ne_true
def bA:=@Bool.and_eq_true
noncomputable section
set_option maxRecDepth 100000
namespace L2
open PySem PySem.Spec PyProof.Rows
abbrev Key:=Sum Int Str
def jJ:Key->Value->Bool
 | .inl k,v=>Value.isInt k v
 | .inr x,v=>Value.isStrOf x v
def aLL(w:World):Key->Int
 | .inl k=>hashInt k
 | .inr x=>hashStr w x
theorem keyIs_shape:∀{k:Key} {v:Value},jJ k v=true->(∃i t,k=Sum.inl i/\v=Value.int i t)\/(∃x t,k=Sum.inr x/\v=Value.str x t)
 | .inl i,v,h=>by
  obtain⟨t,e⟩:=Value.isInt_shape (k:=i) (v:=v) h
  exact .inl ⟨i,t,rfl,e⟩
 | .inr x,v,h=>by
  obtain⟨t,e⟩:=Value.isStrOf_shape (x:=x) (v:=v) h
  exact .inr ⟨x,t,rfl,e⟩
theorem aAj(i:Int)(t:Tok):jJ (.inl i) (.int i t)=true:=by simp[jJ,Value.isInt]
theorem pP(x:Str)(t:Tok):jJ (.inr x) (.str x t)=true:=by simp[jJ,Value.isStrOf]
theorem aFK(a b:Int):decide ((Sum.inl a:Key)=Sum.inl b)=(a==b):=by
 by_cases e:a=b
 . subst e;simp
 . have h:¬ (Sum.inl a:Key)=Sum.inl b:=λq=>e (Sum.inl.inj q)
   rw[Aw h]
   exact(A1.mpr e).symm
theorem aFL(a b:Str):decide ((Sum.inr a:Key)=Sum.inr b)=decide (a=b):=by
 by_cases e:a=b
 . subst e;simp
 . have h:¬ (Sum.inr a:Key)=Sum.inr b:=λq=>e (Sum.inr.inj q)
   rw[Aw h,Aw e]
theorem aFM(a:Int)(b:Str):decide ((Sum.inl a:Key)=Sum.inr b)=false:=Aw (λq=>nomatch q)
theorem aFN(a:Str)(b:Int):decide ((Sum.inr a:Key)=Sum.inl b)=false:=Aw (λq=>nomatch q)
def bS(prog:Program)(w:World):PySem.KeyKind prog w Key where
 is:=jJ
 hash:=aLL w
 inj:=λv a b ha hb=>by
  rcases keyIs_shape ha with⟨i,t,rfl,rfl⟩|⟨x,t,rfl,rfl⟩
  . rcases keyIs_shape hb with⟨j,u,rfl,e⟩|⟨y,u,rfl,e⟩
    . injection e with e1 _;rw[e1]
    . exact nomatch e
  . rcases keyIs_shape hb with⟨j,u,rfl,e⟩|⟨y,u,rfl,e⟩
    . exact nomatch e
    . injection e with e1 _;rw[e1]
 byValue:=λk v h=>by
  rcases keyIs_shape h with⟨i,t,rfl,rfl⟩|⟨x,t,rfl,rfl⟩ <;> rfl
 pyHash:=λhv h=>by
  rcases keyIs_shape hv with⟨i,t,rfl,rfl⟩|⟨x,t,rfl,rfl⟩
  . exact wpAny_pyHash_int h
  . exact wpAny_pyHash_str h
 eqBool:=λhu hv h=>by
  rcases keyIs_shape hu with⟨i,t,rfl,rfl⟩|⟨x,t,rfl,rfl⟩
  . rcases keyIs_shape hv with⟨j,u,rfl,rfl⟩|⟨y,u,rfl,rfl⟩
    . rw[aFK] at h;exact wpAny_eqBool_int h
    . rw[aFM] at h;exact SeqAt.EqAt.int_str i t y u _ _ _ _ h
  . rcases keyIs_shape hv with⟨j,u,rfl,rfl⟩|⟨y,u,rfl,rfl⟩
    . rw[aFN] at h;exact SeqAt.EqAt.str_int x t j u _ _ _ _ h
    . rw[aFL] at h;exact wpAny_eqBool_str h
 «strs»:=λk x t v h=>by
  rcases keyIs_shape h with⟨i,u,rfl,e⟩|⟨y,u,rfl,e⟩
  . exact nomatch e
  . injection e with e1 _
    subst e1
    cases v <;> rfl
end L2
namespace L2
open PySem PySem.Spec PyProof.Rows
set_option genInjectivity true in
inductive V where
 | non|bl (b:Bool)|int (i:Int)|str (x:Str)|byt (b:Array UInt8)|flt (b:UInt64)|ref (a:Addr)|ty (n:String)
 deriving DecidableEq
def aW:V->Value->Prop
 | .non,u=>u=Value.none
 | .bl b,u=>u=Value.bool b
 | .int i,u=>∃t,u=Value.int i t
 | .str x,u=>∃t,u=Value.str x t
 | .byt b,u=>∃t,u=Value.bytes b t
 | .flt b,u=>∃t,u=Value.float b t
 | .ref a,u=>u=Value.ref a
 | .ty n,u=>u=Value.type n
abbrev aM:List V->List Value->Prop:=Paired aW
theorem aM.length{xs:List V}{us:List Value}(r:aM xs us):xs.length=us.length:=Paired.length r
theorem aM.get:∀{xs:List V} {us:List Value} {i:Nat} {x:V},aM xs us->xs[i]? = some x->∃u,us[i]? = some u/\aW x u
 | _,_,_,_,.nil,e=>by simp at e
 | _,_,0,_,.cons r _,e=>by simp at e;subst e;exact⟨_,rfl,r⟩
 | _,_,i+1,x,.cons _ t,e=>by
  obtain⟨u,h1,h2⟩:=aM.get (i:=i) (x:=x) t (by simpa using e)
  exact⟨u,by simpa using h1,h2⟩
theorem aM.set{x:V}{u:Value}(r:aW x u):∀{xs:List V} {us:List Value} (i:Nat),aM xs us->aM (xs.set i x) (us.set i u)
 | _,_,_,.nil=>.nil
 | _,_,0,.cons _ t=>.cons r t
 | _,_,i+1,.cons q t=>.cons q (aM.set r i t)
theorem aM.append:∀{xs ys:List V} {us ws:List Value},aM xs us->aM ys ws->aM (xs++ys) (us++ws)
 | _,_,_,_,.nil,s=>s
 | _,_,_,_,.cons r t,s=>.cons r (aM.append t s)
theorem aM.take:∀{xs:List V} {us:List Value} (n:Nat),aM xs us->aM (xs.take n) (us.take n)
 | _,_,0,_=>.nil
 | _,_,_+1,.nil=>.nil
 | _,_,n+1,.cons r t=>.cons r (aM.take n t)
theorem aM.drop:∀{xs:List V} {us:List Value} (n:Nat),aM xs us->aM (xs.drop n) (us.drop n)
 | _,_,0,r=>r
 | _,_,_+1,.nil=>.nil
 | _,_,n+1,.cons _ t=>aM.drop n t
theorem aM.none_of:∀{xs:List V} {us:List Value} {i:Nat},aM xs us->xs[i]? = none->us[i]? = none:=λ{xs us i} r e=>by
 have h1:=r.length
 have h2:xs.length<=i:=Ds.mp e
 exact Ds.mpr (by omega)
def aIF:Option V->Option Value->Prop
 | some v,some u=>aW v u
 | none,none=>True
 | _,_=>False
def KV{κ:Type}:List (κ×V)->List (κ×Value)->Prop:=Paired λ(p:κ×V) (q:κ×Value)=>p.1=q.1/\aW p.2 q.2
def kV:Key->V
 | .inl i=>.int i
 | .inr x=>.str x
set_option genInjectivity true in
inductive HO where
 | lst (xs:List V)
 | tup (xs:List V)
 | dK (kvs:List (Key×V))|dT (kvs:List (List Key×V))
 | set (S:Int->Bool) (n:Nat)
 | ins (C dx:Addr) (fs:List (Str×V))
 | own (x:Addr)
 | xd (fs:List (Str×V))
 | met (f x:Addr)
 | rng (lo hi:Int)
 | frz (o:Obj) (u:HO)
 | tbl (ps:Array Value)
 | ext (φ:Heap->Prop)
abbrev Hp:=Addr->Option HO
def upd(H:Hp)(a:Addr)(o:HO):Hp:=λb=>if b=a then some o else H b
theorem aL{H:Hp}{a:Addr}{o:HO}:upd H a o a=some o:=by unfold upd;rw[if_pos rfl]
theorem upd_ne{H:Hp}{a b:Addr}{o:HO}(h:b≠a):upd H a o b=H b:=by unfold upd;rw[if_neg h]
theorem aU{H:Hp}{a b:Addr}{o:HO}(h:H a=some o)(h':H b=none):a≠b:=by
 intro e;subst e;rw[h] at h';cases h'
section
variable (P:Program) (w:World)
def dA(H:Hp)(h:Heap)(a:Addr):HO->Prop
 | .lst xs=>xs.length<=sizeLine/\∃(its:List Value) (n:Nat),aM xs its/\h.get? a=some { cls:=.type "list",data:=.seq its.toArray n }
 | .tup xs=>xs.length<=sizeLine/\∃its:List Value,aM xs its/\IsTup h a its.toArray
 | .dK kvs=>kvs.length<=sizeLine/\(a==sysModules)=false/\∃vs,KV kvs vs/\h.DictOf (bS P w) a vs
 | .dT kvs=>kvs.length<=sizeLine/\(a==sysModules)=false/\∃xs:List (List Key×Addr×Value),
  Paired (λ(p:List Key×V) (q:List Key×Addr×Value)=>p.1=q.1/\H q.2.1=some (.tup (p.1.map kV))/\aW p.2 q.2.2) kvs xs /\
  ∃o es ep,h.get? a=some o/\o.ExactDict/\o.data=.dict es ep/\es.toList=xs.map (entryOfKey (tupleKind (bS P w)))/\(xs.map (·.1)).Nodup
 | .set S n=>h.SetOf (intKind P w) a S n
 | .ins C dx fs=>H dx=some (.own a)/\fs.length<=1000/\dx≠a/\h.get? a=some (PySem.W.instObj C dx) /\
  ∃mA,h.Ns1 dx mA/\(∀f,aIF (fs.lookup f) (mA f))/\PySem.Within mA (fs.map (·.1))
 | .own _=>∃o,h.get? a=some o
 | .xd fs=>∃mA,h.Ns1 a mA/\∀f,aIF (fs.lookup f) (mA f)
 | .rng lo hi=>∃t u v,h.get? a=some { cls:=.type "range",data:=.fields #[.int lo t,.int hi u,.int 1 v] }
 | .frz o u=>h.get? a=some o/\dA H h a u
 | .tbl ps=>h.get? a=some { cls:=.none,data:=.fields ps }
 | .met f x=>h.get? a=some (PySem.W.methodObj (.ref f) (.ref x))
 | .ext φ=>φ h/\(∃o,h.get? a=some o)/\∀h1 h2:Heap,φ h1->(∀o,h1.get? a=some o->h2.get? a=some o)->φ h2
def HOk(H:Hp)(h:Heap):Prop:=∀a o,H a=some o->dA P w H h a o
end
section
variable {P:Program} {w:World} {H H':Hp} {h h':Heap} {a:Addr} {o:HO}
theorem dA.lt(x:dA P w H h a o):a<h.objs.size:=by
 cases o with
 | lst xs=>obtain⟨_,_,_,_,e⟩:=x;exact Aj e
 | tup xs=>obtain⟨_,_,_,p⟩:=x;exact p.lt
 | dK kvs=>obtain⟨_,_,_,_,o,_,_,e,_⟩:=x;exact Aj e
 | dT kvs=>obtain⟨_,_,_,_,o,_,_,e,_⟩:=x;exact Aj e
 | set S n=>obtain⟨o,_,_,_,e,_⟩:=x;exact Aj e
 | ins C dx fs=>obtain⟨_,_,_,e,_⟩:=x;exact Aj e
 | own y=>obtain⟨_,e⟩:=x;exact Aj e
 | xd fs=>obtain⟨_,⟨_,_,_,e,_⟩,_⟩:=x;exact Aj e
 | rng lo hi=>obtain⟨_,_,_,e⟩:=x;exact Aj e
 | frz ob u=>obtain⟨e,_⟩:=x;exact Aj e
 | tbl ps=>exact Aj (show h.get? a=some _ from x)
 | met f y=>exact Aj (show h.get? a=some _ from x)
 | ext φ=>obtain⟨_,⟨_,e⟩,_⟩:=x;exact Aj e
theorem Paired.mapP{α β:Type}{F G:α->β->Prop}:∀{l₁:List α} {l₂:List β},Paired F l₁ l₂->(∀a b,F a b->G a b)->Paired G l₁ l₂
 | _,_,.nil,_=>.nil
 | _,_,.cons r t,f=>.cons (f _ _ r) (Paired.mapP t f)
theorem dA.stay(x:dA P w H h a o)(k:∀b u,(b=a\/H b=some (.own a))->h.get? b=some u->h'.get? b=some u)
 (ho:∀b,H b=some (.own a)->H' b=some (.own a)) (ht:∀b xs,H b=some (.tup xs)->H' b=some (.tup xs)):dA P w H' h' a o:=by
 induction o with
 | lst xs=>obtain⟨z,its,n,r,e⟩:=x;exact⟨z,its,n,r,k _ _ (.inl rfl) e⟩
 | tup xs=>obtain⟨z,its,r,ob,e,c⟩:=x;exact⟨z,its,r,ob,k _ _ (.inl rfl) e,c⟩
 | dK kvs=>obtain⟨z,y,vs,r,ob,es,ep,e,c⟩:=x;exact⟨z,y,vs,r,ob,es,ep,k _ _ (.inl rfl) e,c⟩
 | dT kvs=>
  obtain⟨z,y,xs,r,ob,es,ep,e,c⟩:=x
  exact⟨z,y,xs,Paired.mapP r λp q z=>⟨z.1,ht _ _ z.2.1,z.2.2⟩,ob,es,ep,k _ _ (.inl rfl) e,c⟩
 | set S n=>obtain⟨ob,es,ep,t,e,c⟩:=x;exact⟨ob,es,ep,t,k _ _ (.inl rfl) e,c⟩
 | ins C dx fs=>
  obtain⟨d,z,ne,e,mA,⟨od,es,ep,e2,c⟩,r⟩:=x
  exact⟨ho _ d,z,ne,k _ _ (.inl rfl) e,mA,⟨od,es,ep,k _ _ (.inr d) e2,c⟩,r⟩
 | own y=>obtain⟨ob,e⟩:=x;exact⟨ob,k _ _ (.inl rfl) e⟩
 | xd fs=>obtain⟨mA,⟨od,es,ep,e,c⟩,r⟩:=x;exact⟨mA,⟨od,es,ep,k _ _ (.inl rfl) e,c⟩,r⟩
 | rng lo hi=>obtain⟨t,u,v,e⟩:=x;exact⟨t,u,v,k _ _ (.inl rfl) e⟩
 | frz ob u ih=>obtain⟨e,q⟩:=x;exact⟨k _ _ (.inl rfl) e,ih q⟩
 | tbl ps=>
  have e:h.get? a=some { cls:=.none,data:=.fields ps }:=x
  show h'.get? a=some { cls:=.none,data:=.fields ps }
  exact k a _ (.inl rfl) e
 | met f y=>
  have e:h.get? a=some (PySem.W.methodObj (.ref f) (.ref y)):=x
  show h'.get? a=some (PySem.W.methodObj (.ref f) (.ref y))
  exact k a _ (.inl rfl) e
 | ext φ=>obtain⟨p,⟨o,e⟩,st⟩:=x;exact⟨st _ _ p λo q=>k _ _ (.inl rfl) q,⟨o,k _ _ (.inl rfl) e⟩,st⟩
theorem HOk.lt(x:HOk P w H h)(e:H a=some o):a<h.objs.size:=(x a o e).lt
theorem HOk.fresh(x:HOk P w H h)(e:h.objs.size<=a):H a=none:=by
 cases q:H a with
 | none=>rfl
 | some u=>exact absurd (Ar (x.lt q) e) (A8 _)
theorem HOk.kept(x:HOk P w H h)(k:∀b u,h.get? b=some u->h'.get? b=some u):HOk P w H h':=λa o e=>
 (x a o e).stay (λb u _ q=>k b u q) (λ_ q=>q) λ_ _ q=>q
theorem HOk.laid(x:HOk P w H h)(k:∀b u,h.get? b=some u->h'.get? b=some u)(hp:h.objs.size<=a)(new:dA P w (upd H a o) h' a o):HOk P w (upd H a o) h':=λb u e=>by
 have hn:=x.fresh hp
 by_cases hb:b=a
 . subst hb;rw[aL] at e;cases e;exact new
 . rw[upd_ne hb] at e
   exact(x b u e).stay (λc v _ q=>k c v q) (λc q=>by rw[upd_ne (aU q hn)];exact q) λc xs q=>by rw[upd_ne (aU q hn)];exact q
end
def Rd(H:Hp)(a:Addr)(u:HO):Prop:=H a=some u\/∃o,H a=some (.frz o u)
theorem Rd.ok{P:Program}{w:World}{H:Hp}{h:Heap}{a:Addr}{u:HO}(r:Rd H a u)(x:HOk P w H h):dA P w H h a u:=by
 rcases r with r|⟨o,r⟩
 . exact x a u r
 . obtain⟨_,q⟩:=x a _ r
   exact q
def Mut:Option HO->Prop
 | some (.lst _)=>True
 | some (.dK _)=>True
 | some (.dT _)=>True
 | some (.set _ _)=>True
 | some (.ins _ _ _)=>True
 | some (.ext _)=>True
 | _=>False
section
variable {P:Program} {w:World} {H:Hp} {h h':Heap} {x e:Addr} {o':HO}
theorem HOk.write(ok:HOk P w H h)(mu:Mut (H x))(he:e=x\/H e=some (.own x))(k:∀b u,b≠e->h.get? b=some u->h'.get? b=some u)(heo:∃u,h'.get? e=some u)
 (new:dA P w (upd H x o') h' x o'):HOk P w (upd H x o') h':=λb u q=>by
 have nown:∀c y,H c=some (.own y)->c≠x:=λc y r z=>by subst z;rw[r] at mu;exact mu
 have ntup:∀c xs,H c=some (.tup xs)->c≠x:=λc xs r z=>by subst z;rw[r] at mu;exact mu
 by_cases hb:b=x
 . subst hb;rw[aL] at q;cases q;exact new
 . rw[upd_ne hb] at q
   by_cases hbe:b=e
   . have q':H b=some (.own x):=by
      rcases he with z|z
      . exact absurd (hbe.trans z) hb
      . rw[hbe];exact z
     rw[q] at q';cases q'
     obtain⟨v,hv⟩:=heo
     exact⟨v,by rw[hbe];exact hv⟩
   . refine(ok b u q).stay (λc v hc r=>k c v ?_ r) (λc r=>by rw[upd_ne (nown c b r)];exact r) λc xs r=>by rw[upd_ne (ntup c xs r)];exact r
     rcases hc with rfl|hc
     . exact hbe
     . rintro rfl
       rcases he with z|z
       . exact nown c b hc z
       . rw[hc] at z;cases z;exact hb rfl
end
structure Un (fs ex:List Addr) (H H':Hp) (h h':Heap):Prop where
 keep:∀b o,h.get? b=some o->H b=none->b∉fs->b∉ex->h'.get? b=some o
 slot:∀b o,h.get? b=some o->H b=none->b∈fs->b∉ex->∃sl,h'.get? b=some { o with slots:=sl }
 free:∀b o,h.get? b=some o->H b=none->b∉ex->H' b=none
 there:∀b o,h.get? b=some o->b∉ex->∃o',h'.get? b=some o'
 tups:∀b xs,H b=some (.tup xs)->H' b=some (.tup xs)
 frzs:∀b o u,H b=some (.frz o u)->H' b=some (.frz o u)
 tbls:∀b ps,H b=some (.tbl ps)->∃more,H' b=some (.tbl (ps++more))
section
variable {fs fs' ex ex':List Addr} {H H1 H2:Hp} {h h1 h2 h':Heap} {a x e:Addr} {o:HO}
theorem Un.any(u:Un fs ex H H1 h h1){b:Addr}{ob:Obj}(q:h.get? b=some ob)(n:H b=none)(hx:b∉ex):∃sl,h1.get? b=some { ob with slots:=sl }:=by
 by_cases hb:b∈fs
 . exact u.slot b ob q n hb hx
 . exact⟨ob.slots,u.keep b ob q n hb hx⟩
theorem Un.kept(k:∀b u,h.get? b=some u->h'.get? b=some u):Un fs ex H H h h':=
 ⟨λb ob q _ _ _=>k b ob q,λb ob q _ _ _=>⟨ob.slots,k b ob q⟩,λ_ _ _ n _=>n,λb ob q _=>⟨ob,k b ob q⟩,λ_ _ q=>q,λ_ _ _ q=>q,λ_ ps q=>⟨#[],by rw[q];simp⟩⟩
theorem Un.refl:Un fs ex H H h h:=Un.kept λ_ _ q=>q
theorem Un.laid(k:∀b u,h.get? b=some u->h'.get? b=some u)(hp:h.objs.size<=a)(hn:H a=none):Un fs ex H (upd H a o) h h' where
 keep:=λb u q _ _ _=>k b u q
 slot:=λb u q _ _ _=>⟨u.slots,k b u q⟩
 free:=λb u q n _=>by rw[upd_ne (Ao (Ar (Aj q) hp))];exact n
 there:=λb u q _=>⟨u,k b u q⟩
 tups:=λb xs q=>by rw[upd_ne (aU q hn)];exact q
 frzs:=λb u xs q=>by rw[upd_ne (aU q hn)];exact q
 tbls:=λb ps q=>⟨#[],by rw[upd_ne (aU q hn),q];simp⟩
theorem Un.write(mu:Mut (H x))(he:e=x\/H e=some (.own x))(k:∀b u,b≠e->h.get? b=some u->h'.get? b=some u)(heo:∃u,h'.get? e=some u):Un fs ex H (upd H x o) h h':=by
 have hx:∀b,H b=none->b≠x:=λb n z=>by subst z;rw[n] at mu;exact mu
 have hb:∀b,H b=none->b≠e:=λb n z=>by
  subst z
  rcases he with r|r
  . exact hx b n r
  . rw[n] at r;cases r
 have hm:∀b u,H b=some u->¬ Mut (some u)->b≠x:=λb u q nm z=>by subst z;rw[q] at mu;exact nm mu
 refine⟨λb u q n _ _=>k b u (hb b n) q,λb u q n _ _=>⟨u.slots,k b u (hb b n) q⟩,λb u q n _=>by rw[upd_ne (hx b n)];exact n,λb u q _=>?_,
  λb xs q=>by rw[upd_ne (hm b _ q λz=>z)];exact q,λb u xs q=>by rw[upd_ne (hm b _ q λz=>z)];exact q,λb ps q=>⟨#[],by rw[upd_ne (hm b _ q λz=>z),q];simp⟩⟩
 by_cases hbe:b=e
 . subst hbe;exact heo
 . exact⟨u,k b u hbe q⟩
end
def trk(h:Heap)(H:Hp):List Addr:=(List.range h.objs.size).filter λa=>(H a).isSome
def qY(h:Heap)(H:Hp):Heap:=PySem.W.hideAll h (trk h H)
theorem aAk(h:Heap)(H:Hp):(qY h H).objs.size=h.objs.size:=PySem.W.hideAll_size _ _
theorem aBl{h:Heap}{H:Hp}{b:Addr}{o:Obj}(e:h.get? b=some o)(n:H b=none):(qY h H).get? b=some o:=
 PySem.W.hideAll_get _ e λhm=>by
  have q:(H b).isSome=true:=(Cu.mp hm).2
  rw[n] at q;simp at q
theorem aDz{h:Heap}{H:Hp}{b:Addr}{o:Obj}(e:(qY h H).get? b=some o):h.get? b=some o/\H b=none:=by
 have e':h.get? b=some o:=PySem.W.of_hideAll (trk h H) e
 refine⟨e',?_⟩
 cases q:H b with
 | none=>rfl
 | some x=>
  have hm:b∈trk h H:=Cu.mpr ⟨Cm.mpr (Aj e'),by simp[q]⟩
  have z:(qY h H).get? b=none:=PySem.W.hideAll_none (trk h H) hm
  rw[z] at e;cases e
def aDA(g h:Heap)(L:Addr):List (Addr×Obj):=(List.range h.objs.size).filterMap λa=>if a=L\/(g.get? a).isSome=true then none else (h.get? a).map λo=>(a,o)
def rest(g h:Heap)(L d:Addr):List (Addr×Obj):=(aDA g h L).filter λp=>decide (p.1≠d)
end L2
namespace L2
open PySem PySem.Spec PyProof.Rows
structure Mod (K:PySem.W.Frag) (mg:Str->Option Value) (base:Heap):Prop where
 kin:K.In base
 glob:base.Ns mainGlobals mg
 blt:∃mb,base.Ns builtinsNs mb/\∀x:Str,x ≠ "__name__" -> mb x=bootBuiltins x
 nolimit:base.NoLimit
set_option genInjectivity true in
structure Cx where
 prog:Program
 w:World
 K:PySem.W.Frag
 mg:Str->Option Value
 base:Heap
 A:Around
 N:List Str
 s₀:Shared
 H₀:Hp
 env:Env
 outer:List Env
 stack:List Env
 ex:List Addr
 fn:Str->Bool
 calm:Bool
 pn:List (Addr×Obj)
 xe:Value->Shared->Prop
def frs(l:List Env):List Addr:=l.filterMap (·.frame)
abbrev Cx.fs(X:Cx):List Addr:=frs X.outer
def Vis(sc:Scope)(x:Str):Prop:=sc.names.lookup x=some .local\/sc.names.lookup x=some .cell\/sc.names.lookup x=some .free
def Loc(sc:Scope)(x:Str):Prop:=sc.names.lookup x=some .local\/sc.names.lookup x=some .cell
def aLM(env:Env)(h:Heap)(m:Str->Option Value)(x:Str)(u:Value):Prop:=
 (env.kindOf x=some .local/\m x=some u)\/((env.kindOf x=some .cell\/env.kindOf x=some .free)/\∃c,env.cells.lookup x=some c/\h.IsCell c (some u))
structure Cx.Ok (X:Cx):Prop where
 mod:Mod X.K X.mg X.base
 kind:X.env.scope.kind=.function
 glob:X.env.globals=mainGlobals
 blt:X.env.builtins=builtinsNs
 above:X.s₀.heap.objs.size<=X.env.locals
 inj:∀x y c,X.env.cells.lookup x=some c->X.env.cells.lookup y=some c->x=y
 has:∀x,(X.env.kindOf x=some .cell\/X.env.kindOf x=some .free)->∃c,X.env.cells.lookup x=some c
 cab:∀x c,X.fn x=true->X.env.cells.lookup x=some c->X.s₀.heap.objs.size<=c
 hd:X.calm=true->X.A.handled=none
 frames:X.A.frames=some X.stack
 stk:X.stack=X.outer\/(X.stack=X.env::X.outer/\X.env.frame=some X.env.locals)
 exf:∀b∈X.ex,b≠X.env.locals/\∀x c,X.env.cells.lookup x=some c->c≠b
 bs:∀b o,X.base.get? b=some o->X.s₀.heap.get? b=some o/\X.H₀ b=none
 bsz:X.base.objs.size<=X.s₀.heap.objs.size
 noex:∀b o,X.base.get? b=some o->b∉X.ex
 exfs:∀b∈X.ex,b∉X.fs
 funs:X.s₀.heap.FunFrames X.base X.outer
 frf:∀b∈X.fs,X.H₀ b=none
structure Inv (X:Cx) (pins:List (Addr×Obj)) (σ:List (Option V)) (H:Hp) (s:Shared):Prop where
 ok:X.Ok
 os:s.os=X.s₀.os
 bare:AllBare s.gens
 base:Un X.fs X.ex X.H₀ H X.s₀.heap s.heap
 loc:∃m,s.heap.Ns X.env.locals m/\∀(i:Nat) (x:Str) (v:V),X.N[i]? = some x->σ[i]? = some (some v)->Vis X.env.scope x->∃u,aW v u/\aLM X.env s.heap m x u
 cell:∀x c,X.env.cells.lookup x=some c->∃v,s.heap.IsCell c v
 free:H X.env.locals=none
 freeC:∀x c,X.env.cells.lookup x=some c->H c=none
 pin:∀p∈X.pn++pins,s.heap.get? p.1=some p.2/\H p.1=none/\p.1≠X.env.locals/\p.1∉X.fs/\∀v,p.2.data≠.cell v
 hok:HOk X.prog X.w H s.heap
 len:σ.length=X.N.length
section
variable {X:Cx} {pins:List (Addr×Obj)} {σ:List (Option V)} {H H':Hp} {s:Shared} {h':Heap}
theorem Cx.Ok.nofr(ok:X.Ok){b:Addr}{o:Obj}(e:X.base.get? b=some o):b∉X.fs:=λhb=>by
 have:=(ok.funs.mem hb).1
 rw[e] at this;cases this
theorem Inv.bs(I:Inv X pins σ H s):∀b o,X.base.get? b=some o->s.heap.get? b=some o/\H b=none:=λb o e=>
 ⟨I.base.keep b o (I.ok.bs b o e).1 (I.ok.bs b o e).2 (I.ok.nofr e) (I.ok.noex b o e),I.base.free b o (I.ok.bs b o e).1 (I.ok.bs b o e).2 (I.ok.noex b o e)⟩
theorem Inv.bk(I:Inv X pins σ H s):∀b o,X.base.get? b=some o->s.heap.get? b=some o:=λb o e=>(I.bs b o e).1
theorem Inv.mod(I:Inv X pins σ H s):Mod X.K X.mg X.base:=I.ok.mod
theorem Inv.kIn(I:Inv X pins σ H s):X.K.In s.heap:=I.ok.mod.kin.keeps I.bk
theorem Inv.lt(I:Inv X pins σ H s):X.env.locals<s.heap.objs.size:=let ⟨_,hn,_⟩:=I.loc;hn.lt
theorem Inv.sz(I:Inv X pins σ H s):X.s₀.heap.objs.size<=s.heap.objs.size:=Av I.ok.above (C7 I.lt)
theorem Inv.nofs(I:Inv X pins σ H s){a:Addr}(h:s.heap.objs.size<=a):a∉X.fs:=λhb=>by
 obtain⟨_,o,ho,_⟩:=I.ok.funs.mem hb
 exact absurd (Ar (Aj ho) (Av I.sz h)) (A8 _)
theorem Inv.cne(I:Inv X pins σ H s):∀x c,X.env.cells.lookup x=some c->c≠X.env.locals:=λx c e z=>by
 obtain⟨v,o,ho,hd⟩:=I.cell x c e
 obtain⟨m,⟨o',es,ep,ho',hd',_⟩,_⟩:=I.loc
 rw[z,ho'] at ho;cases ho;rw[hd'] at hd;cases hd
theorem Inv.funs(I:Inv X pins σ H s):s.heap.FunFrames X.base X.outer:=by
 have all:∀(l:List Env),(∀b∈frs l,b∈X.fs)->X.s₀.heap.FunFrames X.base l->s.heap.FunFrames X.base l:=by
  intro l
  induction l with
  | nil=>intro _ _;trivial
  | cons env r ih=>
   intro hs hl
   obtain⟨hk,⟨L,o,hf,hn,ho,hd⟩,hr⟩:=hl
   have hL:L∈X.fs:=hs L (by unfold frs;rw[Du,hf];exact Ak)
   obtain⟨sl,e⟩:=I.base.slot L o ho (I.ok.frf L hL) hL λz=>I.ok.exfs L z hL
   exact⟨hk,⟨L,_,hf,hn,e,hd⟩,ih (λb hb=>hs b (by unfold frs;rw[Du,hf];exact Ae _ hb)) hr⟩
 exact all X.outer (λ_ hb=>hb) I.ok.funs
theorem Inv.stack(I:Inv X pins σ H s):s.heap.FunFrames X.base X.stack:=by
 rcases I.ok.stk with e|⟨e,hf⟩
 . rw[e];exact I.funs
 . rw[e]
   obtain⟨m,hn,_⟩:=I.loc
   refine .cons (by rw[I.ok.kind];decide) hf hn ?_ I.funs
   exact Heap.get?_none_of_le (Av I.ok.bsz I.ok.above)
theorem Inv.stkSub(I:Inv X pins σ H s):∀b∈frs X.stack,b∈X.env.locals::X.fs:=λb hb=>by
 rcases I.ok.stk with e|⟨e,hf⟩
 . rw[e] at hb;exact Ae _ hb
 . rw[e] at hb
   unfold frs at hb
   rw[Du,hf] at hb
   exact hb
theorem Inv.stkFree(I:Inv X pins σ H s):∀b∈frs X.stack,H b=none:=λb hb=>by
 rcases Al.mp (I.stkSub b hb) with e|hb
 . rw[e];exact I.free
 . obtain⟨_,o,ho,_⟩:=I.ok.funs.mem hb
   exact I.base.free b o ho (I.ok.frf b hb) λz=>I.ok.exfs b z hb
theorem Inv.step{g':Array GenState}{t':Nat}{d':Drawn}{ch:List Addr}(I:Inv X pins σ H s)
 (hch:∀b∈ch,(b∈X.ex\/X.s₀.heap.objs.size<=b)/\b≠X.env.locals/\(∀x c,X.env.cells.lookup x=some c->c≠b)/\∀p∈X.pn++pins,p.1≠b)
 (keep:∀b o,b≠X.env.locals->b∉X.fs->b∉ch->s.heap.get? b=some o->H b=none->h'.get? b=some o)
 (slot:∀b o,b≠X.env.locals->b∈X.fs->b∉ch->s.heap.get? b=some o->H b=none->∃sl,h'.get? b=some { o with slots:=sl }) (free:∀b o,b∉ch->s.heap.get? b=some o->H b=none->H' b=none)
 (there:∀b o,b∉ch->s.heap.get? b=some o->∃o',h'.get? b=some o')
 (tups:∀b xs,H b=some (.tup xs)->H' b=some (.tup xs)) (frzs:∀b o u,H b=some (.frz o u)->H' b=some (.frz o u)) (tbls:∀b ps,H b=some (.tbl ps)->∃more,H' b=some (.tbl (ps++more)))
 (ns:∀m,s.heap.Ns X.env.locals m->h'.Ns X.env.locals m) (hok:HOk X.prog X.w H' h') (hg:AllBare g') :
 Inv X pins σ H' { s with heap:=h',gens:=g',drawn:=d',toks:=t' }:=by
 have neL:∀b o,X.s₀.heap.get? b=some o->b≠X.env.locals:=λb o e=>Ao (Ar (Aj e) I.ok.above)
 have neC:∀b o,X.s₀.heap.get? b=some o->b∉X.ex->b∉ch:=λb o e hx hb=>by
  rcases(hch b hb).1 with z|z
  . exact hx z
  . exact absurd (Ar (Aj e) z) (A8 _)
 have cellK:∀x c,X.env.cells.lookup x=some c->∀v,s.heap.IsCell c v->h'.IsCell c v:=λx c e v ⟨o,ho,hd⟩=>by
  have nch:c∉ch:=λz=>(hch c z).2.2.1 x c e rfl
  by_cases hc:c∈X.fs
  . obtain⟨sl,q⟩:=slot c o (I.cne x c e) hc nch ho (I.freeC x c e)
    exact⟨_,q,hd⟩
  . exact⟨o,keep c o (I.cne x c e) hc nch ho (I.freeC x c e),hd⟩
 refine⟨I.ok,I.os,hg,⟨λb o e n hb hx=>?_,λb o e n hb hx=>?_,λb o e n hx=>?_,λb o e hx=>?_,λb xs e=>tups b xs (I.base.tups b xs e),λb o xs e=>frzs b o xs (I.base.frzs b o xs e),λb ps e=>?_⟩,?_,λx c e=>?_,?_,λx c e=>?_,λp hp=>?_,hok,I.len⟩
 . exact keep b o (neL b o e) hb (neC b o e hx) (I.base.keep b o e n hb hx) (I.base.free b o e n hx)
 . obtain⟨sl,e1⟩:=I.base.slot b o e n hb hx
   obtain⟨sl',e2⟩:=slot b _ (neL b o e) hb (neC b o e hx) e1 (I.base.free b o e n hx)
   exact⟨sl',e2⟩
 . obtain⟨o',e1⟩:=I.base.there b o e hx
   exact free b o' (neC b o e hx) e1 (I.base.free b o e n hx)
 . obtain⟨o',e1⟩:=I.base.there b o e hx
   exact there b o' (neC b o e hx) e1
 . obtain⟨m1,e1⟩:=I.base.tbls b ps e
   obtain⟨m2,e2⟩:=tbls b _ e1
   exact⟨m1++m2,by rw[e2,Array.append_assoc]⟩
 . obtain⟨m,hn,hl⟩:=I.loc
   refine⟨m,ns m hn,λi x v e1 e2 e3=>?_⟩
   obtain⟨u,r,l⟩:=hl i x v e1 e2 e3
   refine⟨u,r,?_⟩
   rcases l with l|⟨k,c,e,z⟩
   . exact .inl l
   . exact .inr ⟨k,c,e,cellK x c e _ z⟩
 . obtain⟨v,z⟩:=I.cell x c e
   exact⟨v,cellK x c e v z⟩
 . obtain⟨m,⟨o,_,_,ho,_⟩,_⟩:=I.loc
   exact free _ o (λz=>(hch _ z).2.1 rfl) ho I.free
 . obtain⟨v,o,ho,hd⟩:=I.cell x c e
   exact free c o (λz=>(hch c z).2.2.1 x c e rfl) ho (I.freeC x c e)
 . obtain⟨e,n,ne,nf,d⟩:=I.pin p hp
   have nch:p.1∉ch:=λz=>(hch p.1 z).2.2.2 p hp rfl
   exact⟨keep p.1 p.2 ne nf nch e n,free p.1 p.2 nch e n,ne,nf,d⟩
theorem Inv.un{t':Nat}(I:Inv X pins σ H s)(u:Un X.fs [] H H' s.heap h')(hok:HOk X.prog X.w H' h'):Inv X pins σ H' { s with heap:=h',toks:=t' }:=by
 obtain⟨m,⟨o,es,ep,ho,r⟩,_⟩:=id I.loc
 obtain⟨sl,hL⟩:=u.any ho I.free (by simp)
 exact I.step (g':=s.gens) (d':=s.drawn) (ch:=[]) (λ_ z=>nomatch z) (λb o _ hb _ e n=>u.keep b o e n hb (by simp)) (λb o _ hb _ e n=>u.slot b o e n hb (by simp)) (λb o _ e n=>u.free b o e n (by simp)) (λb o _ e=>u.there b o e (by simp)) u.tups u.frzs u.tbls (λm' hm=>by
  obtain⟨o',es',ep',ho',r'⟩:=hm
  rw[ho] at ho';cases ho'
  exact⟨_,es',ep',hL,r'⟩) hok I.bare
theorem Inv.call{g':Array GenState}{t':Nat}{d':Drawn}{ch:List Addr}(I:Inv X pins σ H s)(u:Un (frs X.stack) ch H H' s.heap h')(hok:HOk X.prog X.w H' h')(hg:AllBare g')
 (hch:∀b∈ch,(b∈X.ex\/X.s₀.heap.objs.size<=b)/\b≠X.env.locals/\(∀x c,X.env.cells.lookup x=some c->c≠b)/\∀p∈X.pn++pins,p.1≠b) :
 Inv X pins σ H' { s with heap:=h',gens:=g',drawn:=d',toks:=t' }:=by
 obtain⟨m,⟨o,es,ep,ho,r⟩,_⟩:=id I.loc
 obtain⟨sl,hL⟩:=u.any ho I.free λz=>(hch _ z).2.1 rfl
 exact I.step (ch:=ch) hch (λb o hL hb hc e n=>u.keep b o e n (λz=>(Al.mp (I.stkSub b z)).elim hL hb) hc) (λb o _ _ hc e n=>u.any e n hc) (λb o hc e n=>u.free b o e n hc) (λb o hc e=>u.there b o e hc) u.tups u.frzs u.tbls (λm' hm=>by
  obtain⟨o',es',ep',ho',r'⟩:=hm
  rw[ho] at ho';cases ho'
  exact⟨_,es',ep',hL,r'⟩) hok hg
theorem Inv.turned{t':Nat}{it:Addr}(I:Inv X pins σ H s)(k:∀b o,b≠it->s.heap.get? b=some o->h'.get? b=some o)(hn:H it=none)(hL:it≠X.env.locals)
 (h1:it∈X.ex\/X.s₀.heap.objs.size<=it) (h2:∀x c,X.env.cells.lookup x=some c->c≠it) (h3:∀p∈X.pn++pins,p.1≠it):Inv X pins σ H { s with heap:=h',toks:=t' }:=by
 have nit:∀b u,H b=some u->b≠it:=λb u e z=>by rw[z,hn] at e;cases e
 refine I.step (g':=s.gens) (d':=s.drawn) (ch:=[it]) (λb hb=>?_) (λb o _ _ hc e _=>k b o (λz=>hc (by simp[z])) e) (λb o _ _ hc e _=>⟨o.slots,k b o (λz=>hc (by simp[z])) e⟩) (λ_ _ _ _ n=>n)
  (λb o hc e=>⟨o,k b o (λz=>hc (by simp[z])) e⟩) (λ_ _ e=>e) (λ_ _ _ e=>e) (λb ps e=>⟨#[],by rw[e];simp⟩) (λm hm=>?_) (λb u e=>?_) I.bare
 . have e:b=it:=by simpa using hb
   subst e
   exact⟨h1,hL,h2,h3⟩
 . obtain⟨o,es,ep,ho,r⟩:=hm
   exact⟨o,es,ep,k _ o (Ne.symm hL) ho,r⟩
 . refine(I.hok b u e).stay (λc v hc q=>k c v ?_ q) (λ_ q=>q) λ_ _ q=>q
   rcases hc with z|z
   . rw[z];exact nit b u e
   . exact nit c _ z
theorem Inv.tok(I:Inv X pins σ H s)(t:Nat):Inv X pins σ H { s with toks:=t }:=I.un (h':=s.heap) (t':=t) Un.refl I.hok
theorem Inv.kept{t':Nat}(I:Inv X pins σ H s)(k:∀b u,s.heap.get? b=some u->h'.get? b=some u):Inv X pins σ H { s with heap:=h',toks:=t' }:=I.un (Un.kept k) (I.hok.kept k)
theorem Inv.laid{a:Addr}{o:HO}{t':Nat}(I:Inv X pins σ H s)(k:∀b u,s.heap.get? b=some u->h'.get? b=some u)(hp:s.heap.objs.size<=a)(new:dA X.prog X.w (upd H a o) h' a o) :
 Inv X pins σ (upd H a o) { s with heap:=h',toks:=t' }:=I.un (Un.laid k hp (I.hok.fresh hp)) (I.hok.laid k hp new)
theorem Inv.write{x e:Addr}{o:HO}{t':Nat}(I:Inv X pins σ H s)(mu:Mut (H x))(he:e=x\/H e=some (.own x))(k:∀b u,b≠e->s.heap.get? b=some u->h'.get? b=some u)(heo:∃u,h'.get? e=some u)
 (new:dA X.prog X.w (upd H x o) h' x o):Inv X pins σ (upd H x o) { s with heap:=h',toks:=t' }:=I.un (Un.write mu he k heo) (I.hok.write mu he k heo new)
theorem Inv.pins_of{pins':List (Addr×Obj)}(I:Inv X pins σ H s)(h:∀p∈pins',s.heap.get? p.1=some p.2/\H p.1=none/\p.1≠X.env.locals/\p.1∉X.fs/\∀v,p.2.data≠.cell v):Inv X pins' σ H s:=
 ⟨I.ok,I.os,I.bare,I.base,I.loc,I.cell,I.free,I.freeC,λp hp=>(A3.mp hp).elim (λz=>I.pin p (A9 _ z)) (h p),I.hok,I.len⟩
theorem tM{N:List Str}(hN:N.Nodup){i j:Nat}{x:Str}(a:N[i]? = some x)(b:N[j]? = some x):i=j:=by
 obtain⟨h1,e1⟩:=Ay.mp a
 obtain⟨h2,e2⟩:=Ay.mp b
 exact(List.getElem_inj hN).mp (e1.trans e2.symm)
theorem pQ{M:Model}{A:Around}{E:Value->Shared->Prop}{i:Nat}{x:Str}{v:V}{u:Value}{Q:Unit->Shared->Prop}(I:Inv X pins σ H s)(hN:X.N.Nodup)(hi:X.N[i]? = some x)(hx:Loc X.env.scope x)(r:aW v u)
 (h:∀s',Inv X pins (σ.set i (some v)) H s'->(∃a,Heap.SameBut a s.heap s'.heap/\(a=X.env.locals\/X.env.cells.lookup x=some a))->Q () s') (hf:X.fn x=true\/X.env.scope.names.lookup x=some .local:=by first|exact .inl rfl|exact .inr rfl|assumption):wpAny M A (storeName X.env x u) Q E s:=by
 obtain⟨m,hn,hl⟩:=id I.loc
 have hcls:(X.env.scope.kind==.class||(X.env.scope.kind==.module&&X.env.locals != X.env.globals))=false:=by rw[I.ok.kind];rfl
 have hiσ:i<σ.length:=by rw[I.len];exact(Ay.mp hi).1
 have cne:=I.cne
 have tracked:∀{a:Addr} {h':Heap},(∃o,s.heap.get? a=some o/\H a=none)->Heap.SameBut a s.heap h'->HOk X.prog X.w H h':=λ{a h'} ha hs b ob e=>by
  obtain⟨_,_,hfree⟩:=ha
  refine(I.hok b ob e).stay (λc w' hc q=>(hs.2 c ?_).trans q) (λ_ q=>q) λ_ _ q=>q
  rintro rfl
  rcases hc with rfl|hc
  . rw[hfree] at e;cases e
  . rw[hfree] at hc;cases hc
 rcases hx with hk|hk
 . refine wpAny_storeName_local hk hn (λh' hn' hs=>?_) hcls
   obtain⟨oL,_,_,hoL,_⟩:=id hn
   refine h _ ⟨I.ok,I.os,I.bare,⟨λb o e n hb hx=>?_,λb o e n hb hx=>?_,I.base.free,λb o e hx=>?_,I.base.tups,I.base.frzs,I.base.tbls⟩,⟨_,hn',λj y v' e1 e2 e3=>?_⟩,λy c e=>?_,I.free,I.freeC,λp hp=>?_,tracked ⟨oL,hoL,I.free⟩ hs,by simpa using I.len⟩ ⟨_,hs,.inl rfl⟩
   . exact(hs.2 b (Ao (Ar (Aj e) I.ok.above))).trans (I.base.keep b o e n hb hx)
   . obtain⟨sl,e1⟩:=I.base.slot b o e n hb hx
     exact⟨sl,(hs.2 b (Ao (Ar (Aj e) I.ok.above))).trans e1⟩
   . obtain⟨o',e1⟩:=I.base.there b o e hx
     exact⟨o',(hs.2 b (Ao (Ar (Aj e) I.ok.above))).trans e1⟩
   . by_cases hj:j=i
     . subst hj
       rw[hi] at e1;cases e1
       rw[Am hiσ] at e2
       cases e2
       exact⟨u,r,.inl ⟨hk,by simp⟩⟩
     . rw[Ac (Ne.symm hj)] at e2
       obtain⟨u',r',q⟩:=hl j y v' e1 e2 e3
       refine⟨u',r',?_⟩
       rcases q with⟨k,e⟩|⟨k,c,e,z⟩
       . refine .inl ⟨k,?_⟩
         have:y≠x:=λe=>hj (tM hN e1 (e▸hi))
         simp[this,e]
       . exact .inr ⟨k,c,e,z.sameBut hs (cne y c e)⟩
   . obtain⟨w',z⟩:=I.cell y c e
     exact⟨w',z.sameBut hs (cne y c e)⟩
   . obtain⟨e,n,ne,nf,d⟩:=I.pin p hp
     exact⟨(hs.2 p.1 ne).trans e,n,ne,nf,d⟩
 . have hfn:X.fn x=true:=by
    rcases hf with z|z
    . exact z
    . rw[z] at hk;cases hk
   obtain⟨c,hc⟩:=I.ok.has x (.inl hk)
   obtain⟨w',z⟩:=I.cell x c hc
   refine wpAny_storeName_cell I.ok.kind hk hc z (λh' hc' hs=>?_)
   obtain⟨oc,hoc,hocd⟩:=id z
   refine h { s with heap:=h' } ⟨I.ok,I.os,I.bare,⟨λb o e n hb hx=>?_,λb o e n hb hx=>?_,I.base.free,λb o e hx=>?_,I.base.tups,I.base.frzs,I.base.tbls⟩,⟨m,hn.sameBut hs (Ne.symm (cne x c hc)),λj y v' e1 e2 e3=>?_⟩,λy c' e=>?_,I.free,I.freeC,λp hp=>?_,tracked ⟨oc,hoc,I.freeC x c hc⟩ hs,by simpa using I.len⟩ ⟨c,hs,.inr hc⟩
   . exact(hs.2 b (Ao (Ar (Aj e) (I.ok.cab x c hfn hc)))).trans (I.base.keep b o e n hb hx)
   . obtain⟨sl,e1⟩:=I.base.slot b o e n hb hx
     exact⟨sl,(hs.2 b (Ao (Ar (Aj e) (I.ok.cab x c hfn hc)))).trans e1⟩
   . obtain⟨o',e1⟩:=I.base.there b o e hx
     exact⟨o',(hs.2 b (Ao (Ar (Aj e) (I.ok.cab x c hfn hc)))).trans e1⟩
   . by_cases hj:j=i
     . subst hj
       rw[hi] at e1;cases e1
       rw[Am hiσ] at e2
       cases e2
       exact⟨u,r,.inr ⟨.inl hk,c,hc,hc'⟩⟩
     . rw[Ac (Ne.symm hj)] at e2
       obtain⟨u',r',q⟩:=hl j y v' e1 e2 e3
       refine⟨u',r',?_⟩
       rcases q with q|⟨k,c',e,z'⟩
       . exact .inl q
       . refine .inr ⟨k,c',e,z'.sameBut hs ?_⟩
         rintro rfl
         exact hj (tM hN e1 (I.ok.inj _ _ _ e hc▸hi))
   . by_cases hcc:c'=c
     . subst hcc;exact⟨_,hc'⟩
     . obtain⟨w2,z2⟩:=I.cell y c' e
       exact⟨w2,z2.sameBut hs hcc⟩
   . obtain⟨e,n,ne,nf,d⟩:=I.pin p hp
     refine⟨(hs.2 p.1 ?_).trans e,n,ne,nf,d⟩
     intro q
     rw[q,hoc] at e
     have q':oc=p.2:=Ai e
     exact d w' (by rw[<-q'];exact hocd)
theorem tN{M:Model}{A:Around}{E:Value->Shared->Prop}{i:Nat}{x:Str}{v:V}{u:Value}{Q:Unit->Shared->Prop}(I:Inv X pins σ H s)(hN:X.N.Nodup)(hi:X.N[i]? = some x)(hx:Loc X.env.scope x)(r:aW v u)
 (h:∀s',Inv X pins (σ.set i (some v)) H s'->Q () s') (hf:X.fn x=true\/X.env.scope.names.lookup x=some .local:=by first|exact .inl rfl|exact .inr rfl|assumption):wpAny M A (storeName X.env x u) Q E s:=
 pQ I hN hi hx r (λs' I' _=>h s' I') hf
theorem Inv.call'{s':Shared}{ch:List Addr}(I:Inv X pins σ H s)(ho:s'.os=s.os)(u:Un (frs X.stack) ch H H' s.heap s'.heap)(hok:HOk X.prog X.w H' s'.heap)(hg:AllBare s'.gens)
 (hch:∀b∈ch,(b∈X.ex\/X.s₀.heap.objs.size<=b)/\b≠X.env.locals/\(∀x c,X.env.cells.lookup x=some c->c≠b)/\∀p∈X.pn++pins,p.1≠b):Inv X pins σ H' s':=by
 obtain⟨h',g',d',t',o'⟩:=s'
 have e:o'=s.os:=ho
 subst e
 exact I.call (g':=g') (t':=t') (d':=d') u hok hg hch
end
abbrev XK:=Value->Option Addr->Hp->Prop
abbrev St:=List (Option V)
abbrev VK:=V->Hp->Prop
abbrev TE:=St->Hp->VK->Prop
abbrev TT:=St->Hp->(Bool->Hp->Prop)->Prop
abbrev TA:=St->Hp->(List V->Hp->Prop)->Prop
structure Ends where
 nx:St->Hp->Prop
 rt:VK
 bk:St->Hp->Prop:=λ_ _=>False
 ct:St->Hp->Prop:=λ_ _=>False
abbrev TS:=Ends->St->Hp->Prop
def EP(X:Cx)(pins:List (Addr×Obj))(σ:St)(Q:VK)(u:Value)(s':Shared):Prop:=∃v H',Inv X pins σ H' s'/\aW v u/\Q v H'
def TP(X:Cx)(pins:List (Addr×Obj))(σ:St)(Q:Bool->Hp->Prop)(b:Bool)(s':Shared):Prop:=∃H',Inv X pins σ H' s'/\Q b H'
def AP(X:Cx)(pins:List (Addr×Obj))(σ:St)(Q:List V->Hp->Prop)(us:List Value)(s':Shared):Prop:=∃vs H',Inv X pins σ H' s'/\aM vs us/\Q vs H'
def SP(X:Cx)(pins:List (Addr×Obj))(D:Ends)(f:Flow)(s':Shared):Prop:=
 match f with
 | .next=>∃σ' H',Inv X pins σ' H' s'/\D.nx σ' H'
 | .brk=>∃σ' H',Inv X pins σ' H' s'/\D.bk σ' H'
 | .cont=>∃σ' H',Inv X pins σ' H' s'/\D.ct σ' H'
 | .ret u=>∃v σ' H',Inv X pins σ' H' s'/\aW v u/\D.rt v H'
def PE(X:Cx)(e:Expr)(t:TE):Prop:=
 ∀(pins:List (Addr×Obj)) (s:Shared) (σ:St) (H:Hp) (Q:VK),Inv X pins σ H s->t σ H Q->wpAny (model X.prog X.w) X.A (eval e X.env) (EP X pins σ Q) X.xe s
def PT(X:Cx)(e:Expr)(t:TT):Prop:=
 ∀(pins:List (Addr×Obj)) (s:Shared) (σ:St) (H:Hp) (Q:Bool->Hp->Prop),Inv X pins σ H s->t σ H Q->wpAny (model X.prog X.w) X.A (isTrue e X.env (eval e X.env)) (TP X pins σ Q) X.xe s
def PW(X:Cx)(e:Expr)(t:TT):Prop:=
 ∀(whole:Sem Value) (pins:List (Addr×Obj)) (s:Shared) (σ:St) (H:Hp) (Q:Bool->Hp->Prop),Inv X pins σ H s->t σ H Q->wpAny (model X.prog X.w) X.A (isTrue e X.env whole) (TP X pins σ Q) X.xe s
theorem PW.pt{X:Cx}{e:Expr}{t:TT}(h:PW X e t):PT X e t:=h _
def PA(X:Cx)(es:List Expr)(t:TA):Prop:=
 ∀(pos:Pos) (pins:List (Addr×Obj)) (s:Shared) (σ:St) (H:Hp) (Q:List V->Hp->Prop),Inv X pins σ H s->t σ H Q->wpAny (model X.prog X.w) X.A (spliced (backTo pos (starEach es X.env))) (AP X pins σ Q) X.xe s
def PS(X:Cx)(st:Stmt)(t:TS):Prop:=
 ∀(pins:List (Addr×Obj)) (s:Shared) (σ:St) (H:Hp) (D:Ends),Inv X pins σ H s->t D σ H->wpAny (model X.prog X.w) X.A (exec st X.env) (SP X pins D) X.xe s
def PSs(X:Cx)(st:List Stmt)(t:TS):Prop:=
 ∀(pins:List (Addr×Obj)) (s:Shared) (σ:St) (H:Hp) (D:Ends),Inv X pins σ H s->t D σ H->wpAny (model X.prog X.w) X.A (execs st X.env) (SP X pins D) X.xe s
theorem thn{α:Type}{t:Sem α}{Q Q':α->Shared->Prop}{M:Model}{A:Around}{E:Value->Shared->Prop}{s:Shared}(h:wpAny M A t Q E s)(hQ:∀a s,Q a s->Q' a s):wpAny M A t Q' E s:=C8 h hQ λ_ _ x=>x
end L2
namespace L2
open PySem PySem.Spec PyProof.Rows
section
variable {X:Cx}
def wF(i:Nat):TE:=λσ H Q=>∃v,σ[i]? = some (some v)/\Q v H
def tC(v:V):TE:=λ_ H Q=>Q v H
theorem iR{i:Nat}{x:Str}{pos:Pos}(hN:X.N[i]? = some x)(hv:Vis X.env.scope x)(hd:(x==("__debug__" : Str))=false:=by decide)(hcd:(x==("__classdict__" : Str))=false:=by decide):PE X (.Name x pos) (wF i):=by
 intro pins s σ H Q I h
 obtain⟨v,e,h⟩:=h
 obtain⟨m,hn,hl⟩:=I.loc
 obtain⟨u,r,l⟩:=hl i x v hN e hv
 have fin:EP X pins σ Q u s:=⟨v,H,I,r,h⟩
 rcases l with⟨hk,hm⟩|⟨hk,c,hc,hcell⟩
 . exact wpAny_Name (wpAny_loadName_local I.ok.kind hk hn hm fin) hd
 . rcases hk with hk|hk
   . exact wpAny_Name (wpAny_loadName_cell I.ok.kind hk hc hcell fin) hd
   . exact wpAny_Name (wpAny_loadName_free I.ok.kind hk hc hcell fin hcd) hd
theorem wG{i j pos}:PE X (.Constant (.int i) j pos) (tC (.int i)):=λ_ _ _ H _ I h=>wpAny_Constant_int ⟨.int i,H,I.tok _,⟨_,rfl⟩,h⟩
theorem aIG{b j pos}:PE X (.Constant (.bool b) j pos) (tC (.bl b)):=λ_ _ _ H _ I h=>Constant_bool ⟨.bl b,H,I,rfl,h⟩
theorem aFO{j pos}:PE X (.Constant .none j pos) (tC .non):=λ_ _ _ H _ I h=>Constant_none ⟨.non,H,I,rfl,h⟩
theorem aFP{x j pos}:PE X (.Constant (.str x) j pos) (tC (.str x)):=λ_ _ _ H _ I h=>Calls.Constant_str ⟨.str x,H,I.tok _,⟨_,rfl⟩,h⟩
def Gl(X:Cx)(x:Str):Prop:=X.env.kindOf x=some .globalImplicit
theorem qZ{E:Value->Shared->Prop}{pins:List (Addr×Obj)}{s:Shared}{σ:St}{H:Hp}{x:Str}{u:Value}{pos:Pos}{Q:Value->Shared->Prop}(I:Inv X pins σ H s)(hg:Gl X x)(hm:X.mg x=some u)(h:Q u s)
 (hd:(x==("__debug__" : Str))=false:=by decide):wpAny (model X.prog X.w) X.A (eval (.Name x pos) X.env) Q E s:=
 Calls.Name_function_global I.ok.kind hg (Calls.loadGlobal_global (by rw[I.ok.glob];exact I.mod.glob.keeps I.bk) hm h) hd
theorem eA{E:Value->Shared->Prop}{pins:List (Addr×Obj)}{s:Shared}{σ:St}{H:Hp}{x:Str}{u:Value}{pos:Pos}{Q:Value->Shared->Prop}(I:Inv X pins σ H s)(hg:Gl X x)(hm:X.mg x=none)(hv:bootBuiltins x=some u)(h:Q u s)
 (hn:x ≠ "__name__" := by decide) (hd:(x==("__debug__" : Str))=false:=by decide):wpAny (model X.prog X.w) X.A (eval (.Name x pos) X.env) Q E s:=by
 obtain⟨mb,h1,h2⟩:=I.mod.blt
 exact Calls.Name_function_global I.ok.kind hg (Calls.loadGlobal_builtin (by rw[I.ok.glob];exact I.mod.glob.keeps I.bk) hm (by rw[I.ok.blt];exact h1.keeps I.bk) ((h2 x hn).trans hv) h) hd
theorem yF{x:Str}{v:V}{u:Value}{pos:Pos}(hg:Gl X x)(hm:X.mg x=some u)(r:aW v u)(hd:(x==("__debug__" : Str))=false:=by decide):PE X (.Name x pos) (tC v):=
 λ_ _ _ H _ I h=>qZ I hg hm ⟨v,H,I,r,h⟩ hd
variable {a b:Expr} {ta tb:TE} {pos:Pos}
variable {tA tB':TT} {rest:List Expr}
def aLN(t u:TT):TT:=λσ H Q=>t σ H λc H1=>if c=true then u σ H1 Q else Q false H1
def tOr(t u:TT):TT:=λσ H Q=>t σ H λc H1=>if c=true then Q true H1 else u σ H1 Q
def aLO(t:TT):TT:=λσ H Q=>t σ H λc H1=>Q (!c) H1
theorem aDB(ha:PT X a tA):PW X (.BoolOp .And [a] pos) tA:=by
 intro wh pins s σ H Q I h
 refine isTrue_and (thn (ha pins s σ H Q I h) λc s1 e=>?_)
 cases c with
 | true=>exact isTrue_and_nil e
 | false=>exact e
theorem aFQ(ha:PT X a tA):PW X (.BoolOp .Or [a] pos) tA:=by
 intro wh pins s σ H Q I h
 refine isTrue_or (thn (ha pins s σ H Q I h) λc s1 e=>?_)
 cases c with
 | false=>exact isTrue_or_nil e
 | true=>exact e
theorem aFR(ha:PT X a tA)(hb:PW X (.BoolOp .And (b::rest) pos) tB'):PW X (.BoolOp .And (a::b::rest) pos) (aLN tA tB'):=by
 intro wh pins s σ H Q I h
 refine isTrue_and (thn (ha pins s σ H _ I h) λc s1 ⟨H1,I1,q1⟩=>?_)
 cases c with
 | true=>exact hb wh pins s1 σ H1 Q I1 q1
 | false=>exact⟨H1,I1,q1⟩
theorem aIH(ha:PT X a tA)(hb:PW X (.BoolOp .Or (b::rest) pos) tB'):PW X (.BoolOp .Or (a::b::rest) pos) (tOr tA tB'):=by
 intro wh pins s σ H Q I h
 refine isTrue_or (thn (ha pins s σ H _ I h) λc s1 ⟨H1,I1,q1⟩=>?_)
 cases c with
 | true=>exact⟨H1,I1,q1⟩
 | false=>exact hb wh pins s1 σ H1 Q I1 q1
theorem aFS(ha:PT X a tA):PT X (.UnaryOp .Not a pos) (aLO tA):=by
 intro pins s σ H Q I h
 exact isTrue_not (ha pins s σ H (λc H1=>Q (!c) H1) I h)
def aII(ta tb:TE):TE:=λσ H Q=>ta σ H λx H1=>∃c,x=.bl c/\if c=true then tb σ H1 Q else Q (.bl false) H1
def aLP(ta tb:TE):TE:=λσ H Q=>ta σ H λx H1=>∃c,x=.bl c/\if c=true then Q (.bl true) H1 else tb σ H1 Q
theorem aBm{op}{t:TE}(h:PE X a t):PE X (.BoolOp op [a] pos) t:=λpins s σ H Q I hw=>BoolOp_one (h pins s σ H Q I hw)
theorem aFT(ha:PE X a ta)(hb:PE X (.BoolOp .And (b::rest) pos) tb):PE X (.BoolOp .And (a::b::rest) pos) (aII ta tb):=by
 intro pins s σ H Q I h
 refine BoolOp_and (thn (ha pins s σ H _ I h) λv s1 ⟨x,H1,I1,r1,q1⟩=>?_)
 obtain⟨c,rfl,q1⟩:=q1
 cases r1
 refine B8 ?_
 cases c with
 | true=>exact hb pins s1 σ H1 Q I1 q1
 | false=>exact⟨.bl false,H1,I1,rfl,q1⟩
theorem aIJ(ha:PE X a ta)(hb:PE X (.BoolOp .Or (b::rest) pos) tb):PE X (.BoolOp .Or (a::b::rest) pos) (aLP ta tb):=by
 intro pins s σ H Q I h
 refine BoolOp_or (thn (ha pins s σ H _ I h) λv s1 ⟨x,H1,I1,r1,q1⟩=>?_)
 obtain⟨c,rfl,q1⟩:=q1
 cases r1
 refine B8 ?_
 cases c with
 | false=>exact hb pins s1 σ H1 Q I1 q1
 | true=>exact⟨.bl true,H1,I1,rfl,q1⟩
def tIf(t:TT)(ta tb:TE):TE:=λσ H Q=>t σ H λc H1=>if c=true then ta σ H1 Q else tb σ H1 Q
theorem aBn{c:Expr}(hc:PT X c tA)(ha:PE X a ta)(hb:PE X b tb):PE X (.IfExp c a b pos) (tIf tA ta tb):=by
 intro pins s σ H Q I h
 refine wpAny_IfExp (thn (hc pins s σ H _ I h) λd s1 ⟨H1,I1,q1⟩=>?_)
 cases d with
 | true=>exact ha pins s1 σ H1 Q I1 q1
 | false=>exact hb pins s1 σ H1 Q I1 q1
end
end L2
namespace L2
open PySem PySem.Spec PyProof.Rows
def SqL(K:PySem.W.Frag)(H:Hp)(a:Addr)(xs:List V):Prop:=
 Rd H a (.lst xs) \/
  ∃(o:Obj) (its:Array Value) (n:Nat),K.lookup a=some o/\o.cls=.type "list" /\ o.dict=none/\o.data=.seq its n/\its.size<=sizeLine/\aM xs its.toList
def SqT(K:PySem.W.Frag)(H:Hp)(a:Addr)(xs:List V):Prop:=
 Rd H a (.tup xs) \/
  ∃(o:Obj) (its:Array Value) (n:Nat),K.lookup a=some o/\o.cls=.type "tuple" /\ o.data=.seq its n/\its.size<=sizeLine/\aM xs its.toList
def aLQ:Value->Option V
 | .none=>some .non
 | .bool b=>some (.bl b)
 | .int i _=>some (.int i)
 | .str x _=>some (.str x)
 | .bytes b _=>some (.byt b)
 | .float b _=>some (.flt b)
 | .ref a=>some (.ref a)
 | .type n=>some (.ty n)
 | _=>none
theorem aW.abs{x:V}{u:Value}(r:aW x u):aLQ u=some x:=by
 cases x with
 | non=>cases r;rfl
 | bl _=>cases r;rfl
 | int _=>obtain⟨t,rfl⟩:=r;rfl
 | str _=>obtain⟨t,rfl⟩:=r;rfl
 | byt _=>obtain⟨t,rfl⟩:=r;rfl
 | flt _=>obtain⟨t,rfl⟩:=r;rfl
 | ref _=>cases r;rfl
 | ty _=>cases r;rfl
theorem aW.inj{x y:V}{u:Value}(r:aW x u)(q:aW y u):x=y:=Ai (r.abs.symm.trans q.abs)
theorem aM.inj:∀{xs ys:List V} {us:List Value},aM xs us->aM ys us->xs=ys
 | _,_,_,.nil,.nil=>rfl
 | _,_,_,.cons r t,.cons r' t'=>by rw[r.inj r',aM.inj t t']
section
variable {X:Cx} {pins:List (Addr×Obj)} {σ:St} {H:Hp} {s:Shared} {a:Addr} {xs ys:List V}
theorem SqL.of{K:PySem.W.Frag}(h:H a=some (.lst xs)):SqL K H a xs:=.inl (.inl h)
theorem SqT.of{K:PySem.W.Frag}(h:H a=some (.tup xs)):SqT K H a xs:=.inl (.inl h)
theorem Inv.list(I:Inv X pins σ H s)(h:SqL X.K H a xs):∃its:List Value,aM xs its/\PlainL s.heap a its.toArray/\xs.length<=sizeLine:=by
 rcases h with h|⟨o,its,n,hk,hc,hd,hs,hz,r⟩
 . obtain⟨z,its,n,r,e⟩:=h.ok I.hok
   exact⟨its,r,⟨_,n,e,rfl,rfl,rfl⟩,z⟩
 . refine⟨its.toList,r,⟨o,n,I.kIn a o hk,hc,hd,by simpa using hs⟩,?_⟩
   have e:=r.length
   simp only[A7] at e
   omega
theorem Inv.tuple(I:Inv X pins σ H s)(h:SqT X.K H a xs):∃its:List Value,aM xs its/\IsTup s.heap a its.toArray/\xs.length<=sizeLine:=by
 rcases h with h|⟨o,its,n,hk,hc,hs,hz,r⟩
 . obtain⟨z,its,r,p⟩:=h.ok I.hok
   exact⟨its,r,p,z⟩
 . refine⟨its.toList,r,⟨o,I.kIn a o hk,hc,n,by simpa using hs⟩,?_⟩
   have e:=r.length
   simp only[A7] at e
   omega
theorem Inv.list_inj(I:Inv X pins σ H s)(h:SqL X.K H a xs)(h':SqL X.K H a ys):xs=ys:=by
 obtain⟨its,r,⟨o,n,e,_,_,d⟩,_⟩:=I.list h
 obtain⟨its',r',⟨o',n',e',_,_,d'⟩,_⟩:=I.list h'
 rw[e] at e';cases e'
 rw[d] at d'
 injection d' with d1 _
 have:its=its':=by simpa using congrArg Array.toList d1
 subst this
 exact r.inj r'
theorem Inv.tuple_inj(I:Inv X pins σ H s)(h:SqT X.K H a xs)(h':SqT X.K H a ys):xs=ys:=by
 obtain⟨its,r,⟨o,e,_,n,d⟩,_⟩:=I.tuple h
 obtain⟨its',r',⟨o',e',_,n',d'⟩,_⟩:=I.tuple h'
 rw[e] at e';cases e'
 rw[d] at d'
 injection d' with d1 _
 have:its=its':=by simpa using congrArg Array.toList d1
 subst this
 exact r.inj r'
end
abbrev Cx.wish(X:Cx)(E:Value->Shared->Prop):Cx:={ X with xe:=E }
abbrev Cx.nox(X:Cx):Cx:=X.wish λ_ _=>False
theorem Cx.Ok.wish{X:Cx}(ok:X.Ok)(E:Value->Shared->Prop):(X.wish E).Ok:=
 ⟨ok.mod,ok.kind,ok.glob,ok.blt,ok.above,ok.inj,ok.has,ok.cab,ok.hd,ok.frames,ok.stk,ok.exf,ok.bs,ok.bsz,ok.noex,ok.exfs,ok.funs,ok.frf⟩
theorem Cx.Ok.unwish{X:Cx}{E:Value->Shared->Prop}(ok:(X.wish E).Ok):X.Ok:=
 ⟨ok.mod,ok.kind,ok.glob,ok.blt,ok.above,ok.inj,ok.has,ok.cab,ok.hd,ok.frames,ok.stk,ok.exf,ok.bs,ok.bsz,ok.noex,ok.exfs,ok.funs,ok.frf⟩
section
variable {X:Cx} {pins:List (Addr×Obj)} {σ:St} {H:Hp} {s:Shared} {E:Value->Shared->Prop}
theorem Inv.wish(I:Inv X pins σ H s)(E:Value->Shared->Prop):Inv (X.wish E) pins σ H s:=⟨I.ok.wish E,I.os,I.bare,I.base,I.loc,I.cell,I.free,I.freeC,I.pin,I.hok,I.len⟩
theorem Inv.unwish(I:Inv (X.wish E) pins σ H s):Inv X pins σ H s:=⟨I.ok.unwish,I.os,I.bare,I.base,I.loc,I.cell,I.free,I.freeC,I.pin,I.hok,I.len⟩
theorem SP.unwish{D:Ends}{f:Flow}{s':Shared}(h:SP (X.wish E) pins D f s'):SP X pins D f s':=by
 cases f with
 | next=>obtain⟨σ',H',I,q⟩:=h;exact⟨σ',H',I.unwish,q⟩
 | brk=>obtain⟨σ',H',I,q⟩:=h;exact⟨σ',H',I.unwish,q⟩
 | cont=>obtain⟨σ',H',I,q⟩:=h;exact⟨σ',H',I.unwish,q⟩
 | ret u=>obtain⟨v,σ',H',I,r,q⟩:=h;exact⟨v,σ',H',I.unwish,r,q⟩
theorem PSs.nox{st:List Stmt}{t:TS}(h:PSs X.nox st t):PSs X st t:=λpins s σ H D I hw=>
 C8 (h pins s σ H D (I.wish _) hw) (λ_ _ q=>q.unwish) λ_ _ z=>False.elim z
end
section
variable {X:Cx} {st:Stmt} {rest:List Stmt} {t u:TS} {e:Expr} {te:TE} {pos:Pos}
def aFd:TS:=λD σ H=>D.nx σ H
def aLR(t u:TS):TS:=λD σ H=>t { D with nx:=u D } σ H
theorem aDC:PSs X [] aFd:=λ_ _ σ H _ I h=>wpAny_execs_nil ⟨σ,H,I,h⟩
theorem aBo(h1:PS X st t)(h2:PSs X rest u):PSs X (st::rest) (aLR t u):=by
 intro pins s σ H D I h
 refine wpAny_execs_cons (thn (h1 pins s σ H { D with nx:=u D } I h) λf s1 q=>?_)
 cases f with
 | next=>
  obtain⟨σ',H',I',q⟩:=q
  exact h2 pins s1 σ' H' D I' q
 | ret v=>exact q
 | brk=>exact q
 | cont=>exact q
def aFU:TS:=λD σ H=>D.bk σ H
def aIK:TS:=λD σ H=>D.ct σ H
theorem aDD:PS X (.Pass pos) aFd:=λ_ _ σ H _ I h=>wpAny_Pass ⟨σ,H,I,h⟩
theorem aBp:PS X (.Break pos) aFU:=λ_ _ σ H _ I h=>wpAny_Break ⟨σ,H,I,h⟩
theorem tP:PS X (.Continue pos) aIK:=λ_ _ σ H _ I h=>wpAny_Continue ⟨σ,H,I,h⟩
theorem Inv.quiet{pins:List (Addr×Obj)}{σ:St}{H:Hp}{s:Shared}(I:Inv X pins σ H s):interactive X.env=false:=by simp[interactive,I.ok.kind]
def aIL(te:TE):TS:=λD σ H=>te σ H λ_ H1=>D.nx σ H1
theorem hX(he:PE X e te)(hs:swapsWith e none pos.line X.env=pure false:=by rfl):PS X (.Expr e pos) (aIL te):=by
 intro pins s σ H D I h
 exact wpAny_Expr_any (thn (he pins s σ H _ I h) λv s1 ⟨x,H1,I1,r1,q1⟩=>⟨σ,H1,I1,q1⟩) I.quiet hs
def aLS(te:TE):TS:=λD σ H=>te σ H D.rt
theorem rA(he:PE X e te):PS X (.Return (some e) pos) (aLS te):=by
 intro pins s σ H D I h
 exact wpAny_Return_some (thn (he pins s σ H _ I h) λv s1 ⟨x,H1,I1,r1,q1⟩=>⟨x,σ,H1,I1,r1,q1⟩)
def aIM:TS:=λD _ H=>D.rt .non H
theorem aDE:PS X (.Return none pos) aIM:=λ_ _ σ H _ I h=>wpAny_Return_none ⟨.non,σ,H,I,rfl,h⟩
def aLT(c:TT)(t u:TS):TS:=λD σ H=>c σ H λb H1=>if b=true then t D σ H1 else u D σ H1
theorem aFe{c:Expr}{a b:List Stmt}{tc:TT}(hc:PT X c tc)(ha:PSs X a t)(hb:PSs X b u):PS X (.If c a b pos) (aLT tc t u):=by
 intro pins s σ H D I h
 refine wpAny_If (thn (hc pins s σ H _ I h) λd s1 ⟨H1,I1,q1⟩=>?_)
 cases d with
 | true=>exact ha pins s1 σ H1 D I1 q1
 | false=>exact hb pins s1 σ H1 D I1 q1
def aFV:TS:=λ_ _ _=>False
theorem aBq:PS X st aFV:=λ_ _ _ _ _ _ h=>h.elim
end
abbrev TG:=V->St->Hp->(St->Hp->Prop)->Prop
abbrev TGs:=List V->St->Hp->(St->Hp->Prop)->Prop
def PG(X:Cx)(target:Expr)(t:TG):Prop:=
 ∀(pins:List (Addr×Obj)) (s:Shared) (σ:St) (H:Hp) (v:V) (u:Value) (Q:St->Hp->Prop),Inv X pins σ H s->aW v u->t v σ H Q ->
  wpAny (model X.prog X.w) X.A (assign target X.env u) (λ_ s'=>∃σ' H',Inv X pins σ' H' s'/\Q σ' H') X.xe s
def PGs(X:Cx)(ts:List Expr)(t:TGs):Prop:=
 ∀(pins:List (Addr×Obj)) (s:Shared) (σ:St) (H:Hp) (vs:List V) (us:List Value) (Q:St->Hp->Prop),Inv X pins σ H s->aM vs us->t vs σ H Q ->
  wpAny (model X.prog X.w) X.A (assignInOrder ((assignEach ts X.env).map (·.2)) us) (λ_ s'=>∃σ' H',Inv X pins σ' H' s'/\Q σ' H') X.xe s
abbrev aFW:=V->V->V->Hp->(Hp->Prop)->Prop
def aFX(X:Cx)(t:aFW):Prop:=
 ∀(pins:List (Addr×Obj)) (s:Shared) (σ:St) (H:Hp) (o i v:V) (ov iv u:Value) (Q:Hp->Prop),Inv X pins σ H s->aW o ov->aW i iv->aW v u->t o i v H Q ->
  wpAny (model X.prog X.w) X.A (setItem ov iv u) (λ_ s'=>∃H',Inv X pins σ H' s'/\Q H') X.xe s
section
variable {X:Cx} {pos:Pos}
def pR(i:Nat):TG:=λv σ H Q=>Q (σ.set i (some v)) H
theorem yG{i:Nat}{x:Str}(hN:X.N.Nodup)(hi:X.N[i]? = some x)(hx:Loc X.env.scope x)(hf:X.fn x=true\/X.env.scope.names.lookup x=some .local:=by first|exact .inl rfl|exact .inr rfl|assumption):PG X (.Name x pos) (pR i):=by
 intro pins s σ H v u Q I r h
 exact wpAny_assign_Name (tN I hN hi hx r (λs' I'=>⟨_,H,I',h⟩) hf)
def aIN:TGs:=λvs σ H Q=>vs=[]/\Q σ H
def aFf(t:TG)(u:TGs):TGs:=λvs σ H Q=>∃v r,vs=v::r/\t v σ H λσ' H'=>u r σ' H' Q
theorem aDF:PGs X [] aIN:=by
 intro pins s σ H vs us Q I r h
 obtain⟨e,h⟩:=h
 subst e
 cases r
 exact assignInOrder_nil ⟨σ,H,I,h⟩
theorem aBr{e:Expr}{es:List Expr}{t:TG}{u:TGs}(h1:PG X e t)(h2:PGs X es u)
 (hs:(assignEach (e::es) X.env).map (·.2)=assign e X.env::(assignEach es X.env).map (·.2):=by rfl):PGs X (e::es) (aFf t u):=by
 intro pins s σ H vs us Q I r h
 obtain⟨v,vr,e1,h⟩:=h
 subst e1
 cases r with
 | cons r rr=>
  rw[hs]
  refine assignInOrder_cons (thn (h1 pins s σ H _ _ _ I r h) λ_ s1 ⟨σ1,H1,I1,q1⟩=>?_)
  exact h2 pins s1 σ1 H1 _ _ Q I1 rr q1
def aIO(K:PySem.W.Frag)(n:Nat)(t:TGs):TG:=λv σ H Q=>∃a xs,v=.ref a/\SqT K H a xs/\xs.length=n/\t xs σ H Q
theorem aFY{es:List Expr}{k:Nat}{t:TGs}{n:Nat}(hc:X.calm=true)(h:PGs X es t)
 (hn:(assignEach es X.env).length=n:=by rfl) (hst:(assignEach es X.env).findIdx? (·.1)=none:=by rfl):PG X (.Tuple es k pos) (aIO X.K n t):=by
 intro pins s σ H v u Q I r hw
 obtain⟨a,xs,e1,hq,hl,hw⟩:=hw
 subst e1
 cases r
 obtain⟨its,rv,ht,hz⟩:=I.tuple hq
 refine assign_Tuple_tuple (I.ok.hd hc) ht (by simp[hn,<-hl,rv.length]) hst λh' hx=>?_
 have I1:Inv X pins σ H { s with heap:=h' }:=I.kept (t':=s.toks) λb o e=>hx b o (Ao (Aj e)) e
 exact h pins _ σ H xs _ Q I1 (by simpa using rv) hw
def aLU(to ti:TE)(t:aFW):TG:=λv σ H Q=>to σ H λo H1=>ti σ H1 λi H2=>t o i v H2 λH3=>Q σ H3
theorem wH{o i:Expr}{to ti:TE}{t:aFW}(ho:PE X o to)(hi:PE X i ti)(hs:aFX X t)
 (ha:∀v,assign (.Subscript o i pos) X.env v=(do
  let ov<-holding [v] (eval o X.env)
  let iv<-holding [v,ov] (eval i X.env)
  standAt pos
  holding [v,ov,iv] (setItem ov iv v)
  release [v,ov,iv] []):=by intro _;rfl):PG X (.Subscript o i pos) (aLU to ti t):=by
 intro pins s σ H v u Q I r h
 rw[ha]
 refine Aa (B2 (thn (ho pins s σ H _ I h) λov s1 ⟨x,H1,I1,r1,q1⟩=>?_))
 refine Aa (B2 (thn (hi pins s1 σ H1 _ I1 q1) λiv s2 ⟨y,H2,I2,r2,q2⟩=>?_))
 refine Aa (wpAny_standAt (Aa (B2 (thn (hs pins s2 σ H2 x y v ov iv u _ I2 r1 r2 r q2) λ_ s3 ⟨H3,I3,q3⟩=>?_))))
 exact wpAny_release ⟨σ,H3,I3,q3⟩
def aFZ(te:TE)(g:TG):TS:=λD σ H=>te σ H λx H1=>g x σ H1 D.nx
theorem rB{tg e:Expr}{te:TE}{g:TG}(he:PE X e te)(hg:PG X tg g)(hs:swapsWithSole [tg] e pos.line X.env=pure false:=by rfl)(hw:swappedStores [tg] e X.env=pure none:=by rfl)
 (h1:(assignEach [tg] X.env).map (·.2)=[assign tg X.env]:=by rfl):PS X (.Assign [tg] e pos) (aFZ te g):=by
 intro pins s σ H D I h
 refine wpAny_Assign_stores (thn (he pins s σ H _ I h) λv s1 ⟨x,H1,I1,r1,q1⟩=>?_) hs hw
 rw[h1]
 exact thn (hg pins s1 σ H1 x v _ I1 r1 q1) λ_ s2 q=>q
theorem gG{i:Nat}{x:Str}{e:Expr}{te:TE}{pos':Pos}(hN:X.N.Nodup)(hi:X.N[i]? = some x)(hx:Loc X.env.scope x)(he:PE X e te)(hs:swapsWith e (some (.Name x pos')) pos.line X.env=pure false:=by rfl)(hf:X.fn x=true\/X.env.scope.names.lookup x=some .local:=by first|exact .inl rfl|exact .inr rfl|assumption) :
 PS X (.Assign [.Name x pos'] e pos) (aFZ te (pR i)):=by
 intro pins s σ H D I h
 refine wpAny_Assign_Name (thn (he pins s σ H _ I h) λv s1 ⟨y,H1,I1,r1,q1⟩=>?_) hs
 exact tN I1 hN hi hx r1 (λs2 I2=>⟨_,H1,I2,q1⟩) hf
end
section
variable {X:Cx} {pos:Pos}
end
structure It where
 go:Nat->Hp->Prop
 yld:Nat->Hp->V->Hp->Prop
 stop:Nat->Hp->Prop
def jK(X:Cx)(pins:List (Addr×Obj))(H:Hp)(b:Addr):Prop:=
 H b=none/\b≠X.env.locals/\b∉X.fs/\(b∈X.ex\/X.s₀.heap.objs.size<=b)/\(∀x c,X.env.cells.lookup x=some c->c≠b)/\∀p∈X.pn++pins,p.1≠b
theorem Inv.fpOk{X:Cx}{pins:List (Addr×Obj)}{σ:St}{H H':Hp}{s:Shared}{b:Addr}(I:Inv X pins σ H s)(hb:s.heap.objs.size<=b)(hn:H' b=none):jK X pins H' b:=by
 refine⟨hn,B4 (Ar I.lt hb),I.nofs hb,.inr (Av I.sz hb),λx c e z=>?_,λp hp z=>?_⟩
 . obtain⟨v,q⟩:=I.cell x c e
   exact absurd (Ar q.lt (by rw[z];exact hb)) (A8 _)
 . exact absurd (Ar (Aj (I.pin p hp).1) (by rw[z];exact hb)) (A8 _)
structure tQ (P:Program) (w:World) (K:PySem.W.Frag) (tg:Expr) (J:It) (fp:List Addr) (it:Addr) (tn:Nat->Heap->Prop):Prop where
 mem:it∈fp
 obj:∀i h,tn i h->∀b∈fp,∃o,h.get? b=some o/\∀v,o.data≠.cell v
 keep:∀i h h',tn i h->(∀b∈fp,∀o,h.get? b=some o->h'.get? b=some o)->tn i h'
 item:∀(X:Cx),X.prog=P->X.w=w->X.K=K->X.calm=true->∀(i:Nat) (pins:List (Addr×Obj)) (s:Shared) (σ:St) (H:Hp) (E:Value->Shared->Prop),Inv X pins σ H s->(∀b∈fp,jK X pins H b)->tn i s.heap->J.go i H ->
  wpAny (model P w) X.A (pyNext (.ref it)) (λr s1=>∃u,r=some u /\
   wpAny (model P w) X.A (letOwnedTupleGo tg (.ref it) u) (λ_ s2=>∃x H',Inv X pins σ H' s2/\aW x u/\J.yld i H x H'/\tn (i+1) s2.heap/\∀b∈fp,H' b=none) E s1) E s
 done:∀(X:Cx),X.prog=P->X.w=w->X.K=K->X.calm=true->∀(i:Nat) (pins:List (Addr×Obj)) (s:Shared) (σ:St) (H:Hp) (E:Value->Shared->Prop),Inv X pins σ H s->(∀b∈fp,jK X pins H b)->tn i s.heap->J.stop i H ->
  wpAny (model P w) X.A (pyNext (.ref it)) (λr s1=>r=none/\Inv X pins σ H s1) E s
 self:∀(A:Around) (i:Nat) (s:Shared) (Q:Value->Shared->Prop) (E:Value->Shared->Prop),tn i s.heap->Q (.ref it) s->wpAny (model P w) A (pyIter (.ref it)) Q E s
abbrev TI:=St->Hp->(It->Hp->Prop)->Prop
def PIE(X:Cx)(pins:List (Addr×Obj))(σ:St)(tg:Expr)(R:It->Hp->Prop)(itv:Value)(s2:Shared):Prop:=
 ∃(it:Addr) (fp:List Addr) (tn:Nat->Heap->Prop) (J:It) (H':Hp),itv=.ref it/\Inv X pins σ H' s2/\tQ X.prog X.w X.K tg J fp it tn/\tn 0 s2.heap/\(∀b∈fp,jK X pins H' b)/\R J H'
def PI(X:Cx)(tg iter:Expr)(wi:TI):Prop:=
 ∀(pins:List (Addr×Obj)) (s:Shared) (σ:St) (H:Hp) (R:It->Hp->Prop),Inv X pins σ H s->wi σ H R ->
  wpAny (model X.prog X.w) X.A (eval iter X.env) (λv s1=>wpAny (model X.prog X.w) X.A (pyIter v) (PIE X pins σ tg R) X.xe s1) X.xe s
theorem nK{M:Model}{A:Around}{E:Value->Shared->Prop}{s:Shared}{tg:Expr}{it:Addr}{u:Value}{o:Obj}{n:String}{vs:Array Value}{Q:Unit->Shared->Prop}(ho:s.heap.get? it=some o)(hc:o.cls=.type n)(hd:o.data=.fields vs)
 (hn:["enumerate", "zip", "dict_itemiterator", "dict_reverseitemiterator", "odict_iterator", "itertools.zip_longest", "itertools.pairwise"].contains n=false) (hQ:Q () s):wpAny M A (letOwnedTupleGo tg (.ref it) u) Q E s:=by
 unfold letOwnedTupleGo
 cases tg <;> first
  | exact Ad hQ
  | (cases u <;> first
   | exact Ad hQ
   | (refine Aa (wpAny_load ho ?_)
      rw[hc,hd]
      show wpAny M A (if (["enumerate", "zip", "dict_itemiterator", "dict_reverseitemiterator", "odict_iterator", "itertools.zip_longest", "itertools.pairwise"].contains n&&vs[0]?==some (rawInt _))=true then _ else _) Q E s
      rw[if_neg (by intro h;rw[hn,Bool.false_and] at h;cases h)]
      exact Ad hQ))
def Itl(K:PySem.W.Frag)(a:Addr):It:=
 ⟨λi H=>∃xs x,SqL K H a xs/\xs[i]? = some x,λi H x H'=>H'=H/\∀xs,SqL K H a xs->xs[i]? = some x,λi H=>∃xs,SqL K H a xs/\xs.length<=i⟩
def Itt(K:PySem.W.Frag)(a:Addr):It:=
 ⟨λi H=>∃xs x,SqT K H a xs/\xs[i]? = some x,λi H x H'=>H'=H/\∀xs,SqT K H a xs->xs[i]? = some x,λi H=>∃xs,SqT K H a xs/\xs.length<=i⟩
def Itr(lo:Int)(n:Nat):It:=⟨λi _=>i<n,λi H x H'=>H'=H/\x=.int (lo+i),λi _=>n<=i⟩
theorem aAl{P:Program}{w:World}{K:PySem.W.Frag}{tg:Expr}(a it:Addr):tQ P w K tg (Itl K a) [it] it (λi h=>h.IsListIter it a i) where
 mem:=by simp
 obj:=λi h st b hb=>by
  have e:b=it:=by simpa using hb
  subst e
  obtain⟨o,e,c,d⟩:=st
  exact⟨o,e,λv z=>by rw[d] at z;cases z⟩
 keep:=λi h h' st k=>st.at λo e=>k it (by simp) o e
 item:=by
  intro X hP hw hK hc i pins s σ H E I hf st hg
  subst hP hw hK
  obtain⟨xs,x,hq,hx⟩:=hg
  obtain⟨its,rv,p,hz⟩:=I.list hq
  obtain⟨u,hu,ru⟩:=rv.get hx
  obtain⟨f0,f1,f2,f3,f4,f5⟩:=hf it (by simp)
  refine wpAny_pyNext_list_item st p.isList (x:=u) (by simpa using hu) λh' st' sb=>?_
  have I1:Inv X pins σ H { s with heap:=h' }:=I.turned (t':=s.toks) (λb o hb e=>(sb.2 b hb).trans e) f0 f1 f3 f4 f5
  obtain⟨o,e,c,d⟩:=id st'
  exact⟨u,rfl,nK (s:={ s with heap:=h' }) e c d (by decide) ⟨x,H,I1,ru,⟨rfl,λys hy=>by rw[I.list_inj hy hq];exact hx⟩,st',λb hb=>(hf b hb).1⟩⟩
 done:=by
  intro X hP hw hK hc i pins s σ H E I hf st hg
  subst hP hw hK
  obtain⟨xs,hq,hx⟩:=hg
  obtain⟨its,rv,p,hz⟩:=I.list hq
  obtain⟨f0,f1,f2,f3,f4,f5⟩:=hf it (by simp)
  have hl:=rv.length
  exact wpAny_pyNext_list_end (I.ok.hd hc) st p.isList (by simp;omega) λh' eb=>⟨rfl,I.turned (t':=s.toks) (λb o hb e=>eb b o hb e) f0 f1 f3 f4 f5⟩
 self:=λ_ _ _ _ _ st h=>wpAny_pyIter_listiter st h
theorem wJ{P:Program}{w:World}{K:PySem.W.Frag}{tg:Expr}(a it:Addr):tQ P w K tg (Itt K a) [it] it (λi h=>h.IsTupleIter it a i) where
 mem:=by simp
 obj:=λi h st b hb=>by
  have e:b=it:=by simpa using hb
  subst e
  obtain⟨o,e,c,d⟩:=st
  exact⟨o,e,λv z=>by rw[d] at z;cases z⟩
 keep:=λi h h' st k=>st.at λo e=>k it (by simp) o e
 item:=by
  intro X hP hw hK hc i pins s σ H E I hf st hg
  subst hP hw hK
  obtain⟨xs,x,hq,hx⟩:=hg
  obtain⟨its,rv,p,hz⟩:=I.tuple hq
  obtain⟨u,hu,ru⟩:=rv.get hx
  obtain⟨f0,f1,f2,f3,f4,f5⟩:=hf it (by simp)
  refine wpAny_pyNext_tuple_item st (show s.heap.IsTuple a its.toArray from p) (x:=u) (by simpa using hu) λh' st' sb=>?_
  have I1:Inv X pins σ H { s with heap:=h' }:=I.turned (t':=s.toks) (λb o hb e=>(sb.2 b hb).trans e) f0 f1 f3 f4 f5
  obtain⟨o,e,c,d⟩:=id st'
  exact⟨u,rfl,nK (s:={ s with heap:=h' }) e c d (by decide) ⟨x,H,I1,ru,⟨rfl,λys hy=>by rw[I.tuple_inj hy hq];exact hx⟩,st',λb hb=>(hf b hb).1⟩⟩
 done:=by
  intro X hP hw hK hc i pins s σ H E I hf st hg
  subst hP hw hK
  obtain⟨xs,hq,hx⟩:=hg
  obtain⟨its,rv,p,hz⟩:=I.tuple hq
  obtain⟨f0,f1,f2,f3,f4,f5⟩:=hf it (by simp)
  have hl:=rv.length
  exact wpAny_pyNext_tuple_end (I.ok.hd hc) st (show s.heap.IsTuple a its.toArray from p) (by simp;omega) λh' eb=>⟨rfl,I.turned (t':=s.toks) (λb o hb e=>eb b o hb e) f0 f1 f3 f4 f5⟩
 self:=λ_ _ _ _ _ st h=>wpAny_pyIter_tupleiter st h
theorem wK{P:Program}{w:World}{K:PySem.W.Frag}{tg:Expr}(it:Addr)(lo:Int)(n:Nat):tQ P w K tg (Itr lo n) [it] it (λi h=>IsRangeIter h it (lo+(i:Nat)*1) ((n:Int)-(i:Nat)) 1) where
 mem:=by simp
 obj:=λi h st b hb=>by
  have e:b=it:=by simpa using hb
  subst e
  exact⟨_,st,λv z=>by
   have z':Data.fields _=Data.cell v:=z
   cases z'⟩
 keep:=λi h h' st k=>k it (by simp) _ st
 item:=by
  intro X hP hw hK hc i pins s σ H E I hf st hg
  subst hP hw hK
  obtain⟨f0,f1,f2,f3,f4,f5⟩:=hf it (by simp)
  have W:=Walks.range (prog:=X.prog) (w:=X.w) (I.ok.hd hc) it lo 1 n
  refine W.item i s _ _ hg st λv h' tk hv st' kk=>?_
  obtain⟨t,rfl⟩:=hv
  have I1:Inv X pins σ H { s with heap:=h',toks:=tk }:=I.turned (λb o hb e=>kk b o (by simpa using hb) e) f0 f1 f3 f4 f5
  refine⟨_,rfl,nK (s:={ s with heap:=h',toks:=tk }) (n:= "range_iterator") st' rfl rfl (by decide) ⟨.int (lo+i),H,I1,⟨t,?_⟩,⟨rfl,rfl⟩,st',λb hb=>(hf b hb).1⟩⟩
  rw[Int.mul_one]
 done:=by
  intro X hP hw hK hc i pins s σ H E I hf st hg
  subst hP hw hK
  obtain⟨f0,f1,f2,f3,f4,f5⟩:=hf it (by simp)
  exact wpAny_pyNext_range_end (I.ok.hd hc) st (by have:n<=i:=hg;omega) λh' eb=>⟨rfl,I.turned (t':=s.toks) (λb o hb e=>eb b o hb e) f0 f1 f3 f4 f5⟩
 self:=λ_ _ _ _ _ st h=>wpAny_pyIter_rangeiter st h
end L2
namespace L2
open PySem PySem.Spec PyProof.Rows
section
variable {X:Cx} {tg:Expr}
theorem tR{pins:List (Addr×Obj)}{σ:St}{H:Hp}{s:Shared}{R:It->Hp->Prop}{E:Value->Shared->Prop}{lo hi:Int}{t u v:Tok}{tk:Nat}(I:Inv X pins σ H s)(h1:-(2 ^ 62)<=lo)(h2:lo<2 ^ 62)(h3:-(2 ^ 62)<=hi)(h4:hi<2 ^ 62)
 (q:R (Itr lo (hi-lo).toNat) H):wpAny (model X.prog X.w) X.A (pyIter (.ref s.heap.objs.size)) (PIE X pins σ tg R) E { s with heap:=s.heap.push { cls:=.type "range",data:=.fields #[.int lo t,.int hi u,.int 1 v] },toks:=tk }:=by
 refine wpAny_pyIter_range (IsRange.new ..) (small_one h1 h2 h3 h4) ?_
 have I1:Inv X pins σ H { s with heap:=s.heap.push { cls:=.type "range",data:=.fields #[.int lo t,.int hi u,.int 1 v] },toks:=tk }:=I.kept λb o e=>Ab _ e
 refine⟨(s.heap.push { cls:=.type "range",data:=.fields #[.int lo t,.int hi u,.int 1 v] }).objs.size,[(s.heap.push { cls:=.type "range",data:=.fields #[.int lo t,.int hi u,.int 1 v] }).objs.size],_,_,H,rfl,
  I1.kept (t':=tk) λb o e=>Ab _ e,wK _ lo (hi-lo).toNat,?_,λb hb=>?_,q⟩
 . have e1:lo+((0:Nat):Int)*1=lo:=by simp
   have e2:(((hi-lo).toNat:Nat):Int)-((0:Nat):Int)=Builtin.Range.rangeSize lo hi 1:=by rw[rangeSize_one];split <;> omega
   show IsRangeIter _ _ (lo+((0:Nat):Int)*1) ((((hi-lo).toNat:Nat):Int)-((0:Nat):Int)) 1
   rw[e1,e2]
   exact Ah _ rfl
 . have e:b=(s.heap.push { cls:=.type "range",data:=.fields #[.int lo t,.int hi u,.int 1 v] }).objs.size:=by simpa using hb
   subst e
   exact I1.fpOk (Ag _) (I1.hok.fresh (Ag _))
def aIP(ta:TA):TI:=λσ H R=>ta σ H λvs H1=>∃j:Int,vs=[.int j]/\-(2 ^ 62)<=j/\j<2 ^ 62/\R (Itr 0 j.toNat) H1
def aIQ(ta:TA):TI:=λσ H R=>ta σ H λvs H1=>∃i j:Int,vs=[.int i,.int j]/\(-(2 ^ 62)<=i/\i<2 ^ 62/\-(2 ^ 62)<=j/\j<2 ^ 62)/\R (Itr i (j-i).toNat) H1
theorem kW{a:Expr}{ta:TA}{p pos:Pos}(hg:Gl X "range")(hm:X.mg "range" = none)(ha:PA X [a] ta)(hs:starEach [a] X.env=[(false,eval a X.env)]:=by rfl):PI X tg (.Call (.Name "range" p) [a] [] pos) (aIP ta):=by
 intro pins s σ H R I h
 refine Call_ (eA I hg hm boot_range (Br (thn (ha pos pins s σ H _ I h) λus s1 ⟨vs,H1,I1,r1,q1⟩=>?_) hs rfl))
 obtain⟨j,e,q1,q2,q⟩:=q1
 subst e
 cases r1 with
 | cons r rr=>
  cases rr
  obtain⟨t,rfl⟩:=r
  exact call_range_1 (tR I1 (by omega) (by omega) q1 q2 (by simpa using q))
theorem aAm{a b:Expr}{ta:TA}{p pos:Pos}(hg:Gl X "range")(hm:X.mg "range" = none)(ha:PA X [a,b] ta)(hs:starEach [a,b] X.env=[(false,eval a X.env),(false,eval b X.env)]:=by rfl)(hs2:starEach [b] X.env=[(false,eval b X.env)]:=by rfl) :
 PI X tg (.Call (.Name "range" p) [a,b] [] pos) (aIQ ta):=by
 intro pins s σ H R I h
 refine Call_ (eA I hg hm boot_range (Br (thn (ha pos pins s σ H _ I h) λus s1 ⟨vs,H1,I1,r1,q1⟩=>?_) (by rw[hs,hs2]) (by rw[hs2];rfl)))
 obtain⟨i,j,e,⟨q1,q2,q3,q4⟩,q⟩:=q1
 subst e
 cases r1 with
 | cons r rr=>
  cases rr with
  | cons r' rr=>
   cases rr
   obtain⟨t,rfl⟩:=r
   obtain⟨t',rfl⟩:=r'
   exact call_range_2 (tR I1 q1 q2 q3 q4 q)
def aLV(wi:TI)(g:TG)(tb:TS):TS:=λD σ H=>wi σ H λJ H1=>∃W:Nat->Nat->St->Hp->Prop,(∃m,W 0 m σ H1)/\∀i m σ H,W i m σ H ->
 (J.stop i H/\D.nx σ H)\/(J.go i H/\∃N:St->Hp->Prop,(∀σ' H',N σ' H'->∃m',m'<m/\W (i+1) m' σ' H')/\∀x H',J.yld i H x H'->g x σ H' λσ2 H2=>tb { D with nx:=N,ct:=N,bk:=D.nx } σ2 H2)
def nL(fp:List Addr)(h:Heap):List (Addr×Obj):=fp.filterMap λb=>(h.get? b).map λo=>(b,o)
theorem fE{fp:List Addr}{h:Heap}{b:Addr}{o:Obj}(hb:b∈fp)(e:h.get? b=some o):(b,o)∈nL fp h:=Co.mpr ⟨b,hb,by rw[e];rfl⟩
theorem aAn{fp:List Addr}{h:Heap}{p:Addr×Obj}(hp:p∈nL fp h):p.1∈fp/\h.get? p.1=some p.2:=by
 obtain⟨b,hb,e⟩:=Co.mp hp
 cases q:h.get? b with
 | none=>rw[q] at e;cases e
 | some o=>
  rw[q] at e
  have e':(b,o)=p:=Ai e
  subst e'
  exact⟨hb,q⟩
theorem Inv.pinned{pins:List (Addr×Obj)}{σ:St}{H:Hp}{s:Shared}{fp:List Addr}(I:Inv X pins σ H s)(hf:∀b∈fp,jK X pins H b)(ho:∀b∈fp,∃o,s.heap.get? b=some o/\∀v,o.data≠.cell v):Inv X (pins++nL fp s.heap) σ H s:=
 I.pins_of λp hp=>(A3.mp hp).elim (λz=>I.pin p (Aq _ z)) λz=>by
  obtain⟨hb,e⟩:=aAn z
  obtain⟨f0,f1,f2,_⟩:=hf p.1 hb
  obtain⟨o,e',d⟩:=ho p.1 hb
  rw[e] at e';cases e'
  exact⟨e,f0,f1,f2,d⟩
theorem Inv.unpinned{pins pl:List (Addr×Obj)}{σ:St}{H:Hp}{s:Shared}(I:Inv X (pins++pl) σ H s):Inv X pins σ H s:=I.pins_of λp hp=>I.pin p (Aq _ (A9 _ hp))
theorem aBs{iter:Expr}{body:List Stmt}{wi:TI}{g:TG}{tb:TS}{pos:Pos}(hp:PassesOwn (model X.prog X.w) X.A X.env X.xe)(hc:X.calm=true)(hi:PI X tg iter wi)(hg:PG X tg g)(hb:PSs X body tb)
 (hs:∀x,foldedSetIterable iter X.env x=pure x:=by intro _;rfl):PS X (.For tg iter body [] pos) (aLV wi g tb):=by
 intro pins s σ H D I h
 refine wpAny_For (thn (hi pins s σ H _ I h) λv s1 h1=>thn h1 λitv s2 h2=>?_) hs
 obtain⟨it,fp,tn,J,H2,e,I2,T,st2,f2,W,⟨m0,w0⟩,turn⟩:=h2
 subst e
 have stat:∀{H':Hp},(∀b∈fp,H' b=none)->∀b∈fp,jK X pins H' b:=λhn b hb=>⟨hn b hb,(f2 b hb).2⟩
 refine codeAny_forLoop_any (λn s'=>∃i σ' H',Inv X pins σ' H' s'/\tn i s'.heap/\(∀b∈fp,H' b=none)/\W i n σ' H') ?_ m0 ⟨0,σ,H2,I2,st2,λb hb=>(f2 b hb).1,w0⟩
 rintro n s3 ⟨i,σ3,H3,I3,st3,fr3,w3⟩
 rcases turn i n σ3 H3 w3 with⟨stop,qn⟩|⟨go,N,hN,step⟩
 . refine D7 hp (thn (T.done X rfl rfl rfl hc i pins s3 σ3 H3 X.xe I3 (stat fr3) st3 stop) λr s4 ⟨hr,I4⟩=>?_)
   subst hr
   exact wpAny_execs_nil ⟨σ3,H3,I4,qn⟩
 . refine D7 hp (thn (T.item X rfl rfl rfl hc i pins s3 σ3 H3 X.xe I3 (stat fr3) st3 go) λr s4 ⟨u,hr,h4⟩=>?_)
   subst hr
   refine D7 hp (thn h4 λ_ s5 ⟨x,H5,I5,r5,y5,st5,fr5⟩=>?_)
   have I5':=I5.pinned (stat fr5) (T.obj _ _ st5)
   refine D7 hp (thn (hg _ s5 σ3 H5 x u _ I5' r5 (step x H5 y5)) λ_ s6 ⟨σ6,H6,I6,q6⟩=>?_)
   refine D7 hp (thn (hb _ s6 σ6 H6 _ I6 q6) λf s7 q7=>?_)
   have again:∀{σ7:St} {H7:Hp},Inv X (pins++nL fp s5.heap) σ7 H7 s7->N σ7 H7->∃m,m<n/\∃i σ' H',Inv X pins σ' H' s7/\tn i s7.heap/\(∀b∈fp,H' b=none)/\W i m σ' H':=λ{σ7 H7} I7 n7=>by
    obtain⟨m',hm,w7⟩:=hN σ7 H7 n7
    refine⟨m',hm,i+1,σ7,H7,I7.unpinned,T.keep _ _ _ st5 λb hb o e=>(I7.pin (b,o) (Aq _ (Aq _ (fE hb e)))).1,λb hb=>?_,w7⟩
    obtain⟨o,e,d⟩:=T.obj _ _ st5 b hb
    exact(I7.pin (b,o) (Aq _ (Aq _ (fE hb e)))).2.1
   cases f with
   | next=>obtain⟨σ7,H7,I7,n7⟩:=q7;exact again I7 n7
   | cont=>obtain⟨σ7,H7,I7,n7⟩:=q7;exact again I7 n7
   | brk=>obtain⟨σ7,H7,I7,q7⟩:=q7;exact⟨σ7,H7,I7.unpinned,q7⟩
   | ret v=>obtain⟨x7,σ7,H7,I7,r7,q7⟩:=q7;exact⟨x7,σ7,H7,I7.unpinned,r7,q7⟩
end
end L2
namespace L2
open PySem PySem.Spec PyProof.Rows
abbrev R2:=V->V->Hp->VK->Prop
def OpR(X:Cx)(f:Value->Value->Sem Value)(r:R2):Prop:=
 ∀(pins:List (Addr×Obj)) (s:Shared) (σ:St) (H:Hp) (x y:V) (v u:Value) (Q:VK),Inv X pins σ H s->aW x v->aW y u->r x y H Q ->
  wpAny (model X.prog X.w) X.A (f v u) (EP X pins σ Q) X.xe s
def eI(X:Cx)(f:Value)(r:List V->Hp->VK->Prop):Prop:=
 ∀(pins:List (Addr×Obj)) (s:Shared) (σ:St) (H:Hp) (xs:List V) (us:List Value) (Q:VK),Inv X pins σ H s->aM xs us->r xs H Q ->
  wpAny (model X.prog X.w) X.A (call f us) (EP X pins σ Q) X.xe s
def aLW(X:Cx)(r:V->Hp->(Bool->Hp->Prop)->Prop):Prop:=
 ∀(pins:List (Addr×Obj)) (s:Shared) (σ:St) (H:Hp) (x:V) (v:Value) (Q:Bool->Hp->Prop),Inv X pins σ H s->aW x v->r x H Q ->
  wpAny (model X.prog X.w) X.A (truthy v) (TP X pins σ Q) X.xe s
def tOp(r:R2)(ta tb:TE):TE:=λσ H Q=>ta σ H λx H1=>tb σ H1 λy H2=>r x y H2 Q
def rI(C:Int->Int->Prop)(g:Int->Int->V):R2:=λx y H Q=>∃i j,x=.int i/\y=.int j/\C i j/\Q (g i j) H
def rI0(g:Int->Int->V):R2:=λx y H Q=>∃i j,x=.int i/\y=.int j/\Q (g i j) H
section
variable {X:Cx} {a b c:Expr} {ta tb tc:TE} {pos:Pos}
theorem aIR(ha:PE X a ta)(hb:PE X b tb){pins:List (Addr×Obj)}{s:Shared}{σ:St}{H:Hp}{R:V->V->Hp->Prop}(I:Inv X pins σ H s)
 (h:ta σ H λx H1=>tb σ H1 λy H2=>R x y H2) {Q:Value->Shared->Prop} {f:Value->Value->Sem Value}
 (hf:∀v u s2 x y H2,Inv X pins σ H2 s2->aW x v->aW y u->R x y H2->wpAny (model X.prog X.w) X.A (f v u) Q X.xe s2) :
 wpAny (model X.prog X.w) X.A (eval a X.env) (λv s₁=>wpAny (model X.prog X.w) X.A (eval b X.env) (λu s₂=>wpAny (model X.prog X.w) X.A (f v u) Q X.xe s₂) X.xe s₁) X.xe s:=by
 refine thn (ha pins s σ H _ I h) λv s1 ⟨x,H1,I1,r1,q1⟩=>?_
 refine thn (hb pins s1 σ H1 _ I1 q1) λu s2 ⟨y,H2,I2,r2,q2⟩=>?_
 exact hf v u s2 x y H2 I2 r1 r2 q2
theorem opI{f:Value->Value->Sem Value}{C:Int->Int->Prop}{g:Int->Int->Int}
 (rule:∀(i j:Int) (t u:Tok) (s:Shared) (Q:Value->Shared->Prop) (E:Value->Shared->Prop),C i j->Q (.int (g i j) s.toks) { s with toks:=s.toks+1 }->wpAny (model X.prog X.w) X.A (f (.int i t) (.int j u)) Q E s) :
 OpR X f (rI C λi j=>.int (g i j)):=by
 intro pins s σ H x y v u Q I rx ry h
 obtain⟨i,j,rfl,rfl,hc,q⟩:=h
 obtain⟨t,rfl⟩:=rx
 obtain⟨t',rfl⟩:=ry
 exact rule i j t t' s _ _ hc ⟨.int (g i j),H,I.tok _,⟨_,rfl⟩,q⟩
theorem aIS{f:Value->Value->Sem Value}{g:Int->Int->Int}
 (rule:∀(i j:Int) (t u:Tok) (s:Shared) (Q:Value->Shared->Prop) (E:Value->Shared->Prop),Q (.int (g i j) s.toks) { s with toks:=s.toks+1 }->wpAny (model X.prog X.w) X.A (f (.int i t) (.int j u)) Q E s) :
 OpR X f (rI0 λi j=>.int (g i j)):=by
 intro pins s σ H x y v u Q I rx ry h
 obtain⟨i,j,rfl,rfl,q⟩:=h
 obtain⟨t,rfl⟩:=rx
 obtain⟨t',rfl⟩:=ry
 exact rule i j t t' s _ _ ⟨.int (g i j),H,I.tok _,⟨_,rfl⟩,q⟩
theorem aDG{f:Value->Value->Sem Value}{g:Int->Int->Bool}
 (rule:∀(i j:Int) (t u:Tok) (s:Shared) (Q:Value->Shared->Prop) (E:Value->Shared->Prop),Q (.bool (g i j)) s->wpAny (model X.prog X.w) X.A (f (.int i t) (.int j u)) Q E s) :
 OpR X f (rI0 λi j=>.bl (g i j)):=by
 intro pins s σ H x y v u Q I rx ry h
 obtain⟨i,j,rfl,rfl,q⟩:=h
 obtain⟨t,rfl⟩:=rx
 obtain⟨t',rfl⟩:=ry
 exact rule i j t t' s _ _ ⟨.bl (g i j),H,I,rfl,q⟩
def aLX(i j:Int):Prop:=0<j/\j<1073741824
def aLY(i j:Int):Prop:=0<=j/\j<=1000000/\i.natAbs<2 ^ 64
def aGa(i j:Int):Prop:=(-(2 ^ 64)<i/\i<2 ^ 64)\/(-(2 ^ 64)<j/\j<2 ^ 64)
theorem aGa.ok{i j:Int}(h:aGa i j):IntMulOk i j:=by
 rcases h with⟨h1,h2⟩|⟨h1,h2⟩
 . exact .of_left (intBits_le_64 h1 h2)
 . exact .of_right (intBits_le_64 h1 h2)
theorem aGb:OpR X (binaryOp .Add) (rI0 λi j=>.int (i+j)):=aIS λ_ _ _ _ _ _ _ q=>add_int q
theorem aGc:OpR X (binaryOp .Sub) (rI0 λi j=>.int (i-j)):=aIS λ_ _ _ _ _ _ _ q=>sub_int q
theorem aGd:OpR X (binaryOp .Mult) (rI aGa λi j=>.int (i*j)):=opI λ_ _ _ _ _ _ _ hc q=>mul_int q hc.ok
theorem aDH:OpR X (binaryOp .FloorDiv) (rI aLX λi j=>.int (i / j)):=opI λi j _ _ _ _ _ hc q=>by
 have h1:(0:Int)<j:=hc.1
 have h2:j<1073741824:=hc.2
 exact floordiv_int (by omega) (by rw[Int.fdiv_eq_ediv_of_nonneg i (by omega)];exact q) (.inl (PyProof.noPylong_small (by omega)))
theorem aGe:OpR X (binaryOp .Mod) (rI (λ_ j=>0<j) λi j=>.int (i % j)):=opI λi j _ _ _ _ _ hc q=>by
 have h1:(0:Int)<j:=hc
 exact mod_int' (by omega) (by rw[Int.fmod_eq_emod_of_nonneg i (by omega)];exact q)
theorem aGf:OpR X (binaryOp .Pow) (rI aLY λi j=>.int (i ^ j.toNat)):=opI λ_ _ _ _ _ _ _ hc q=>pow_int_small hc.1 hc.2.1 hc.2.2 q
end
section
variable {X:Cx} {a b c:Expr} {ta tb tc:TE} {pos:Pos}
theorem wL{pins:List (Addr×Obj)}{σ:St}{H:Hp}{s:Shared}{Q:VK}{k k':Bool}(I:Inv X pins σ H s)(q:Q (.bl k) H)(e:k=k'):EP X pins σ Q (.bool k') s:=by
 subst e
 exact⟨.bl k,H,I,rfl,q⟩
theorem aIT:OpR X (compareOp .Lt) (rI0 λi j=>.bl (decide (i<j))):=aDG λ_ _ _ _ _ _ _ q=>lt_int q
theorem aIU:OpR X (compareOp .LtE) (rI0 λi j=>.bl (decide (i<=j))):=aDG λ_ _ _ _ _ _ _ q=>le_int q
theorem aIV:OpR X (compareOp .Gt) (rI0 λi j=>.bl (decide (j<i))):=aDG λ_ _ _ _ _ _ _ q=>gt_int q
theorem aIW:OpR X (compareOp .GtE) (rI0 λi j=>.bl (decide (j<=i))):=aDG λ_ _ _ _ _ _ _ q=>ge_int q
theorem aAo:OpR X (compareOp .In) (λx y H Q=>∃i j,x=.str i/\y=.str j/\Q (.bl (!(Builtin.Str.occurrences j i 0 j.length 1).isEmpty)) H):=by
 intro pins s σ H x y v u Q I rx ry h
 obtain⟨i,j,rfl,rfl,q⟩:=h
 obtain⟨t,rfl⟩:=rx
 obtain⟨t',rfl⟩:=ry
 exact in_str (wL I q rfl)
theorem aGg:OpR X (compareOp .Is) (λx y H Q=>y=.non/\Q (.bl (decide (x=.non))) H):=by
 intro pins s σ H x y v u Q I rx ry h
 obtain⟨rfl,q⟩:=h
 cases ry
 refine is_none_gen (wL I q ?_)
 cases x <;> first
  | (cases rx;rfl)
  | (obtain⟨t,rfl⟩:=rx;rfl)
theorem aDI:OpR X (compareOp .IsNot) (λx y H Q=>y=.non/\Q (.bl (!decide (x=.non))) H):=by
 intro pins s σ H x y v u Q I rx ry h
 obtain⟨rfl,q⟩:=h
 cases ry
 refine isnot_none_gen (wL I q ?_)
 cases x <;> first
  | (cases rx;rfl)
  | (obtain⟨t,rfl⟩:=rx;rfl)
theorem yH{op:CmpOp}{r:R2}(ho:OpR X (compareOp op) r)(ha:PE X a ta)(hb:PE X b tb)(hm:behindInMarks op b=false):PE X (.Compare a [op] [b] pos) (tOp r ta tb):=by
 intro pins s σ H Q I h
 exact wpAny_Compare1 (aIR ha hb I h λv u s2 x y H2 I2 rx ry q=>ho pins s2 σ H2 x y v u Q I2 rx ry q) hm
def aFg(t:TE):TT:=λσ H Q=>t σ H λx H'=>∃k,x=.bl k/\Q k H'
theorem rC{op:CmpOp}{r:R2}(ho:OpR X (compareOp op) r)(ha:PE X a ta)(hb:PE X b tb)(hm:behindInMarks op b=false):PT X (.Compare a [op] [b] pos) (aFg (tOp r ta tb)):=by
 intro pins s σ H Q I h
 refine wpAny_isTrue_Compare1 (thn (ha pins s σ H _ I h) λv s1 ⟨x,H1,I1,r1,q1⟩=>thn (hb pins s1 σ H1 _ I1 q1) λu s2 ⟨y,H2,I2,r2,q2⟩=>
  thn (ho pins s2 σ H2 x y v u _ I2 r1 r2 q2) λc s3 ⟨z,H3,I3,r3,k,e,q3⟩=>?_) hm
 subst e
 cases r3
 exact B8 ⟨H3,I3,q3⟩
def aBt(r r':R2)(ta tb tc:TE):TE:=λσ H Q=>ta σ H λx H1=>tb σ H1 λy H2=>r x y H2 λz H3=>∃k,z=.bl k /\
 (if k=true then tc σ H3 λw' H4=>r' y w' H4 Q else Q (.bl false) H3)
theorem aBu{op op':CmpOp}{r r':R2}(ho:OpR X (compareOp op) r)(ho':OpR X (compareOp op') r')(ha:PE X a ta)(hb:PE X b tb)(hc:PE X c tc)
 (hm:lastMarks [op,op'] [b,c]=false:=by with_unfolding_all rfl):PE X (.Compare a [op,op'] [b,c] pos) (aBt r r' ta tb tc):=by
 intro pins s σ H Q I h
 refine Compare_chain (thn (ha pins s σ H _ I h) λv s1 ⟨x,H1,I1,r1,q1⟩=>chain_link (thn (hb pins s1 σ H1 _ I1 q1) λu s2 ⟨y,H2,I2,r2,q2⟩=>
  thn (ho pins s2 σ H2 x y v u _ I2 r1 r2 q2) λd s3 ⟨z,H3,I3,r3,k,e,q3⟩=>?_)) hm
 subst e
 cases r3
 refine B8 ?_
 cases k with
 | false=>exact ite_ff ⟨.bl false,H3,I3,rfl,q3⟩
 | true=>exact ite_tt (chain_last (thn (hc pins s3 σ H3 _ I3 q3) λw' s4 ⟨z',H4,I4,r4,q4⟩=>ho' pins s4 σ H4 y z' u w' Q I4 r2 r4 q4))
theorem aBv{op op':CmpOp}{r r':R2}(ho:OpR X (compareOp op) r)(ho':OpR X (compareOp op') r')(ha:PE X a ta)(hb:PE X b tb)(hc:PE X c tc)
 (hm:lastMarks [op,op'] [b,c]=false:=by with_unfolding_all rfl):PT X (.Compare a [op,op'] [b,c] pos) (aFg (aBt r r' ta tb tc)):=by
 intro pins s σ H Q I h
 refine isTrue_chain (thn (ha pins s σ H _ I h) λv s1 ⟨x,H1,I1,r1,q1⟩=>test_link (thn (hb pins s1 σ H1 _ I1 q1) λu s2 ⟨y,H2,I2,r2,q2⟩=>
  thn (ho pins s2 σ H2 x y v u _ I2 r1 r2 q2) λd s3 ⟨z,H3,I3,r3,k,e,q3⟩=>?_)) hm
 subst e
 cases r3
 refine B8 ?_
 cases k with
 | false=>
  obtain⟨k',e',q'⟩:=q3
  cases e'
  exact ite_ff ⟨H3,I3,q'⟩
 | true=>
  refine ite_tt (test_last (thn (hc pins s3 σ H3 _ I3 q3) λw' s4 ⟨z',H4,I4,r4,q4⟩=>thn (ho' pins s4 σ H4 y z' u w' _ I4 r2 r4 q4) λd' s5 ⟨z2,H5,I5,r5,k2,e2,q5⟩=>?_))
  subst e2
  cases r5
  exact B8 ⟨H5,I5,q5⟩
def aDJ(K:PySem.W.Frag)(x:V)(H:Hp)(k:Bool):Prop:=
 match x with
 | .non=>k=false
 | .bl b=>k=b
 | .int i=>k=(i != 0)
 | .str y=>y.length<=sizeLine/\k=((y.length:Int) != 0)
 | .byt y=>y.size<=sizeLine/\k=((y.size:Int) != 0)
 | .ref p=>(∃xs,SqL K H p xs/\k=!xs.isEmpty)\/(∃xs,SqT K H p xs/\k=!xs.isEmpty)\/∃kvs,H p=some (.dK kvs)/\k=!kvs.isEmpty
 | _=>False
theorem wM{κ:Type}{kvs:List (κ×V)}{vs:List (κ×Value)}(r:KV kvs vs):(!vs.isEmpty)=!kvs.isEmpty:=by
 cases r <;> rfl
theorem nM{xs:List V}{its:List Value}(r:aM xs its):(!its.toArray.isEmpty)=!xs.isEmpty:=by
 cases r <;> simp
theorem iS:(sizeLine:Nat)<2 ^ 63:=by rw[Be];decide
theorem aBw:aLW X (λx H Q=>∃k,aDJ X.K x H k/\Q k H):=by
 intro pins s σ H x v Q I rx h
 obtain⟨k,e,q⟩:=h
 have hl:=iS
 have hs:sizeLine=16777216:=Be
 cases x with
 | non=>
  cases rx
  have e':k=false:=e
  subst e'
  exact truthy_none ⟨H,I,q⟩
 | bl b=>
  cases rx
  have e':k=b:=e
  subst e'
  exact B8 ⟨H,I,q⟩
 | int i=>
  obtain⟨t,rfl⟩:=rx
  have e':k=(i != 0):=e
  subst e'
  exact PySem.P.truthy_int ⟨H,I,q⟩
 | str y=>
  obtain⟨t,rfl⟩:=rx
  obtain⟨hy,e'⟩:y.length<=sizeLine/\k=((y.length:Int) != 0):=e
  subst e'
  exact PySem.P.truthy_str (by omega) ⟨H,I.tok _,q⟩
 | byt y=>
  obtain⟨t,rfl⟩:=rx
  obtain⟨hy,e'⟩:y.size<=sizeLine/\k=((y.size:Int) != 0):=e
  subst e'
  exact PySem.W.truthy_bytes (by omega) ⟨H,I.tok _,q⟩
 | ref p=>
  cases rx
  have e':(∃xs,SqL X.K H p xs/\k=!xs.isEmpty)\/(∃xs,SqT X.K H p xs/\k=!xs.isEmpty)\/∃kvs,H p=some (.dK kvs)/\k=!kvs.isEmpty:=e
  rcases e' with⟨xs,hx,e'⟩|⟨xs,hx,e'⟩|⟨kvs,hx,e'⟩
  . subst e'
    obtain⟨its,r,pl,hz⟩:=I.list hx
    have hlen:=r.length
    exact wpAny_truthy_list pl.isList (by simp only[Af];omega) ⟨H,I.tok _,by rw[nM r];exact q⟩
  . subst e'
    obtain⟨its,r,pl,hz⟩:=I.tuple hx
    have hlen:=r.length
    exact truthy_tuple pl (by simp only[Af];omega) ⟨H,I.tok _,by rw[nM r];exact q⟩
  . subst e'
    obtain⟨hz,hS,vs,r,m⟩:kvs.length<=sizeLine/\(p==sysModules)=false/\∃vs,KV kvs vs/\s.heap.DictOf (bS X.prog X.w) p vs:=I.hok p _ hx
    have hlen:kvs.length=vs.length:=Paired.length r
    exact wpAny_truthy_dict hS m (by omega) ⟨H,I.tok _,by rw[wM r];exact q⟩
 | _=>exact(show False from e).elim
theorem aBx(ha:PE X a ta)(he:∀whole,isTrue a X.env whole=(do let v<-whole;standAt a.pos;holding [v] (truthy v))) :
 PT X a (λσ H Q=>ta σ H λx H'=>∃k,aDJ X.K x H' k/\Q k H'):=by
 intro pins s σ H Q I h
 exact isTrue_plain (thn (ha pins s σ H _ I h) λv s1 ⟨x,H1,I1,r1,q1⟩=>aBw pins s1 σ H1 x v Q I1 r1 q1) (he _)
theorem wN:OpR X (binaryOp .Add) (λx y H Q=>∃i j,x=.str i/\y=.str j/\i.length+j.length<=sizeLine/\Q (.str (i++j)) H):=by
 intro pins s σ H x y v u Q I rx ry h
 obtain⟨i,j,rfl,rfl,hz,q⟩:=h
 obtain⟨t,rfl⟩:=rx
 obtain⟨t',rfl⟩:=ry
 exact add_str (λt' tk=>⟨.str (i++j),H,I.tok _,⟨_,rfl⟩,q⟩) hz
theorem nN{x:V}{us:List Value}(r:aM [x] us):∃u,us=[u]/\aW x u:=by
 cases r with
 | cons r1 r2=>cases r2;exact⟨_,rfl,r1⟩
theorem aIX{x y:V}{us:List Value}(r:aM [x,y] us):∃u w',us=[u,w']/\aW x u/\aW y w':=by
 cases r with
 | cons r1 r2=>
  cases r2 with
  | cons r3 r4=>cases r4;exact⟨_,_,rfl,r1,r3⟩
theorem aAp(hc:X.calm=true):eI X (.builtin "min") (λxs H Q=>∃i j,xs=[.int i,.int j]/\Q (.int (if j<i then j else i)) H):=by
 intro pins s σ H xs us Q I r h
 obtain⟨i,j,rfl,q⟩:=h
 obtain⟨u,w',rfl,⟨t,rfl⟩,⟨t',rfl⟩⟩:=aIX r
 refine min_two_ints (I.ok.hd hc) λh' tk k=>⟨_,H,I.kept k,?_,q⟩
 by_cases hj:j<i
 . rw[if_pos hj,if_pos hj];exact⟨_,rfl⟩
 . rw[if_neg hj,if_neg hj];exact⟨_,rfl⟩
theorem aAq:eI X (.type "int") (λxs H Q=>(∃i,xs=[.int i]/\Q (.int i) H)\/∃k,xs=[.bl k]/\Q (.int (if k then 1 else 0)) H):=by
 intro pins s σ H xs us Q I r h
 rcases h with⟨i,rfl,q⟩|⟨k,rfl,q⟩
 . obtain⟨u,rfl,t,rfl⟩:=nN r
   exact call_int_int ⟨.int i,H,I,⟨_,rfl⟩,q⟩
 . obtain⟨u,rfl,r1⟩:=nN r
   cases r1
   exact call_int_bool ⟨.int (if k then 1 else 0),H,I.tok _,⟨_,rfl⟩,q⟩
end
end L2
namespace L2
open PySem PySem.Spec PyProof.Rows
section
variable {prog:Program} {w:World} {A:Around} {E:Value->Shared->Prop} {s:Shared} {K:PySem.W.Frag} {x dx C f:Addr} {mA:Str->Option Value} {name:Str} {v:Value}
end
def putF(f:Str)(v:V):List (Str×V)->List (Str×V)
 | []=>[(f,v)]
 | (g,x)::r=>if g=f then (g,v)::r else (g,x)::putF f v r
section
variable {P:Program} {w:World} {H H':Hp} {h h':Heap} {a C dx:Addr} {fs fs':List (Str×V)}
end
section
variable {X:Cx} {pins:List (Addr×Obj)} {σ:St} {H:Hp} {s:Shared} {a C dx:Addr} {fs:List (Str×V)} {f:Str} {v:V} {A:Around} {E:Value->Shared->Prop}
end
section
variable {X:Cx} {o e value:Expr} {f:Str} {pos pos' tpos:Pos} {ta tv:TE}
end
section
variable {X:Cx} {pins:List (Addr×Obj)} {σ:St} {H:Hp} {s:Shared} {A:Around} {E:Value->Shared->Prop} {Q:Value->Shared->Prop} {c:Value} {b:Bool}
end
end L2
namespace L2
open PySem PySem.Spec PyProof.Rows
structure iT (k:Nat) (A:Around):Prop where
 hd:A.handled=none
 gd:A.guards=some []
 dp:A.depth+3*k+5<recursionLimit
 un:A.units+16*k+200<cLine
theorem iT.deeper{k:Nat}{A:Around}(r:iT (k+1) A)(env:Env):iT k (A.deeper env):=
 ⟨r.hd,r.gd,by have:=r.dp;show A.depth+1+3*k+5<_;omega,by have:=r.un;show A.units+3+16*k+200<_;omega⟩
theorem iT.depth{k:Nat}{A:Around}(r:iT k A):A.depth<recursionLimit:=by have:=r.dp;omega
def aIY:TA:=λ_ H Q=>Q [] H
def aIZ(ta:TE)(tr:TA):TA:=λσ H Q=>ta σ H λx H1=>tr σ H1 λxs H2=>Q (x::xs) H2
section
variable {X:Cx} {e:Expr} {es:List Expr} {te:TE} {t:TA} {pos:Pos}
theorem cT:PA X [] aIY:=λ_ _ _ _ H Q I h=>Ec ⟨[],H,I,.nil,h⟩
theorem bQ(ha:PE X e te)(hr:PA X es t)(hs:starEach (e::es) X.env=(false,eval e X.env)::starEach es X.env:=by rfl):PA X (e::es) (aIZ te t):=by
 intro pos pins s σ H Q I h
 rw[hs]
 show wpAny _ _ (spliced ((false,eval e X.env)::backTo pos (starEach es X.env))) _ _ s
 refine C9 (thn (ha pins s σ H _ I h) λu s1 ⟨x,H1,I1,r1,q1⟩=>?_)
 exact thn (hr pos pins s1 σ H1 _ I1 q1) λus s2 ⟨xs,H2,I2,r2,q2⟩=>⟨x::xs,H2,I2,.cons r1 r2,q2⟩
def aLZ(t:TA):TE:=λσ H Q=>t σ H λxs H1=>xs.length<=sizeLine/\∀p,H1 p=none->Q (.ref p) (upd H1 p (.tup xs))
def aMa(t:TA):TE:=λσ H Q=>t σ H λxs H1=>xs.length<=sizeLine/\∀p,H1 p=none->Q (.ref p) (upd H1 p (.lst xs))
theorem aBy{x1}(h:PA X es t):PE X (.Tuple es x1 pos) (aLZ t):=by
 intro pins s σ H Q I hq
 refine wpAny_Tuple_spliced (thn (h pos pins s σ H _ I hq) λus s1 ⟨xs,H1,I1,r,z,q⟩=>⟨by rw[<-r.length];exact z,?_⟩)
 have hf:H1 s1.heap.objs.size=none:=I1.hok.fresh (Ag _)
 refine⟨.ref s1.heap.objs.size,upd H1 s1.heap.objs.size (.tup xs),I1.laid (t':=s1.toks) (λb u e=>Ab _ e) (Ag _) ?_,rfl,q _ hf⟩
 exact⟨z,us,r,⟨_,Ah _ rfl,rfl,_,rfl⟩⟩
theorem wP(h:PA X es t):PE X (.List es pos) (aMa t):=by
 intro pins s σ H Q I hq
 refine wpAny_List_spliced (thn (h pos pins s σ H _ I hq) λus s1 ⟨xs,H1,I1,r,z,q⟩=>⟨by rw[<-r.length];exact z,?_⟩)
 have hf:H1 s1.heap.objs.size=none:=I1.hok.fresh (Ag _)
 refine⟨.ref s1.heap.objs.size,upd H1 s1.heap.objs.size (.lst xs),I1.laid (t':=s1.toks) (λb u e=>Ab _ e) (Ag _) ?_,rfl,q _ hf⟩
 exact⟨z,us,0,r,Ah _ rfl⟩
end
abbrev Sp:=List V->Hp->VK->XK->Prop
abbrev CXT:=List Env->Hp->Shared->XK->Value->Shared->Prop
structure aDK (P:Program) (w:World) (K:PySem.W.Frag) (mg:Str->Option Value) (base:Heap) (A:Around) (outer:List Env) (s:Shared) (H:Hp):Prop where
 frames:A.frames=some outer
 mod:Mod K mg base
 bs:∀b o,base.get? b=some o->s.heap.get? b=some o/\H b=none
 bsz:base.objs.size<=s.heap.objs.size
 funs:s.heap.FunFrames base outer
 frf:∀b∈frs outer,H b=none
 hok:HOk P w H s.heap
 bare:AllBare s.gens
def CE(outer:List Env)(P:Program)(w:World)(H:Hp)(s:Shared)(Q:VK)(u:Value)(s':Shared):Prop:=
 ∃v H',s'.os=s.os/\AllBare s'.gens/\Un (frs outer) [] H H' s.heap s'.heap/\HOk P w H' s'.heap/\aW v u/\Q v H'
def CR(CX:CXT)(outer:List Env)(P:Program)(w:World)(H:Hp)(s:Shared)(Q:VK)(E:XK)(r:Result)(s':Shared):Prop:=
 match r with
 | .ok (.ret u)=>CE outer P w H s Q u s'
 | .ok _=>False
 | .error e=>CX outer H s E e s'
structure mI (P:Program) (w:World) (K:PySem.W.Frag) (mg:Str->Option Value) (base:Heap) (CX:CXT) (k:Nat) (f:Addr) (fd:FuncData) (ps:List Str) (sp:Sp):Prop where
 len:∀vs H Q E,sp vs H Q E->vs.length=ps.length
 run:∀(A:Around) (outer:List Env) (s:Shared) (H:Hp) (args:Args) (us:List Value) (vs:List V) (Q:VK) (E:XK),iT k A->aDK P w K mg base A outer s H->BindsTo s fd args (ps.zip us)->aM vs us->sp vs H Q E ->
  codeAny (model P w) A (.call (.ref f) args) (CR CX outer P w H s Q E) s
section
variable {X:Cx} {pins:List (Addr×Obj)} {σ:St} {H:Hp} {s s':Shared}
theorem Inv.env0(I:Inv X pins σ H s):aDK X.prog X.w X.K X.mg X.base X.A X.stack s H:=
 ⟨I.ok.frames,I.ok.mod,I.bs,Av I.ok.bsz I.sz,I.stack,I.stkFree,I.hok,I.bare⟩
theorem Inv.after{Q:VK}{u:Value}(I:Inv X pins σ H s)(h:CE X.stack X.prog X.w H s Q u s'):EP X pins σ Q u s':=by
 obtain⟨v,H',os,bare,un,hok,r,q⟩:=h
 obtain⟨hh,g,d,t,os'⟩:=s'
 obtain rfl:os'=s.os:=os
 exact⟨v,H',I.call (h':=hh) (g':=g) (d':=d) (t':=t) (ch:=[]) un hok bare (λb z=>absurd z (by simp)),r,q⟩
end
def aFh(sp:Sp)(dvs:List V)(E:XK)(t:TA):TE:=λσ H Q=>t σ H λvs H1=>sp (vs++dvs) H1 Q E
def iL(K:PySem.W.Frag)(fd:FuncData)(ps:List Str)(ds:List Value):Prop:=
 ∀(s:Shared) (us:List Value),K.In s.heap->(us++ds).length=ps.length->BindsTo s fd ⟨us,[]⟩ (ps.zip (us++ds))
theorem iL.all{K:PySem.W.Frag}{fd:FuncData}{ps:List Str}(h:∀us:List Value,us.length=ps.length->bindArgs fd ⟨us,[]⟩=pure (ps.zip us)):iL K fd ps []:=λs us _ hl=>by
 rw[Bt] at hl ⊢
 exact .of_eq (h us hl)
def rD(CX:CXT)(X:Cx)(E:XK):Prop:=∀(pins:List (Addr×Obj)) (σ:St) (H:Hp) (s:Shared) (e:Value) (s':Shared),Inv X pins σ H s->CX X.stack H s E e s'->X.xe e s'
section
variable {X:Cx} {CX:CXT} {k:Nat} {f C:Addr} {fd:FuncData} {ps:List Str} {sp:Sp} {dvs:List V} {ds:List Value} {E:XK} {x m:Str} {p pos apos:Pos} {e o:Expr} {es:List Expr} {ta:TE} {t:TA}
theorem aBz{pins:List (Addr×Obj)}{σ:St}{H:Hp}{s:Shared}{Q:VK}{us:List Value}{vs:List V}(F:mI X.prog X.w X.K X.mg X.base CX k f fd ps sp)(hr:iT k X.A)(hb:iL X.K fd ps ds)(hd:aM dvs ds)(hx:rD CX X E)
 (I:Inv X pins σ H s) (r:aM vs us) (h:sp (vs++dvs) H Q E):wpAny (model X.prog X.w) X.A (call (.ref f) us) (EP X pins σ Q) X.xe s:=by
 have r2:aM (vs++dvs) (us++ds):=r.append hd
 have hl:(us++ds).length=ps.length:=by rw[<-r2.length];exact F.len _ _ _ _ h
 refine wpAny_call (codeAny_mono (F.run X.A X.stack s H ⟨us,[]⟩ (us++ds) (vs++dvs) Q E hr I.env0 (hb s us I.kIn hl) r2 h) λr s' hq=>?_)
 cases r with
 | error e=>exact hx pins σ H s e s' I hq
 | ok fl=>
  cases fl with
  | ret u=>exact I.after hq
  | next=>exact False.elim hq
  | brk=>exact False.elim hq
  | cont=>exact False.elim hq
theorem mU(F:mI X.prog X.w X.K X.mg X.base CX k f fd ps sp)(hr:iT k X.A)(hg:Gl X x)(hm:X.mg x=some (.ref f))(hk:PySem.W.keepIn X.K (.ref f)=true)(hb:iL X.K fd ps ds)(hd:aM dvs ds)(hx:rD CX X E)
 (ha:PA X (e::es) t) (hdb:(x==("__debug__" : Str))=false:=by decide) (he:starEach (e::es) X.env=(false,eval e X.env)::starEach es X.env:=by rfl) (hpl:(backTo pos (starEach es X.env)).any (·.1)=false:=by rfl) :
 PE X (.Call (.Name x p) (e::es) [] pos) (aFh sp dvs E t):=by
 intro pins s σ H Q I h
 refine B5 (qZ I hg hm ?_ hdb)
 refine PySem.W.callWith_K (h₀:=X.base) I.ok.mod.kin hk (thn (ha pos pins s σ H _ I h) λus s1 ⟨vs,H1,I1,r,q⟩=>⟨I1.kIn,?_⟩) he hpl
 exact aBz F hr hb hd hx I1 r q
theorem aBA(F:mI X.prog X.w X.K X.mg X.base CX k f fd ps sp)(hr:iT k X.A)(hg:Gl X x)(hm:X.mg x=some (.ref f))(hk:PySem.W.keepIn X.K (.ref f)=true)(hb:iL X.K fd ps ds)(hd:aM dvs ds)(hx:rD CX X E)
 (hdb:(x==("__debug__" : Str))=false:=by decide):PE X (.Call (.Name x p) [] [] pos) (aFh sp dvs E aIY):=by
 intro pins s σ H Q I h
 refine B5 (qZ I hg hm ?_ hdb)
 exact PySem.W.callWith_K0 I.kIn hk (aBz (us:=[]) F hr hb hd hx I .nil h)
end
section
variable {X:Cx} {CX:CXT} {k:Nat} {f C:Addr} {fd:FuncData} {ps ks:List Str} {sp:Sp} {E:XK} {x m:Str} {p pos apos kpos:Pos} {e o:Expr} {es:List Expr} {kws:List Keyword} {te ta:TE} {t tk:TA} {nm:Option Str}
variable {g:List Value->List Value->List Value} {gV:List V->List V->List V}
end
structure mV (N P:List Str) (sc:Scope):Prop where
 kind:sc.kind=.function
 co:sc.isCoroutine=false
 gen:sc.isGenerator=false
 nd:N.Nodup
 pre:N.take P.length=P
 par:∀x∈P,sc.names.lookup x=some .local\/sc.names.lookup x=some .cell
 nofree:∀y∈sc.names,y.2≠.free
theorem pS{kindOf:Str->Option NameKind}{x:Str}:∀{binds:List (Str×Value)} {m:Str->Option Value},(∀v,(x,v)∉binds)->bindL kindOf binds m x=m x
 | [],_,_=>rfl
 | (n,v)::r,m,h=>by
  unfold bindL
  rw[pS λw hw=>h w (Ae _ hw)]
  split
  . have:x≠n:=by rintro rfl;exact h v Ak
    simp[this]
  . rfl
theorem pT{kindOf:Str->Option NameKind}{x:Str}:∀{binds:List (Str×Value)} {m:Str->Option Value},(∀v,(x,v)∉binds)->bindC kindOf binds m x=m x
 | [],_,_=>rfl
 | (n,v)::r,m,h=>by
  unfold bindC
  rw[pT λw hw=>h w (Ae _ hw)]
  split
  . rfl
  . have:x≠n:=by rintro rfl;exact h v Ak
    simp[this]
theorem pU{kindOf:Str->Option NameKind}{x:Str}{v:Value}:∀{P:List Str} {vs:List Value} {i:Nat} {m:Str->Option Value},P.Nodup->P[i]? = some x->vs[i]? = some v->kindOf x=some .local ->
 bindL kindOf (P.zip vs) m x=some v
 | [],_,_,_,_,h,_,_=>by simp at h
 | _::_,[],_,_,_,_,h,_=>by simp at h
 | p::P,w::vs,0,m,nd,h1,h2,hk=>by
  simp at h1 h2;subst h1;subst h2
  show bindL kindOf ((p,w)::P.zip vs) m p=_
  unfold bindL
  rw[pS λv hv=>(Bu.mp nd).1 (List.of_mem_zip hv).1,if_pos hk]
  simp
 | p::P,w::vs,i+1,m,nd,h1,h2,hk=>by
  show bindL kindOf ((p,w)::P.zip vs) m x=_
  unfold bindL
  exact pU (i:=i) (Bu.mp nd).2 (by simpa using h1) (by simpa using h2) hk
theorem pV{kindOf:Str->Option NameKind}{x:Str}{v:Value}:∀{P:List Str} {vs:List Value} {i:Nat} {m:Str->Option Value},P.Nodup->P[i]? = some x->vs[i]? = some v->kindOf x≠some .local ->
 bindC kindOf (P.zip vs) m x=some v
 | [],_,_,_,_,h,_,_=>by simp at h
 | _::_,[],_,_,_,_,h,_=>by simp at h
 | p::P,w::vs,0,m,nd,h1,h2,hk=>by
  simp at h1 h2;subst h1;subst h2
  show bindC kindOf ((p,w)::P.zip vs) m p=_
  unfold bindC
  rw[pT λv hv=>(Bu.mp nd).1 (List.of_mem_zip hv).1,if_neg hk]
  simp
 | p::P,w::vs,i+1,m,nd,h1,h2,hk=>by
  show bindC kindOf ((p,w)::P.zip vs) m x=_
  unfold bindC
  exact pV (i:=i) (Bu.mp nd).2 (by simpa using h1) (by simpa using h2) hk
def start(N:List Str)(vs:List V):St:=vs.map some++List.replicate (N.length-vs.length) none
def wR(CX:CXT)(P:Program)(w:World)(K:PySem.W.Frag)(mg:Str->Option Value)(base:Heap)(N:List Str)(qual:Str)(scope:Scope)(f:Addr)(cd:Value)(A:Around)(outer:List Env)(s:Shared)(H:Hp)(E:XK):Cx where
 prog:=P
 w:=w
 K:=K
 mg:=mg
 base:=base
 A:=A.deeper (envOfC qual scope s.heap.objs.size f cd)
 N:=N
 s₀:=s
 H₀:=H
 env:=envOfC qual scope s.heap.objs.size f cd
 outer:=outer
 stack:=envOfC qual scope s.heap.objs.size f cd::outer
 ex:=[]
 calm:=true
 fn:=λ_=>true
 pn:=[]
 xe:=λe s'=>wpAny (model P w) (A.deeper (envOfC qual scope s.heap.objs.size f cd)) (leaving (envOfC qual scope s.heap.objs.size f cd) e) (λ_ s''=>CX outer H s E e s'') (λe' s''=>CX outer H s E e' s'') s'
theorem tS{sc:Scope}{n:Nat}{x:Str}(h:sc.names.lookup x=some .cell):∃c,(cellsFrom n sc.names []).lookup x=some c:=by
 have q:=PySem.W.cellsFrom_some sc.names n [] (.inl h)
 exact Option.isSome_iff_exists.mp q
theorem aAr{CX:CXT}{P:Program}{w:World}{K:PySem.W.Frag}{mg:Str->Option Value}{base:Heap}{N ps:List Str}{qual:Str}{scope:Scope}{f:Addr}{cd:Value}{A:Around}{outer:List Env}{s s1:Shared}{H:Hp}{E:XK}{us:List Value}{vs:List V}
 (S:mV N ps scope) (hd:A.handled=none) (e0:aDK P w K mg base A outer s H) (hl:vs.length=ps.length) (r:aM vs us)
 (x:InCallC s s.heap.objs.size (bindL (envOfC qual scope s.heap.objs.size f cd).kindOf (ps.zip us) λ_=>none) (cellsFrom (s.heap.objs.size+1) scope.names []) (bindC (envOfC qual scope s.heap.objs.size f cd).kindOf (ps.zip us) λ_=>none) s1) :
 Inv (wR CX P w K mg base N qual scope f cd A outer s H E) [] (start N vs) H s1:=by
 have hpl:ps.length<=N.length:=by have:=congrArg List.length S.pre;rw[Cd] at this;omega
 obtain⟨h1,tk,rfl,hk⟩:=x.done
 have noA:∀b:Addr,b∉(wR CX P w K mg base N qual scope f cd A outer s H E).ex:=λb z=>absurd (show b∈([]:List Addr) from z) (by simp)
 refine⟨⟨e0.mod,S.kind,rfl,rfl,Ag _,λy z c h1 h2=>?_,λy hy=>?_,λy c _ h=>?_,λ_=>hd,Around.frames_deeper e0.frames,.inr ⟨rfl,rfl⟩,λb z=>absurd z (noA b),e0.bs,e0.bsz,λb _ _=>noA b,λb z=>absurd z (noA b),e0.funs,e0.frf⟩,
  rfl,e0.bare,Un.kept hk,⟨_,x.toInCall.ns,λi y v h1 h2 h3=>?_⟩,λy c h=>⟨_,x.cell y c h⟩,e0.hok.fresh (Ag _),λy c h=>?_,λp hp=>absurd (show p∈([]:List (Addr×Obj)) from hp) (by simp),e0.hok.kept hk,?_⟩
 . exact name_of_addr x.apart (B0 h1) (B0 h2)
 . have hy:scope.names.lookup y=some .cell\/scope.names.lookup y=some .free:=hy
   rcases hy with hy|hy
   . exact tS hy
   . exact absurd rfl (S.nofree _ (B0 hy))
 . exact C7 (x.above y c (B0 h))
 . have hi:i<vs.length:=by
    unfold start at h2
    by_cases hi:i<vs.length
    . exact hi
    . rw[Bk (by simpa using hi)] at h2
      rw[Ci] at h2
      split at h2 <;> cases h2
   have ha:vs[i]? = some v:=by
    unfold start at h2
    rw[Bz (by simpa using hi),Ax] at h2
    cases e:vs[i]? with
    | none=>rw[e] at h2;cases h2
    | some a=>rw[e] at h2;cases h2;rfl
   obtain⟨u,hu,rv⟩:=r.get ha
   have hp:ps[i]? = some y:=by
    rw[<-S.pre,List.getElem?_take_of_lt (by omega)];exact h1
   have ndP:ps.Nodup:=by rw[<-S.pre];exact S.nd.sublist (List.take_sublist _ _)
   refine⟨u,rv,?_⟩
   rcases S.par y (List.mem_of_getElem? hp) with k|k
   . exact .inl ⟨k,pU ndP hp hu k⟩
   . obtain⟨c,e⟩:=tS (n:=s.heap.objs.size+1) k
     refine .inr ⟨.inl k,c,e,?_⟩
     have q:=x.cell y c e
     rw[pV ndP hp hu (by show scope.names.lookup y≠_;rw[k];decide)] at q
     exact q
 . exact e0.hok.fresh (C7 (x.above y c (B0 h)))
 . unfold start
   show _=N.length
   rw[Da,List.length_map,Bc]
   omega
theorem aJa{CX:CXT}{P:Program}{w:World}{K:PySem.W.Frag}{mg:Str->Option Value}{base:Heap}{k:Nat}{f:Addr}{name qual:Str}{params:Arguments}{body:List Stmt}{scope:Scope}{dV kV doc pm cdv ct oc:Value}{an od:Option Addr}
 {osl:Array (Option Value)} {N ps:List Str} {sp:Sp} (lk:K.lookup f=some ⟨oc,od,.func (PySem.W.fnOf name qual params body scope dV kV doc pm an cdv ct),osl⟩) (hcd:PySem.W.codeIn K cdv qual=true) (S:mV N ps scope)
 (len:∀vs H Q E,sp vs H Q E->vs.length=ps.length)
 (hbody:∀(A:Around) (outer:List Env) (s:Shared) (H:Hp) (vs:List V) (Q:VK) (E:XK),iT k (A.deeper (envOfC qual scope s.heap.objs.size f cdv))->sp vs H Q E ->
  ∃t,PSs (wR CX P w K mg base N qual scope f cdv A outer s H E) body t/\t { nx:=λ_ H'=>Q .non H',rt:=Q } (start N vs) H) :
 mI P w K mg base CX (k+1) f (PySem.W.fnOf name qual params body scope dV kV doc pm an cdv ct) ps sp:=by
 refine⟨len,λA outer s H args us vs Q E hr e0 hb r hsp=>?_⟩
 have hl:=len _ _ _ _ hsp
 have KX:K.In s.heap:=e0.mod.kin.keeps λb o e=>(e0.bs b o e).1
 have lim:s.heap.NoLimit:=e0.mod.nolimit.keeps λb o e=>(e0.bs b o e).1
 have hkind:∀y∈ps.zip us,scope.names.lookup y.1=some .local\/(scope.names.lookup y.1=some .cell/\((cellsFrom (s.heap.objs.size+1) scope.names []).lookup y.1).isSome=true):=λ⟨n,v⟩ hy=>by
  rcases S.par n (List.of_mem_zip hy).1 with q|q
  . exact .inl q
  . exact .inr ⟨q,PySem.W.cellsFrom_some _ _ _ (.inl q)⟩
 refine codeAny_call_function hr.depth (KX _ _ lk) rfl S.co S.gen rfl (PySem.W.codeRec_of KX hcd) (hb _ _ _ _ ?_)
 refine wpAny_newFunctionEnv_cells S.kind hkind λenv he s1 x=>?_
 subst he
 refine⟨lim.keeps x.toInCall.keep,codeAny_func ?_⟩
 obtain⟨t,ht,hq⟩:=hbody A outer s H vs Q E (hr.deeper _) hsp
 have I:Inv (wR CX P w K mg base N qual scope f cdv A outer s H E) [] (start N vs) H s1:=aAr S hr.hd e0 hl r x
 refine C8 (ht [] s1 (start N vs) H _ I hq) (λfl s' hs=>?_) λe s' hs=>hs
 have fin:∀{σ':St} {H':Hp} {v:V} {u:Value},Inv (wR CX P w K mg base N qual scope f cdv A outer s H E) [] σ' H' s'->aW v u->Q v H'->CE outer P w H s Q u s':=
  λ{σ' H' v u} J rv q=>⟨v,H',J.os,J.bare,J.base,J.hok,rv,q⟩
 cases fl with
 | ret u=>
  obtain⟨v,σ',H',J,rv,q⟩:=hs
  exact fin J rv q
 | next=>
  obtain⟨σ',H',J,q⟩:=hs
  exact fin (v:=V.non) (u:=Value.none) J rfl q
 | brk=>
  obtain⟨_,_,_,q⟩:=hs
  exact False.elim q
 | cont=>
  obtain⟨_,_,_,q⟩:=hs
  exact False.elim q
end L2
namespace L2
open PySem PySem.Spec PyProof.Rows
section
variable {X:Cx} {x:Str} {p pos:Pos} {e:Expr} {es:List Expr} {t:TA} {id T:String} {r:List V->Hp->VK->Prop}
def tCB(r:List V->Hp->VK->Prop)(t:TA):TE:=λσ H Q=>t σ H λvs H1=>r vs H1 Q
theorem nO(hc:eI X (.builtin id) r)(hg:Gl X x)(hm:X.mg x=none)(hv:bootBuiltins x=some (.builtin id))(ha:PA X (e::es) t)(hn:x ≠ "__name__" := by decide)(hdb:(x==("__debug__" : Str))=false:=by decide)
 (he:starEach (e::es) X.env=(false,eval e X.env)::starEach es X.env:=by rfl) (hpl:(backTo pos (starEach es X.env)).any (·.1)=false:=by rfl):PE X (.Call (.Name x p) (e::es) [] pos) (tCB r t):=by
 intro pins s σ H Q I h
 refine B5 (eA I hg hm hv ?_ hn hdb)
 exact Ce (thn (ha pos pins s σ H _ I h) λus s1 ⟨vs,H1,I1,r1,q1⟩=>hc pins s1 σ H1 vs us Q I1 r1 q1) he hpl
theorem hZ(hc:eI X (.type T) r)(hg:Gl X x)(hm:X.mg x=none)(hv:bootBuiltins x=some (.type T))(ha:PA X (e::es) t)(hn:x ≠ "__name__" := by decide)(hdb:(x==("__debug__" : Str))=false:=by decide)
 (he:starEach (e::es) X.env=(false,eval e X.env)::starEach es X.env:=by rfl) (hpl:(backTo pos (starEach es X.env)).any (·.1)=false:=by rfl):PE X (.Call (.Name x p) (e::es) [] pos) (tCB r t):=by
 intro pins s σ H Q I h
 refine B5 (eA I hg hm hv ?_ hn hdb)
 exact Br (thn (ha pos pins s σ H _ I h) λus s1 ⟨vs,H1,I1,r1,q1⟩=>hc pins s1 σ H1 vs us Q I1 r1 q1) he hpl
end
end L2
namespace HT
open PySem PyProof.Rows
section
open PySem.SeqAt
open PySem.AutoSeq1 (wpAny_loadPart')
open PySem.MeetsSeq PySem.MeetsSeq2 PySem.MeetsSeq3
end
section
variable {prog:Program} {w:World} {A:Around} {E:Value->Shared->Prop} {s:Shared}
theorem cat_tup{t b:Addr}{vs ws:List Value}{Q:Value->Shared->Prop}(ht:IsTup s.heap t vs.toArray)(hb:IsTup s.heap b ws.toArray)(hv:vs≠[])
 (h1:ws=[]->Q (.ref t) s) (h2:ws≠[]->Q (.ref s.heap.objs.size) { s with heap:=s.heap.push { cls:=.type "tuple",data:=.seq (vs++ws).toArray } })
 (hsz:vs.length+ws.length<=sizeLine):wpAny (model prog w) A (binaryOp .Add (.ref t) (.ref b)) Q E s:=by
 obtain⟨⟨cls,dd,data,sl⟩,ho,hc,n,hd⟩:=id ht
 obtain⟨⟨cls2,dd2,data2,sl2⟩,ho2,hc2,n2,hd2⟩:=id hb
 simp only at hc hd hc2 hd2
 subst hc hd hc2 hd2
 have e:vs.toArray++ws.toArray=(vs++ws).toArray:=by simp
 by_cases hw:ws=[]
 . exact concat_meets ⟨_,ho,rfl⟩ ⟨_,ho2,rfl⟩ noFill_tuple_add seq_tuple_add Ed Ea (Dz _ _)
    (tuple_addW1 t b vs.toArray ws.toArray n n2 dd dd2 sl sl2 (by simpa using hv) (by simp[hw])) ⟨ho,ho2,h1 hw⟩
 . refine concat_meets ⟨_,ho,rfl⟩ ⟨_,ho2,rfl⟩ noFill_tuple_add seq_tuple_add Ed Ea (Dz _ _)
    (tuple_addW2 t b vs.toArray ws.toArray n n2 dd dd2 sl sl2 (by simpa using hv) (by simpa using hw) (by rw[Af,Af];exact hsz)) ⟨ho,ho2,?_⟩
   rw[e]
   exact h2 hw
def sIx(n d:Nat):Option Int->Nat
 | none=>d
 | some v=>if v<0 then (v+(n:Int)).toNat else min v.toNat n
theorem aGh(n d:Nat)(hd:d<=n)(o:Option Int):sIx n d o<=n:=by
 cases o with
 | none=>exact hd
 | some v=>
  show(if v<0 then (v+(n:Int)).toNat else min v.toNat n)<=n
  by_cases hv:v<0
  . rw[if_pos hv];omega
  . rw[if_neg hv];exact Nat.min_le_right _ _
theorem yI(v:Int)(n d:Nat):(if v<0 then max (v+(n:Int)) 0 else min v (n:Int))=((sIx n d (some v):Nat):Int):=by
 show(if v<0 then max (v+(n:Int)) 0 else min v (n:Int))=(((if v<0 then (v+(n:Int)).toNat else min v.toNat n):Nat):Int)
 by_cases hv:v<0
 . simp only[if_pos hv];omega
 . simp only[if_neg hv];omega
theorem wU(lo hi:Option Int)(n:Nat):Builtin.Slice.sliceAdjust lo hi 1 (n:Int)=(((sIx n 0 lo:Nat):Int),((sIx n n hi:Nat):Int)):=by
 have h1:¬ ((1:Int)<0):=by omega
 unfold Builtin.Slice.sliceAdjust
 simp only[h1,if_false]
 refine Prod.ext ?_ ?_
 . cases lo with
   | none=>rfl
   | some v=>exact yI v n 0
 . cases hi with
   | none=>rfl
   | some v=>exact yI v n n
theorem wV(i j:Nat):Builtin.Slice.slicePlaces (i:Int) (j:Int) 1=j-i:=by
 unfold Builtin.Slice.slicePlaces
 have h1:(1:Int)>0:=by omega
 simp only[h1,if_true,Int.ediv_one]
 split <;> omega
theorem nP{v:Value}{o:Option Int}{Q:Option Int->Shared->Prop}(p:IsPart v o)(h:Q o s):wpAny (model prog w) A (Builtin.Slice.slicePartIndex v) Q E s:=by
 cases p with
 | none=>exact slicePart_none h
 | int i t=>exact slicePart_int h
theorem sliceApplied_gen{sl:Addr}{vl vu:Value}{lo hi:Option Int}{n:Nat}{Q:Int×Int×Nat->Shared->Prop}(hs:s.heap.IsSliceOf sl vl vu .none)(pl:IsPart vl lo)(pu:IsPart vu hi)
 (h:Q (((sIx n 0 lo:Nat):Int),1,sIx n n hi-sIx n 0 lo) s):wpAny (model prog w) A (Builtin.Slice.sliceApplied (.ref sl) (pure (n:Int))) Q E s:=by
 obtain⟨os,hos,hcs,hds⟩:=id hs
 unfold Builtin.Slice.sliceApplied Builtin.Slice.sliceFields
 refine Aa (Aa (Bd hos hds (x:=vl) rfl (Aa (Bd hos hds (x:=vu) rfl (Aa (Bd hos hds (x:=.none) rfl (Ad ?_)))))))
 refine Aa (slicePart_none ?_)
 show wpAny _ _ (if ((1:Int)==0)=true then _ else _) _ _ s
 rw[if_neg (by decide)]
 refine Aa (nP pl (Aa (nP pu (Aa (Ad ?_)))))
 show wpAny _ _ (match Builtin.Slice.sliceAdjust lo hi 1 (n:Int) with|(lo,hi)=>pure (lo,(1:Int),Builtin.Slice.slicePlaces lo hi 1)) _ _ s
 rw[wU lo hi n]
 show wpAny _ _ (pure (((sIx n 0 lo:Nat):Int),(1:Int),Builtin.Slice.slicePlaces ((sIx n 0 lo:Nat):Int) ((sIx n n hi:Nat):Int) 1)) _ _ s
 rw[wV]
 exact Ad h
theorem aBB(xs:Array Value)(i k:Nat):((List.range k).filterMap λ(m:Nat)=>xs[((i:Int)+(m:Int)*1).toNat]?).toArray=((xs.toList.drop i).take k).toArray:=by
 have e:(λ(m:Nat)=>xs[((i:Int)+(m:Int)*1).toNat]?)=λm=>xs[i+m]? := by
  funext m
  have:((i:Int)+(m:Int)*1).toNat=i+m:=by omega
  rw[this]
 rw[e]
 have:=pick_run xs i k
 rw[List.filterMap_map] at this
 have e2:((λx=>xs[x]?)∘λx=>i+x)=λm=>xs[i+m]? := rfl
 rw[e2] at this
 rw[this]
theorem getItem_tuple_cut{t sl:Addr}{items:Array Value}{vl vu:Value}{lo hi:Option Int}{Q:Value->Shared->Prop}(ht:IsTup s.heap t items)(hs:s.heap.IsSliceOf sl vl vu .none)(pl:IsPart vl lo)(pu:IsPart vu hi)
 (hw:¬ (sIx items.size 0 lo=0/\sIx items.size items.size hi=items.size))
 (h:Q (.ref s.heap.objs.size) { s with heap:=s.heap.push { cls:=.type "tuple",data:=.seq ((items.toList.drop (sIx items.size 0 lo)).take (sIx items.size items.size hi-sIx items.size 0 lo)).toArray } })
 (hsz:items.size<=sizeLine):wpAny (model prog w) A (getItem (.ref t) (.ref sl)) Q E s:=by
 have htake:sizeOk (.seq ((items.toList.drop (sIx items.size 0 lo)).take (sIx items.size items.size hi-sIx items.size 0 lo)).toArray):=by
  show((items.toList.drop (sIx items.size 0 lo)).take (sIx items.size items.size hi-sIx items.size 0 lo)).toArray.size<=sizeLine
  rw[Af,Cd,C2,A7]
  omega
 have hj:sIx items.size items.size hi<=items.size:=aGh _ _ (Ag _) hi
 obtain⟨os,hos,hcs,hds⟩:=id hs
 have hTs:s.TypeIs (.ref sl) "slice" := ⟨os,hos,hcs⟩
 unfold getItem
 try with_reducible refine B2 ?_
 first|refine Aa (Ad ?_)|skip
 refine Aa (wpAny_sequenceKey ht.typeIs (by decide) ?_)
 refine Aa (A6 (name:=Str.ofString "__getitem__") ht.typeIs Bh
  (Bb Bh ht.typeIs entry_tuple_getitem ?_ (args_tuple_getitem _ _)))
 show wpAny _ _ (Builtin.Tuple.tupleItemsOf (.ref t) >>= _) _ _ s
 refine Aa (tupleItemsOf_ ht ?_)
 refine Aa (Dn hTs ?_)
 rw[if_pos (by decide)]
 refine Aa (sliceApplied_gen hs pl pu ?_)
 have hno:¬ ((((sIx items.size 0 lo:Nat):Int)==0&&(1:Int)==1&&(sIx items.size items.size hi-sIx items.size 0 lo)==items.size)=true):=by
  intro q
  rw[Bool.and_eq_true,Bool.and_eq_true] at q
  have q1:((sIx items.size 0 lo:Nat):Int)=0:=eq_of_beq q.1.1
  have q2:sIx items.size items.size hi-sIx items.size 0 lo=items.size:=eq_of_beq q.2
  exact hw ⟨by omega,by omega⟩
 show wpAny _ _ (if (((sIx items.size 0 lo:Nat):Int)==0&&(1:Int)==1&&(sIx items.size items.size hi-sIx items.size 0 lo)==items.size)=true then _ else _) _ _ s
 rw[if_neg hno,aBB]
 first
  | exact Aa (m:=Builtin.Tuple.tupleExact _) (Bf (Ad ⟨_,rfl,Ad h⟩) htake)
  | exact Aa (m:=Builtin.Tuple.tupleExact _) (Bf (Aa (Ad (Ad ⟨_,rfl,Ad h⟩))) htake)
  | exact Aa (Aa (m:=Builtin.Tuple.tupleExact _) (Bf (Ad (Ad ⟨_,rfl,Ad h⟩)) htake))
  | exact Aa (Aa (m:=Builtin.Tuple.tupleExact _) (Bf (Ad ⟨_,rfl,Ad h⟩) htake))
end
end HT
namespace L2
open PySem PySem.Spec PyProof.Rows
abbrev TO:=St->Hp->(Option Int->Hp->Prop)->Prop
def PO(X:Cx)(e:Option Expr)(t:TO):Prop:=
 ∀(pins:List (Addr×Obj)) (s:Shared) (σ:St) (H:Hp) (Q:Option Int->Hp->Prop),Inv X pins σ H s->t σ H Q ->
  wpAny (model X.prog X.w) X.A (evalPart e X.env) (λu s'=>∃o H',Inv X pins σ H' s'/\IsPart u o/\Q o H') X.xe s
def aDL:TO:=λ_ H Q=>Q none H
def aJb(t:TE):TO:=λσ H Q=>t σ H λx H1=>∃i,x=.int i/\Q (some i) H1
section
variable {X:Cx} {e:Expr} {te:TE} {lo hi:Option Expr} {tl th:TO} {pos p2:Pos}
theorem aDM:PO X none aDL:=by
 intro pins s σ H Q I h
 rw[evalPart_none]
 exact Ad ⟨none,H,I,.none,h⟩
theorem aDN(h:PE X e te):PO X (some e) (aJb te):=by
 intro pins s σ H Q I hw
 rw[evalPart_some]
 refine thn (h pins s σ H _ I hw) λu s1 ⟨x,H1,I1,r1,q1⟩=>?_
 obtain⟨i,rfl,q⟩:=q1
 obtain⟨t,rfl⟩:=r1
 exact⟨some i,H1,I1,.int i t,q⟩
def SlR(X:Cx)(r:V->Option Int->Option Int->Hp->VK->Prop):Prop:=
 ∀(pins:List (Addr×Obj)) (s:Shared) (σ:St) (H:Hp) (x:V) (v vl vu:Value) (lo hi:Option Int) (sl:Addr) (Q:VK),Inv X pins σ H s->aW x v->s.heap.IsSliceOf sl vl vu .none->IsPart vl lo->IsPart vu hi->r x lo hi H Q ->
  ∃T id,typeLookup (.type T) "__getitem__" = pure (some (.builtin id))/\s.TypeIs v T/\wpAny (model X.prog X.w) X.A (getItem v (.ref sl)) (EP X pins σ Q) X.xe s
theorem SlR.or{r r':V->Option Int->Option Int->Hp->VK->Prop}(h:SlR X r)(h':SlR X r'):SlR X (λx lo hi H Q=>r x lo hi H Q\/r' x lo hi H Q):=by
 intro pins s σ H x v vl vu lo hi sl Q I rx hs pl pu q
 rcases q with q|q
 . exact h pins s σ H x v vl vu lo hi sl Q I rx hs pl pu q
 . exact h' pins s σ H x v vl vu lo hi sl Q I rx hs pl pu q
def tSl(r:V->Option Int->Option Int->Hp->VK->Prop)(te:TE)(tl th:TO):TE:=λσ H Q=>te σ H λx H1=>tl σ H1 λl H2=>th σ H2 λu H3=>r x l u H3 Q
theorem aBC{r:V->Option Int->Option Int->Hp->VK->Prop}(hr:SlR X r)(he:PE X e te)(hl:PO X lo tl)(hu:PO X hi th):PE X (.Subscript e (.Slice lo hi none p2) pos) (tSl r te tl th):=by
 intro pins s σ H Q I h
 refine Subscript_ (thn (he pins s σ H _ I h) λv s1 ⟨x,H1,I1,r1,q1⟩=>?_)
 refine wpAny_Slice (thn (hl pins s1 σ H1 _ I1 q1) λvl s2 ⟨l,H2,I2,pl,q2⟩=>thn (hu pins s2 σ H2 _ I2 q2) λvu s3 ⟨u,H3,I3,pu,q3⟩=>?_)
 rw[evalPart_none]
 refine Ad ?_
 have I4:Inv X pins σ H3 { s3 with heap:=s3.heap.push { cls:=.type "slice",data:=.fields #[vl,vu,.none] } }:=I3.kept (t':=s3.toks) λb ob q=>Ab _ q
 obtain⟨T,id,hT,ht,hg⟩:=hr pins { s3 with heap:=s3.heap.push { cls:=.type "slice",data:=.fields #[vl,vu,.none] } } σ H3 x v vl vu l u s3.heap.objs.size Q I4 r1 (Heap.IsSliceOf.new ..) pl pu q3
 show wpAny (model X.prog X.w) X.A (subscriptTail e (.Slice lo hi none p2) v (.ref s3.heap.objs.size)) (EP X pins σ Q) X.xe { s3 with heap:=s3.heap.push { cls:=.type "slice",data:=.fields #[vl,vu,.none] } }
 exact tail_any (ops:=[.ref s3.heap.objs.size,v]) ht hT hg (by with_unfolding_all rfl)
def tU(xs:List V)(lo hi:Option Int):List V:=(xs.drop (HT.sIx xs.length 0 lo)).take (HT.sIx xs.length xs.length hi-HT.sIx xs.length 0 lo)
theorem lQ(xs:List V)(lo hi:Option Int):(tU xs lo hi).length<=xs.length:=by
 unfold tU
 rw[Cd,C2]
 omega
def aBD(K:PySem.W.Frag):V->Option Int->Option Int->Hp->VK->Prop:=λx lo hi H Q=>∃a xs,x=.ref a/\SqT K H a xs /\
 ¬ (HT.sIx xs.length 0 lo=0/\HT.sIx xs.length xs.length hi=xs.length)/\∀p,H p=none->Q (.ref p) (upd H p (.tup (tU xs lo hi)))
theorem aGi:SlR X (aBD X.K):=by
 intro pins s σ H x v vl vu lo hi sl Q I rx hs pl pu h
 obtain⟨a,xs,rfl,hx,hw,q⟩:=h
 cases rx
 obtain⟨its,r,ht,hz⟩:=I.tuple hx
 have hlen:its.toArray.size=xs.length:=by rw[Af];exact r.length.symm
 refine⟨"tuple",_,Bh.lookup,ht.typeIs,?_⟩
 refine HT.getItem_tuple_cut ht hs pl pu (by rw[hlen];exact hw) ?_ (by rw[hlen];exact hz)
 rw[hlen]
 refine⟨.ref s.heap.objs.size,_,I.laid (t':=s.toks) (o:=.tup (tU xs lo hi)) (λb ob q=>Ab _ q) (Ag _) ?_,rfl,q _ (I.hok.fresh (Ag _))⟩
 exact⟨Av (lQ xs lo hi) hz,_,(r.drop (HT.sIx xs.length 0 lo)).take (HT.sIx xs.length xs.length hi-HT.sIx xs.length 0 lo),IsTup.new _ _⟩
def aJc(K:PySem.W.Frag):R2:=λx y H Q=>∃a b xs ys,x=.ref a/\y=.ref b/\SqT K H a xs/\SqT K H b ys/\xs≠[]/\xs.length+ys.length<=sizeLine /\
 (ys=[]->Q (.ref a) H)/\(ys≠[]->∀p,H p=none->Q (.ref p) (upd H p (.tup (xs++ys))))
theorem aM.nil_iff{xs:List V}{us:List Value}(r:aM xs us):us=[]↔xs=[]:=by
 cases r with
 | nil=>simp
 | cons _ _=>simp
theorem aDO:OpR X (binaryOp .Add) (aJc X.K):=by
 intro pins s σ H x y v u Q I rx ry h
 obtain⟨a,b,xs,ys,rfl,rfl,ha,hb,hx,hz,q1,q2⟩:=h
 cases rx
 cases ry
 obtain⟨its,r1,p1,_⟩:=I.tuple ha
 obtain⟨its2,r2,p2,_⟩:=I.tuple hb
 refine HT.cat_tup p1 p2 (λz=>hx (r1.nil_iff.mp z)) (λz=>⟨.ref a,H,I,rfl,q1 (r2.nil_iff.mp z)⟩) (λz=>?_) (by rw[<-r1.length,<-r2.length];exact hz)
 refine⟨.ref s.heap.objs.size,_,I.laid (t':=s.toks) (o:=.tup (xs++ys)) (λb ob q=>Ab _ q) (Ag _) ?_,rfl,q2 (λw=>z (r2.nil_iff.mpr w)) _ (I.hok.fresh (Ag _))⟩
 exact⟨by rw[Da];exact hz,_,r1.append r2,IsTup.new _ _⟩
end
end L2
namespace L2
open PySem PySem.Spec PyProof.Rows
def ixN(n:Nat)(i:Int):Option Nat:=if 0<=i then (if i<n then some i.toNat else none) else if -(n:Int)<=i then some (i+n).toNat else none
def atI{α:Type}(xs:List α)(i:Int):Option α:=(ixN xs.length i).bind λj=>xs[j]?
theorem yJ{n:Nat}{i:Int}{j:Nat}(h:ixN n i=some j):seqIndex? i n=some j/\j<n/\-(n:Int)<=i/\i<n:=by
 unfold ixN at h
 by_cases h0:0<=i
 . rw[if_pos h0] at h
   by_cases h1:i<n
   . rw[if_pos h1] at h
     have e:i.toNat=j:=Ai h
     exact⟨by rw[seqIndex_of h0 h1,e],by omega,by omega,h1⟩
   . rw[if_neg h1] at h;cases h
 . rw[if_neg h0] at h
   by_cases h1:-(n:Int)<=i
   . rw[if_pos h1] at h
     have e:(i+n).toNat=j:=Ai h
     exact⟨by rw[seqIndex_neg (by omega) h1,e],by omega,h1,by omega⟩
   . rw[if_neg h1] at h;cases h
theorem rE{α:Type}{xs:List α}{i:Int}{v:α}(h:atI xs i=some v):∃j,seqIndex? i xs.length=some j/\xs[j]? = some v/\j<xs.length/\-(xs.length:Int)<=i/\i<xs.length:=by
 unfold atI at h
 cases e:ixN xs.length i with
 | none=>rw[e] at h;cases h
 | some j=>
  rw[e] at h
  obtain⟨h1,h2,h3,h4⟩:=yJ e
  exact⟨j,h1,h,h2,h3,h4⟩
def yK(b:Expr):Prop:=∀o i,subscripted b false o i=operate [o,i] (getItem o i)
def IxR(X:Cx)(r:R2):Prop:=
 ∀(value slice:Expr) (pins:List (Addr×Obj)) (s:Shared) (σ:St) (H:Hp) (x y:V) (v u:Value) (Q:VK),Inv X pins σ H s->aW x v->aW y u->r x y H Q ->
  subscripted slice false v u=operate [v,u] (getItem v u)->wpAny (model X.prog X.w) X.A (subscriptTail value slice v u) (EP X pins σ Q) X.xe s
def MtR(X:Cx)(id:String)(r:V->List V->Hp->VK->Prop):Prop:=
 ∀(pins:List (Addr×Obj)) (s:Shared) (σ:St) (H:Hp) (x:V) (xs:List V) (v:Value) (us:List Value) (Q:VK),Inv X pins σ H s->aW x v->aM xs us->r x xs H Q ->
  wpAny (model X.prog X.w) X.A (call (.builtin id) (v::us)) (EP X pins σ Q) X.xe s
section
variable {X:Cx} {a b:Expr} {ta tb:TE} {pos:Pos}
theorem IxR.or{r r':R2}(h:IxR X r)(h':IxR X r'):IxR X (λx y H Q=>r x y H Q\/r' x y H Q):=by
 intro value slice pins s σ H x y v u Q I rx ry q hs
 rcases q with q|q
 . exact h value slice pins s σ H x y v u Q I rx ry q hs
 . exact h' value slice pins s σ H x y v u Q I rx ry q hs
theorem yL{r:R2}(hr:IxR X r)(ha:PE X a ta)(hb:PE X b tb)(hs:yK b):PE X (.Subscript a b pos) (tOp r ta tb):=by
 intro pins s σ H Q I h
 exact Subscript_ (aIR ha hb I h λv u s2 x y H2 I2 rx ry q=>hr a b pins s2 σ H2 x y v u Q I2 rx ry q (hs _ _))
def aJd(K:PySem.W.Frag):R2:=λx y H Q=>∃p xs i v,x=.ref p/\y=.int i/\SqL K H p xs/\atI xs i=some v/\Q v H
def aJe(K:PySem.W.Frag):R2:=λx y H Q=>∃p xs i v,x=.ref p/\y=.int i/\SqT K H p xs/\atI xs i=some v/\Q v H
def aJf:R2:=λx y H Q=>∃z i c,x=.str z/\y=.int i/\z.length<=sizeLine/\atI z.cps.toList i=some c/\Q (.str ⟨#[c]⟩) H
theorem aDP:IxR X (aJd X.K):=by
 intro value slice pins s σ H x y v u Q I rx ry h hs
 obtain⟨p,xs,i,z,rfl,rfl,hq,he,q⟩:=h
 cases rx
 obtain⟨t,rfl⟩:=ry
 obtain⟨its,r,pl,hz⟩:=I.list hq
 obtain⟨j,h1,h2,h3,h4,h5⟩:=rE he
 obtain⟨w,ew,rw'⟩:=r.get h2
 have hl:=r.length
 have hn:=iS
 have fin:EP X pins σ Q w s:=⟨z,H,I,rw',q⟩
 by_cases h0:0<=i
 . have hj:i.toNat=j:=by
    rw[seqIndex_of h0 h5] at h1
    exact Ai h1
   exact item_listR pl.isList h0 (by omega) (by rw[hj];simpa using ew) fin hs
 . have hj:(i+(its.toArray.size:Int)).toNat=j:=by
    rw[seqIndex_neg (by omega) h4] at h1
    rw[Af,<-hl]
    exact Ai h1
   exact subscriptTail_builtinR (x:=w) pl.isList.typeIs slot_list_getitem.lookup
    (wpAny_getItem_list_neg (Q:=λr s'=>r=w/\EP X pins σ Q r s') pl.isList (by omega) (by rw[Af] <;> omega) (by omega) (by rw[hj];simpa using ew) ⟨rfl,fin⟩) hs
theorem aGj:IxR X (aJe X.K):=by
 intro value slice pins s σ H x y v u Q I rx ry h hs
 obtain⟨p,xs,i,z,rfl,rfl,hq,he,q⟩:=h
 cases rx
 obtain⟨t,rfl⟩:=ry
 obtain⟨its,r,pl,hz⟩:=I.tuple hq
 obtain⟨j,h1,h2,h3,h4,h5⟩:=rE he
 obtain⟨w,ew,rw'⟩:=r.get h2
 have hl:=r.length
 have hn:=iS
 have fin:EP X pins σ Q w s:=⟨z,H,I,rw',q⟩
 exact subscriptTail_builtinR (x:=w) pl.typeIs slot_tuple_getitem.lookup
  (getItem_tuple (j:=j) (Q:=λr s'=>r=w/\EP X pins σ Q r s') pl (by omega) (by omega) (by rw[Af,<-hl];exact h1) (by simpa using ew) ⟨rfl,fin⟩) hs
theorem aGk:IxR X aJf:=by
 intro value slice pins s σ H x y v u Q I rx ry h hs
 obtain⟨z,i,c,rfl,rfl,hz,he,q⟩:=h
 obtain⟨t,rfl⟩:=rx
 obtain⟨t',rfl⟩:=ry
 obtain⟨j,h1,h2,h3,h4,h5⟩:=rE he
 have hl:z.cps.toList.length=z.length:=by simp[Str.length]
 rw[hl] at h1 h4 h5
 have hn:=iS
 exact tail_any (typeIs_str s z t) slot_str_getitem.lookup (getItem_str (c:=c) (by
  have e1:decide (i < -(2 ^ 63:Int))=false:=Aw (by omega)
  have e2:decide (i ≥ 2 ^ 63)=false:=Aw (by omega)
  rw[e1,e2,Bool.or_false]) (by rw[h1];simpa using h2) ⟨.str ⟨#[c]⟩,H,I.tok _,⟨_,rfl⟩,q⟩) hs
def rIx(K:PySem.W.Frag):R2:=λx y H Q=>aJd K x y H Q\/aJe K x y H Q\/aJf x y H Q
theorem rF:IxR X (rIx X.K):=aDP.or (aGj.or aGk)
theorem wW(its:List Value)(n j:Nat)(u:Value):Obj.mapSeq (·.setIfInBounds j u) { cls:=.type "list",data:=.seq its.toArray n }={ cls:=.type "list",data:=.seq (its.set j u).toArray n }:=by
 simp[Obj.mapSeq]
theorem Inv.lst{pins:List (Addr×Obj)}{σ:St}{H:Hp}{s:Shared}{p:Addr}{xs:List V}(I:Inv X pins σ H s)(h:H p=some (.lst xs)) :
 ∃(its:List Value) (n:Nat),aM xs its/\s.heap.get? p=some { cls:=.type "list",data:=.seq its.toArray n }/\xs.length<=sizeLine:=by
 obtain⟨z,its,n,r,e⟩:=I.hok p _ h
 exact⟨its,n,r,e,z⟩
theorem Inv.lstUpd{pins:List (Addr×Obj)}{σ:St}{H:Hp}{s:Shared}{p:Addr}{xs ys:List V}{its its':List Value}{n n':Nat}{f:Obj->Obj}(I:Inv X pins σ H s)(h:H p=some (.lst xs))
 (ho:s.heap.get? p=some { cls:=.type "list",data:=.seq its.toArray n }) (hf:f { cls:=.type "list",data:=.seq its.toArray n }={ cls:=.type "list",data:=.seq its'.toArray n' }) (r:aM ys its') (hz:ys.length<=sizeLine) (t:Nat) :
 Inv X pins σ (upd H p (.lst ys)) { s with heap:=s.heap.update p f,toks:=t }:=by
 have e:(s.heap.update p f).get? p=some { cls:=.type "list",data:=.seq its'.toArray n' }:=by
  rw[Heap.get?_update_self f ho (by rw[hf] <;> rfl),hf]
 refine I.write (x:=p) (e:=p) (by rw[h];trivial) (.inl rfl) (λb u hb q=>(Db _ _ (Ne.symm hb)).trans q) ⟨_,e⟩ ?_
 exact⟨hz,its',n',r,e⟩
def aJg:V->V->V->Hp->(Hp->Prop)->Prop:=λo i v H Q=>∃p xs k j,o=.ref p/\i=.int k/\H p=some (.lst xs)/\ixN xs.length k=some j/\Q (upd H p (.lst (xs.set j v)))
theorem tV:aFX X aJg:=by
 intro pins s σ H o i v ov iv u Q I ro ri rv h
 obtain⟨p,xs,k,j,rfl,rfl,hp,hj,q⟩:=h
 cases ro
 obtain⟨t,rfl⟩:=ri
 obtain⟨its,n,r,ho,hz⟩:=I.lst hp
 obtain⟨h1,h2,h3,h4⟩:=yJ hj
 have hl:=r.length
 have hn:=iS
 have I':Inv X pins σ (upd H p (.lst (xs.set j v))) { s with heap:=s.heap.update p (Obj.mapSeq (·.setIfInBounds j u)) }:=
  I.lstUpd hp ho (wW its n j u) (r.set rv j) (by rw[Ap];exact hz) s.toks
 by_cases h0:0<=k
 . have hk:k.toNat=j:=by
    rw[seqIndex_of h0 h4] at h1
    exact Ai h1
   exact PySem.W.ki_setAt ho h0 (by omega) (by rw[Af,<-hl];exact h4) (by rw[hk];exact⟨_,I',q⟩)
 . have hk:(k+(its.toArray.size:Int)).toNat=j:=by
    rw[seqIndex_neg (by omega) h3] at h1
    rw[Af,<-hl]
    exact Ai h1
   exact PySem.W.ki_setBack ho (by omega) (by rw[Af,<-hl];exact h3) (by omega) (by rw[hk];exact⟨_,I',q⟩)
theorem rG(lo hi:Option Int)(n:Nat):(sliceBounds lo hi none n).1=((HT.sIx n 0 lo:Nat):Int)/\(sliceBounds lo hi none n).2.1=((HT.sIx n n hi:Nat):Int)/\(sliceBounds lo hi none n).2.2=1:=by
 refine⟨?_,?_,rfl⟩
 . cases lo with
   | none=>simp[sliceBounds,HT.sIx]
   | some i=>
    simp only[sliceBounds,HT.sIx,Option.getD_none,show(1:Int)>0 by decide,if_true]
    by_cases h:i<0
    . simp only[h,if_true] <;> omega
    . simp only[h,if_false] <;> omega
 . cases hi with
   | none=>simp[sliceBounds,HT.sIx]
   | some i=>
    simp only[sliceBounds,HT.sIx,Option.getD_none,show(1:Int)>0 by decide,if_true]
    by_cases h:i<0
    . simp only[h,if_true] <;> omega
    . simp only[h,if_false] <;> omega
theorem pJ(its:List Value)(lo hi:Option Int):slicePick its.toArray lo hi none=((its.drop (HT.sIx its.length 0 lo)).take (HT.sIx its.length its.length hi-HT.sIx its.length 0 lo)).toArray:=by
 obtain⟨h1,h2,h3⟩:=rG lo hi its.toArray.size
 unfold slicePick
 rw[h1,h2,h3]
 simp only[sliceRange_one,pick_run,Af] <;> rfl
def aBE(K:PySem.W.Frag):V->Option Int->Option Int->Hp->VK->Prop:=λx lo hi H Q=>∃a xs,x=.ref a/\SqL K H a xs/\∀p,H p=none->Q (.ref p) (upd H p (.lst (tU xs lo hi)))
theorem aDQ:SlR X (aBE X.K):=by
 intro pins s σ H x v vl vu lo hi sl Q I rx hs pl pu h
 obtain⟨a,xs,rfl,hx,q⟩:=h
 cases rx
 obtain⟨its,r,ht,hz⟩:=I.list hx
 have hlen:=r.length
 refine⟨"list",_,slot_list_getitem.lookup,ht.isList.typeIs,?_⟩
 refine wpAny_getItem_list_slice ht.isList hs pl pu .none (by simp) ?_ (by rw[Af] <;> omega)
 rw[pJ,<-hlen]
 refine⟨.ref s.heap.objs.size,_,I.laid (t':=s.toks) (o:=.lst (tU xs lo hi)) (λb ob q=>Ab _ q) (Ag _) ?_,rfl,q _ (I.hok.fresh (Ag _))⟩
 exact⟨Av (lQ xs lo hi) hz,_,0,(r.drop (HT.sIx xs.length 0 lo)).take (HT.sIx xs.length xs.length hi-HT.sIx xs.length 0 lo),Ah _ rfl⟩
theorem rH:OpR X (compareOp .NotIn) (λx y H Q=>∃i j,x=.str i/\y=.str j/\Q (.bl (!(!(Builtin.Str.occurrences j i 0 j.length 1).isEmpty))) H):=by
 intro pins s σ H x y v u Q I rx ry h
 obtain⟨i,j,rfl,rfl,q⟩:=h
 obtain⟨t,rfl⟩:=rx
 obtain⟨t',rfl⟩:=ry
 exact notIn_str ⟨.bl _,H,I,rfl,q⟩
theorem rJ:eI X (.builtin "len") (λxs H Q=>∃p ys,xs=[.ref p]/\(SqL X.K H p ys\/SqT X.K H p ys)/\Q (.int ys.length) H):=by
 intro pins s σ H xs us Q I r h
 obtain⟨p,ys,rfl,hq,q⟩:=h
 obtain⟨u,rfl,rx⟩:=nN r
 cases rx
 have hn:=iS
 rcases hq with hq|hq
 . obtain⟨its,r',pl,hz⟩:=I.list hq
   have hlen:=r'.length
   exact Calls.call_len_list pl.isList (by simp only[Af] <;> omega) ⟨.int ys.length,H,I.tok _,⟨s.toks+1,by rw[Af,hlen]⟩,q⟩
 . obtain⟨its,r',pl,hz⟩:=I.tuple hq
   have hlen:=r'.length
   exact len_tuple pl (by simp only[Af] <;> omega) ⟨.int ys.length,H,I.tok _,⟨s.toks+1,by rw[Af,hlen]⟩,q⟩
theorem rK:eI X (.builtin "len") (λxs H Q=>∃z,xs=[.str z]/\z.length<=sizeLine/\Q (.int z.length) H):=by
 intro pins s σ H xs us Q I r h
 obtain⟨z,rfl,hz,q⟩:=h
 obtain⟨u,rfl,t,rfl⟩:=nN r
 have hn:=iS
 exact len_str (by omega) ⟨.int z.length,H,I.tok _,⟨_,rfl⟩,q⟩
theorem eI.or{f:Value}{r r':List V->Hp->VK->Prop}(h:eI X f r)(h':eI X f r'):eI X f (λxs H Q=>r xs H Q\/r' xs H Q):=by
 intro pins s σ H xs us Q I rs q
 rcases q with q|q
 . exact h pins s σ H xs us Q I rs q
 . exact h' pins s σ H xs us Q I rs q
theorem rL:eI X (.type "list") (λxs H Q=>∃p ys,xs=[.ref p]/\(SqL X.K H p ys\/SqT X.K H p ys)/\∀l,H l=none->Q (.ref l) (upd H l (.lst ys))):=by
 intro pins s σ H xs us Q I r h
 obtain⟨p,ys,rfl,hq,q⟩:=h
 obtain⟨u,rfl,rx⟩:=nN r
 cases rx
 have fin:∀(its:List Value),aM ys its->ys.length<=sizeLine->∀(h':Heap) (c':Nat),(∀b o',s.heap.get? b=some o'->h'.get? b=some o') ->
  h'.get? s.heap.objs.size=some { cls:=.type "list",dict:=none,data:=.seq its.toArray c',slots:=#[] }->EP X pins σ Q (.ref s.heap.objs.size) { s with heap:=h' }:=λits r' hz h' c' kp e=>
  ⟨.ref s.heap.objs.size,_,I.laid (t':=s.toks) kp (Ag _) (show dA X.prog X.w _ h' _ (.lst ys) from⟨hz,its,c',r',e⟩),rfl,q _ (I.hok.fresh (Ag _))⟩
 rcases hq with hq|hq
 . obtain⟨its,r',pl,hz⟩:=I.list hq
   have hlen:=r'.length
   obtain⟨o,ho,hc,n,hd⟩:=pl.isList
   exact call_list_seq p (.inl rfl) ho hc hd (λh' c' kp e=>fin its r' hz h' c' kp e) (by simp only[Af] <;> omega)
 . obtain⟨its,r',pl,hz⟩:=I.tuple hq
   have hlen:=r'.length
   obtain⟨o,ho,hc,n,hd⟩:=pl
   exact call_list_seq p (.inr rfl) ho hc hd (λh' c' kp e=>fin its r' hz h' c' kp e) (by simp only[Af] <;> omega)
theorem pK:eI X (.type "tuple") (λxs H Q=>∃p ys,xs=[.ref p]/\((SqL X.K H p ys/\∀l,H l=none->Q (.ref l) (upd H l (.tup ys)))\/(SqT X.K H p ys/\Q (.ref p) H))):=by
 intro pins s σ H xs us Q I r h
 obtain⟨p,ys,rfl,h⟩:=h
 obtain⟨u,rfl,rx⟩:=nN r
 cases rx
 rcases h with⟨hq,q⟩|⟨hq,q⟩
 . obtain⟨its,r',pl,hz⟩:=I.list hq
   have hlen:=r'.length
   refine call_tuple_list pl.isList (λh' kp=>?_) (by simp only[Af] <;> omega)
   have I1:Inv X pins σ H { s with heap:=h' }:=I.kept (t':=s.toks) kp
   have I2:Inv X pins σ (upd H h'.objs.size (.tup ys)) { s with heap:=h'.push { cls:=.type "tuple",data:=.seq its.toArray } }:=
    I1.laid (t':=s.toks) (λb o e=>Ab _ e) (Ag _) (show dA X.prog X.w _ _ _ (.tup ys) from⟨hz,its,r',IsTup.new _ _⟩)
   exact⟨.ref h'.objs.size,_,I2,rfl,q _ (I1.hok.fresh (Ag _))⟩
 . obtain⟨its,r',pl,hz⟩:=I.tuple hq
   exact call_tuple_same pl ⟨.ref p,H,I,rfl,q⟩
def tyV(K:PySem.W.Frag)(T:String)(x:V)(H:Hp):Prop:=match x with
 | .str _=>T = "str"
 | .int _=>T = "int"
 | .ref p=>(T = "list" /\ ∃xs,SqL K H p xs)\/(T = "tuple" /\ ∃o,K.lookup p=some o/\o.cls=.type "tuple" /\ o.dict=none) \/
  (T = "dict" /\ ((∃kvs,H p=some (.dK kvs))\/∃kvs,H p=some (.dT kvs)))\/(T = "set" /\ ∃S n,H p=some (.set S n))
 | _=>False
theorem aGl{pins:List (Addr×Obj)}{σ:St}{H:Hp}{s:Shared}{T:String}{x:V}{v:Value}(I:Inv X pins σ H s)(r:aW x v)(ty:tyV X.K T x H) :
 s.TypeIs v T/\∀a,v=.ref a->∃ob,s.heap.get? a=some ob/\ob.dict=none:=by
 cases x with
 | str z=>
  obtain⟨t,rfl⟩:=r
  cases(show T = "str" from ty)
  exact⟨typeIs_str s z t,λ_ e=>nomatch e⟩
 | int i=>
  obtain⟨t,rfl⟩:=r
  cases(show T = "int" from ty)
  exact⟨typeIs_int s i t,λ_ e=>nomatch e⟩
 | ref p=>
  cases r
  rcases ty with⟨rfl,xs,hq⟩|⟨rfl,o,hk,hc,hd⟩|⟨rfl,hk⟩|⟨rfl,S,n,hk⟩
  . obtain⟨its,_,pl,_⟩:=I.list hq
    refine⟨pl.isList.typeIs,λa e=>?_⟩
    cases e
    obtain⟨o,n,e,c,hd,_⟩:=pl
    exact⟨o,e,hd⟩
  . refine⟨⟨o,I.kIn p o hk,hc⟩,λa e=>?_⟩
    cases e
    exact⟨o,I.kIn _ o hk,hd⟩
  . have z:∃o,s.heap.get? p=some o/\o.ExactDict:=by
     rcases hk with⟨kvs,hk⟩|⟨kvs,hk⟩
     . obtain⟨_,_,_,_,o,_,_,e,ex,_⟩:=I.hok p _ hk
       exact⟨o,e,ex⟩
     . obtain⟨_,_,_,_,o,_,_,e,ex,_⟩:=I.hok p _ hk
       exact⟨o,e,ex⟩
    obtain⟨o,e,ex⟩:=z
    refine⟨⟨o,e,ex.1⟩,λa e2=>?_⟩
    cases e2
    exact⟨o,e,ex.2.1⟩
  . obtain⟨o,_,_,_,e,ex,_⟩:=I.hok p _ hk
    refine⟨⟨o,e,ex.1⟩,λa e2=>?_⟩
    cases e2
    exact⟨o,e,ex.2.1⟩
 | _=>exact False.elim ty
def tBM(K:PySem.W.Frag)(T:String)(r:V->List V->Hp->VK->Prop)(to:TE)(t:TA):TE:=λσ H Q=>to σ H λx H1=>tyV K T x H1/\t σ H1 λxs H2=>r x xs H2 Q
variable {o e:Expr} {es:List Expr} {to:TE} {t:TA} {name:Str} {apos cpos:Pos} {T id:String} {r:V->List V->Hp->VK->Prop}
theorem yM(pa:PlainAttrs T)(slot:Slot T name id)(hty:typeOf (.builtin id)=pure (.type "method_descriptor"))(hm:MtR X id r)(ho:PE X o to)(ha:PA X (e::es) t)
 (hbase:attributeBase o name X.env (eval o X.env)=eval o X.env:=by rfl)
 (hfew:((backTo cpos (starEach (e::es) X.env)).all (λx=>!x.1)&&(backToKw cpos (keywordEach [] X.env)).all (λx=>x.1.isSome)
  && decide ((e::es).length+([]:List Keyword).length+(if ([]:List Keyword).isEmpty then 0 else 1)<30))=true:=by rfl)
 (hline:(apos.endLine==cpos.line)=true:=by rfl) (hs:starEach (e::es) X.env=(false,eval e X.env)::starEach es X.env:=by rfl) (hplain:(backTo cpos (starEach es X.env)).any (·.1)=false:=by rfl) :
 PE X (.Call (.Attribute o name apos) (e::es) [] cpos) (tBM X.K T r to t):=by
 intro pins s σ H Q I h
 refine Dc hbase hfew hline rfl (thn (ho pins s σ H _ I h) λv s1 ⟨x,H1,I1,r1,ty,q1⟩=>?_)
 obtain⟨h1,h2⟩:=aGl I1 r1 ty
 refine⟨T,id,pa,slot,hty,h1,h2,?_⟩
 have hA:=ha cpos pins s1 σ H1 _ I1 q1
 rw[hs] at hA ⊢
 refine Dd (by show(false||(backTo cpos (starEach es X.env)).any (·.1))=false;rw[hplain] <;> rfl) (Dl ?_)
 exact thn hA λus s2 ⟨vs,H2,I2,r2,q2⟩=>hm pins s2 σ H2 x vs v us Q I2 r1 r2 q2
end
end L2
namespace L2
open PySem PySem.Spec PyProof.Rows
def MtM(X:Cx)(id:String)(r:V->List V->Hp->VK->Prop):Prop:=
 ∀(pins:List (Addr×Obj)) (s:Shared) (σ:St) (H:Hp) (x:V) (xs:List V) (v:Value) (us:List Value) (Q:VK),Inv X pins σ H s->aW x v->aM xs us->r x xs H Q ->
  wpAny (model X.prog X.w) X.A (call (.builtin id) (v::us)) (EP X pins σ Q) X.xe s
theorem aM.one:∀{x:V} {us:List Value},aM [x] us->∃u,us=[u]/\aW x u:=by
 intro x us h
 cases h with|cons r t=>cases t;exact⟨_,rfl,r⟩
theorem aM.zero:∀{us:List Value},aM [] us->us=[]
 | _,.nil=>rfl
theorem aM.eraseIdx:∀{xs:List V} {us:List Value} (i:Nat),aM xs us->aM (xs.eraseIdx i) (us.eraseIdx i)
 | _,_,_,.nil=>.nil
 | _,_,0,.cons _ t=>t
 | _,_,i+1,.cons r t=>.cons r (aM.eraseIdx i t)
theorem aM.reverse{xs:List V}{us:List Value}(h:aM xs us):aM xs.reverse us.reverse:=by
 induction h with
 | nil=>exact .nil
 | cons r t ih=>rw[Ee,Ee];exact aM.append ih (.cons r .nil)
theorem aM.rep{xs:List V}{us:List Value}(h:aM xs us):∀k:Nat,aM (List.replicate k xs).flatten (List.replicate k us).flatten
 | 0=>.nil
 | k+1=>by
  rw[Bp,Bp,B9,B9]
  exact aM.append h (aM.rep h k)
theorem pW(its:List Value):∀(k:Nat) (acc:List Value),
 List.foldl (λx1 x2=>x1++x2) acc.toArray (List.replicate k its.toArray)=(acc++(List.replicate k its).flatten).toArray
 | 0,acc=>by simp
 | k+1,acc=>by
  have e:acc.toArray++its.toArray=(acc++its).toArray:=by simp
  have e2:(acc++its)++(List.replicate k its).flatten=acc++(List.replicate (k+1) its).flatten:=by
   rw[Bp,B9,Ef]
  rw[<-e2,<-pW its k (acc++its),<-e,Bp,Cb]
section
variable {X:Cx} {pins:List (Addr×Obj)} {σ:St} {H:Hp} {s:Shared} {l b:Addr} {xs ys zs:List V}
theorem Inv.lset{its its':List Value}{n:Nat}{f:Array Value->Array Value}{t':Nat}(I:Inv X pins σ H s)(hH:H l=some (.lst xs))
 (e:s.heap.get? l=some { cls:=.type "list",data:=.seq its.toArray n }) (hf:f its.toArray=its'.toArray) (hv:aM ys its') (hz:ys.length<=sizeLine) :
 Inv X pins σ (upd H l (.lst ys)) { s with heap:=s.heap.update l (Obj.mapSeq f),toks:=t' }:=by
 have q:=PySem.IsL.update e f
 rw[hf] at q
 refine I.write (x:=l) (e:=l) (by rw[hH];exact trivial) (.inl rfl) (λb' u hb hu=>(Db s.heap (Obj.mapSeq f) (Ne.symm hb)).trans hu) ⟨_,q⟩ ?_
 exact⟨hz,its',_,hv,q⟩
theorem Inv.lnew{its:List Value}{t':Nat}(I:Inv X pins σ H s)(hv:aM ys its)(hz:ys.length<=sizeLine) :
 Inv X pins σ (upd H s.heap.objs.size (.lst ys)) { s with heap:=s.heap.push { cls:=.type "list",data:=.seq its.toArray },toks:=t' }:=
 I.laid (λ_ _ q=>Ab _ q) (Ag _) ⟨hz,its,0,hv,Ah _ rfl⟩
theorem Inv.fresh(I:Inv X pins σ H s):H s.heap.objs.size=none:=I.hok.fresh (Ag _)
theorem Inv.lstM(I:Inv X pins σ H s)(hH:H l=some (.lst xs)):xs.length<=sizeLine/\∃(its:List Value) (n:Nat),aM xs its/\xs.length=its.length/\s.heap.get? l=some { cls:=.type "list",data:=.seq its.toArray n }:=by
 obtain⟨z,its,n,r,e⟩:=I.hok l _ hH
 exact⟨z,its,n,r,r.length,e⟩
theorem tW{n:Nat}(h:n<=sizeLine):Builtin.List.listTooLong n=false:=by
 unfold Builtin.List.listTooLong
 exact Aw (by omega)
end
section
variable {X:Cx}
def aDR:V->List V->Hp->VK->Prop:=λx vs H Q=>∃l xs y,x=.ref l/\vs=[y]/\H l=some (.lst xs)/\xs.length<sizeLine/\Q .non (upd H l (.lst (xs++[y])))
theorem kY:MtM X "list.append" aDR:=by
 intro pins s σ H x vs v us Q I rx rv h
 obtain⟨l,xs,y,rfl,rfl,hH,hz,q⟩:=h
 cases rx
 obtain⟨u,rfl,ru⟩:=rv.one
 obtain⟨z,its,n,r,hl,e⟩:=I.lstM hH
 refine call_meets F.slot_list_append ⟨_,e,rfl⟩ F.entry_list_append (F.args_list_append_2 _ _) (PySem.list_append l its.toArray n u (by rw[Af];omega)) ⟨e,?_⟩
 refine⟨.non,_,I.lset (its':=its++[u]) hH e (by simp) (r.append (.cons ru .nil)) ?_,rfl,q⟩
 rw[Da,Bq]
 omega
def aDS:V->List V->Hp->VK->Prop:=λx vs H Q=>∃l b xs zs,x=.ref l/\vs=[.ref b]/\H l=some (.lst xs)/\H b=some (.lst zs)/\xs.length+zs.length<=sizeLine/\Q .non (upd H l (.lst (xs++zs)))
theorem aAs:MtM X "list.extend" aDS:=by
 intro pins s σ H x vs v us Q I rx rv h
 obtain⟨l,b,xs,zs,rfl,rfl,hH,hB,hz,q⟩:=h
 cases rx
 obtain⟨u,rfl,ru⟩:=rv.one
 cases ru
 obtain⟨z,its,n,r,hl,e⟩:=I.lstM hH
 obtain⟨z2,its2,n2,r2,hl2,e2⟩:=I.lstM hB
 have hsz:its.toArray.size+its2.toArray.size<=sizeLine:=by rw[Af,Af];omega
 have hlong:¬ (!its.toArray.isEmpty&&Builtin.List.listTooLong (its.toArray.size+its2.toArray.size))=true:=by
  rw[tW hsz,Bool.and_false]
  exact C6
 refine call_meets F.slot_list_extend ⟨_,e,rfl⟩ F.entry_list_extend (F.args_list_extend_2 _ _)
  (AutoSeq1.list_extend_list_list_0 l its.toArray n b its2.toArray n2 hlong (by rw[Af];omega) (by omega)) ⟨e,e2,?_⟩
 refine⟨.non,_,I.lset (its':=its++its2) hH e (by simp) (r.append r2) ?_,rfl,q⟩
 rw[Da]
 omega
def aMb:R2:=λx y H Q=>∃l k xs,x=.ref l/\y=.int k/\H l=some (.lst xs)/\-(2 ^ 63)<=k/\k<2 ^ 63/\xs.length*k.toNat<=sizeLine /\
 ∀p,H p=none->Q (.ref p) (upd H p (.lst (List.replicate k.toNat xs).flatten))
theorem aDT{α:Type}(xs:List α)(k:Nat):(List.replicate k xs).flatten.length=k*xs.length:=by
 induction k with
 | zero=>simp
 | succ k ih=>rw[Bp,B9,Da,ih,Nat.succ_mul,Nat.add_comm]
theorem aGm:OpR X (binaryOp .Mult) aMb:=by
 intro pins s σ H x y v u Q I rx ry h
 obtain⟨l,k,xs,rfl,rfl,hH,h1,h2,hz,q⟩:=h
 cases rx
 obtain⟨t,rfl⟩:=ry
 obtain⟨z,its,n,r,hl,e⟩:=I.lstM hH
 have hlen:its.toArray.size*k.toNat<=sizeLine:=by rw[Af,<-hl];exact hz
 have hcap:¬ its.toArray.size*k.toNat>(2 ^ 63-1) / 8:=by
  have:(sizeLine:Nat)<=(2 ^ 63-1) / 8:=by decide
  omega
 have hfit:¬ (!Builtin.List.listFitsIndex k)=true:=by
  rw[fitsIndex_both h1 h2]
  exact C6
 have hlong:¬ Builtin.List.listTooLong (its.toArray.size*k.toNat)=true:=by
  rw[tW hlen]
  exact C6
 have hnew:List.foldl (λx1 x2=>x1++x2) #[] (List.replicate (if its.toArray.isEmpty=true then 0 else k.toNat) its.toArray)=(List.replicate k.toNat its).flatten.toArray:=by
  have f0:∀m:Nat,List.foldl (λx1 x2=>x1++x2) #[] (List.replicate m its.toArray)=(List.replicate m its).flatten.toArray:=λm=>by
   have:=pW its m []
   rw[List.nil_append] at this
   exact this
  rw[f0]
  cases its with
  | nil=>simp
  | cons a r'=>rw[if_neg (by simp)]
 refine wpAny_binaryOp_repeat_ref (T:= "list") (U:= "int") (by decide) ⟨_,e,rfl⟩ (λs'=>typeIs_int s' k t) noFill_list_mul F.fills_int_mul F.slot_int_rmul repeat_list F.slot_int_index.lookup
  (call_meets F.slot_int_rmul (typeIs_int s k t) F.entry_int_rmul (F.args_int_rmul_2 _ _) (int___rmul___int_list k t l its.toArray n)
   ⟨e,rfl,⟨_,e,rfl⟩,call_meets F.slot_list_mul ⟨_,e,rfl⟩ F.entry_list_mul (F.args_list_mul_2 _ _) (AutoListH.list___mul___list_int_3 l its.toArray n k t hfit hcap hlong) ⟨e,?_⟩⟩)
 rw[hnew]
 exact⟨.ref _,_,I.lnew (t':=s.toks) (r.rep k.toNat) (by rw[aDT,Nat.mul_comm];exact hz),rfl,q _ I.fresh⟩
end
section
variable {prog:Program} {w:World} {A:Around} {E:Value->Shared->Prop} {s:Shared}
end
section
variable {X:Cx}
end
end L2
namespace Att
open PySem PySem.W PySem.Calls PyProof.Rows
theorem mJ{P:Params}{h:Heap}:∀(ns:List Int) (vs:List Value),WellAll P h vs (ns.map WData.int)->IntsAre vs ns:=by
 intro ns
 induction ns with
 | nil=>
  intro vs w
  rw[List.map_nil] at w
  cases w
  exact .nil
 | cons n ns ih=>
  intro vs w
  rw[List.map_cons] at w
  cases w with
  | cons a b=>
   cases a
   exact .cons _ _ (ih _ b)
theorem aAt{l:OpenLaw}{n:Nat}(hn:l.most=some n){P:Params}{h:Heap}{args:List WData}{vals:List Value}
 (hpre:l.row.toRowW.claim.pre args=true) (hwl:WellAll P h vals args) :
 ∃a vs ns,vals=[Value.ref a]/\args=[WData.list (ns.map WData.int)]/\h.get? a=some { cls:=.type "list",data:=.seq vs.toArray }/\IntsAre vs ns/\ns.length<=n:=by
 have hsh:WShape.hasAll [] args [.list .int]=true:=(pre_splitW hpre).1
 have hc:l.pre.holds [] { args:=args }=true:=(pre_splitW hpre).2
 obtain⟨d,r,rfl,h1,h2⟩:=hasAllW_cons hsh
 obtain rfl:=hasAllW_nil h2
 obtain⟨xs,rfl,h3⟩:=hasW_list h1
 obtain⟨ns,rfl⟩:=items_int h3
 have hlen:ns.length<=n:=by
  unfold OpenLaw.pre at hc
  have h4:(WTm.not (.lt (.lit (.int (n:Int))) (.len (.arg 0)))).holds [] { args:=[.list (ns.map .int)] }=true:=by
   have h4:=(holds_andW hc).1
   rw[hn] at h4
   exact h4
  have h5:=condW_of h4 (w_not (w_lt w_lit (w_len_list (w_arg rfl))))
  rw[List.length_map] at h5
  refine Nat.le_of_not_lt λq=>?_
  have q':(n:Int)<((ns.length:Nat):Int):=by omega
  first
   | (rw[Au q'] at h5;exact absurd h5 (by decide))
   | (simp at h5;omega)
 cases hwl with
 | cons w1 w2=>
  cases w2
  cases w1 with
  | list ho hall=>exact⟨_,_,ns,rfl,rfl,ho,mJ ns _ hall,hlen⟩
theorem aAu(l:OpenLaw)(args:List WData):l.row.toRowW.claim.post args (.bool true) args=true:=
 postW_of (r:=l.row.toRowW) (X:=(true==true))
  (show WShape.has [] (.bool true) .bool=true by first|rfl|decide|simp[WShape.has,WShape.arms,WShape.armsAll])
  (show(WTm.eq .res (.lit (.bool true))).value [] { args:=args,res:=some (.bool true),after:=args }=some (.bool (true==true)) from w_eq_bool (w_res rfl) w_lit) rfl
theorem attach_call{l:OpenLaw}{n:Nat}{q:Program}{loose:List Str}{XP:(Str->Option Value)->Heap->Prop}{YP:World->Heap->Prop}{d:DefRec}
 (hn:l.most=some n) (hdf:d.params.defaults=[])
 (call:∀(w:World) (s₀ s₁:Shared) (mg mb:Str->Option Value) (fa:Addr) (o:Obj) (pm cd doc:Value) (a:Addr) (vs:List Value) (ns:List Int),
  Ground q loose [] XP w s₀ mg mb s₁.heap->YP w s₁.heap ->
  s₁.heap.get? fa=some o->o.data=.func (docDef d.name d.params d.body d.scope pm cd doc)->s₁.heap.CodeRec cd d.name->mg d.name=some (.ref fa) ->
  s₁.heap.get? a=some { cls:=.type "list",data:=.seq vs.toArray }->IntsAre vs ns->ns.length<=n->s₁.gens=#[] ->
  codeAny (model l.prog w) callerA (.call (.ref fa) ⟨[.ref a],[]⟩) (λr s'=>r=.ok (.ret (.bool true))/\OldK s₁.heap s'.heap/\s'.os=s₁.os/\AllBare s'.gens) s₁) :
 WalkO q loose XP YP l.row.toRowW d [] (λf vs=>PySem.call f vs):=by
 intro w s₀ s₁ mg mb G Y fa o pm cd doc dV kV ho hd hcd hD hmg hg args vals as hpre hlay hrd hwl hlo
 obtain rfl:dV=.none:=Dflts.none hD hdf
 obtain rfl:kV=.none:=Dflts.noKw hD
 obtain⟨a,vs,ns,rfl,rfl,hobj,hints,hlen⟩:=aAt hn hpre hwl
 refine enter_call (codeAny_mono (call w s₀ s₁ mg mb fa o pm cd doc a vs ns G Y ho (fd_plain hd) hcd hmg hobj hints hlen hg) λr s' hq=>?_)
 obtain⟨rfl,h2,h3,h4⟩:=hq
 exact⟨.inl ⟨.bool true,.bool true,[],rfl,λ_=>rfl,.bool true,aAu l _,λ_=>⟨List.Pairwise.nil,λ_ hm=>(nomatch hm)⟩⟩,h2,h3,h4⟩
section
variable {prog:Program} {w:World} {A:Around} {E:Value->Shared->Prop} {s:Shared} {K:Frag}
end
end Att
namespace L2
open PySem PySem.Spec PyProof.Rows
theorem dZ:∀{vs:List Value} {ns:List Int},IntsAre vs ns->aM (ns.map V.int) vs
 | _,_,.nil=>.nil
 | _,_,.cons n t h=>.cons ⟨t,rfl⟩ (dZ h)
def aDU(H:Hp):Prop:=∀b,H b=none\/∃o xs,H b=some (.frz o (.lst xs))
theorem aBF{P:Program}{w:World}{K:PySem.W.Frag}{mg mb:Str->Option Value}{CX:CXT}{k:Nat}{fa a:Addr}{fd:FuncData}{x:Str}{sp:Sp}{s₁:Shared}{vs:List Value}{ns:List Int}
 (KX:K.In s₁.heap) (hns:s₁.heap.Ns mainGlobals mg) (hb:s₁.heap.Ns builtinsNs mb) (hbb:∀x:Str,x ≠ "__name__" -> mb x=bootBuiltins x) (hlim:s₁.heap.NoLimit) (hg:s₁.gens=#[])
 (ha:s₁.heap.get? a=some { cls:=.type "list",data:=.seq vs.toArray }) (hi:IntsAre vs ns) (hl:ns.length<=sizeLine) (hr:iT k callerA)
 (F:∀base:Heap,K.In base->base.Ns mainGlobals mg->mI P w K mg base CX k fa fd [x] sp) (hbind:∀(s:Shared) (u:Value),BindsTo s fd ⟨[u],[]⟩ [(x,u)])
 (hsp:∀H:Hp,aDU H->SqL K H a (ns.map V.int)->sp [.ref a] H (λv _=>v=.bl true) λ_ _ _=>False)
 (hCX:∀H e s',CX [] H s₁ (λ_ _ _=>False) e s'->False) :
 codeAny (model P w) callerA (.call (.ref fa) ⟨[.ref a],[]⟩) (λr s'=>r=.ok (.ret (.bool true))/\OldK s₁.heap s'.heap/\s'.os=s₁.os/\AllBare s'.gens) s₁:=by
 have rv:=dZ hi
 have lenV:=hi.length
 have core:∀H:Hp,aDU H->SqL K H a (ns.map V.int)->HOk P w H s₁.heap->(∀b,H b≠none->b=a)->(H a≠none->K.lookup a=none) ->
  codeAny (model P w) callerA (.call (.ref fa) ⟨[.ref a],[]⟩) (λr s'=>r=.ok (.ret (.bool true))/\OldK s₁.heap s'.heap/\s'.os=s₁.os/\AllBare s'.gens) s₁:=by
  intro H hO hS hok hA hK
  have base_of:∀{b:Addr} {o:Obj},s₁.heap.get? b=some o->H b=none->(qY s₁.heap H).get? b=some o:=λe n=>aBl e n
  have noA:∀{b:Addr} {o:Obj} {es:Array DictEntry} {ep:Nat},s₁.heap.get? b=some o->o.data=.dict es ep->H b=none:=λ{b o es ep} e d=>by
   cases q:H b with
   | none=>rfl
   | some u=>
    have e':b=a:=hA b (by rw[q];simp)
    subst e'
    rw[ha] at e;cases e
    have d':Data.seq vs.toArray _=Data.dict es ep:=d
    cases d'
  have nsK:∀{b:Addr} {m:Str->Option Value},s₁.heap.Ns b m->(qY s₁.heap H).Ns b m:=λ{b m} ⟨o,es,ep,e,d,r⟩=>⟨o,es,ep,base_of e (noA e d),d,r⟩
  have hKb:K.In (qY s₁.heap H):=λb o e=>base_of (KX b o e) (by
   cases q:H b with
   | none=>rfl
   | some u=>
    have e':b=a:=hA b (by rw[q];simp)
    subst e'
    rw[hK (by rw[q];simp)] at e;cases e)
  have hM:Mod K mg (qY s₁.heap H):=⟨hKb,nsK hns,⟨mb,nsK hb,hbb⟩,let ⟨mc,h1,h2⟩:=hlim;⟨mc,nsK h1,h2⟩⟩
  have e0:aDK P w K mg (qY s₁.heap H) callerA [] s₁ H:=⟨rfl,hM,λb o e=>aDz e,Nat.le_of_eq (aAk _ _),trivial,λb hb=>absurd (show b∈([]:List Addr) from hb) (by simp),hok,.of_eq hg⟩
  refine codeAny_mono ((F _ hKb (nsK hns)).run callerA [] s₁ H ⟨[.ref a],[]⟩ [.ref a] [.ref a] _ _ hr e0 (hbind s₁ (.ref a)) (.cons rfl .nil) (hsp H hO hS)) λr s' h=>?_
  cases r with
  | error e=>exact(hCX H e s' h).elim
  | ok fl=>
   cases fl with
   | next=>exact False.elim h
   | brk=>exact False.elim h
   | cont=>exact False.elim h
   | ret u=>
    obtain⟨v,H',os,bare,un,hok',r',q⟩:=h
    have q':v=.bl true:=q
    subst q'
    obtain rfl:u=Value.bool true:=r'
    refine⟨rfl,OldK.of_keep λb o e=>?_,os,bare⟩
    cases q:H b with
    | none=>exact un.keep b o e q (by intro z;exact absurd (show b∈([]:List Addr) from z) (by simp)) (by simp)
    | some u=>
     rcases hO b with z|⟨ob,xs,z⟩
     . rw[q] at z;cases z
     . have z2:=un.frzs b ob _ z
       obtain⟨e1,_⟩:=hok b _ z
       obtain⟨e2,_⟩:=hok' b _ z2
       rw[e] at e1;cases e1
       exact e2
 cases hk:K.lookup a with
 | some o=>
  have e:=KX a o hk
  rw[ha] at e
  cases e
  refine core (λ_=>none) (λ_=>.inl rfl) (.inr ⟨_,vs.toArray,_,hk,rfl,rfl,rfl,by rw[Af,lenV];exact hl,by simpa using rv⟩) (λb u z=>by have z':(none:Option HO)=some u:=z;cases z') (λb z=>absurd rfl z) λz=>absurd rfl z
 | none=>
  refine core (λb=>if b=a then some (.frz { cls:=.type "list",data:=.seq vs.toArray } (.lst (ns.map V.int))) else none) (λb=>?_) (.inl (.inr ⟨{ cls:=.type "list",data:=.seq vs.toArray },if_pos rfl⟩)) (λb u z=>?_) (λb z=>?_) λ_=>hk
  . by_cases hb:b=a
    . exact .inr ⟨_,_,if_pos hb⟩
    . exact .inl (if_neg hb)
  . by_cases hb:b=a
    . have z':=(if_pos hb).symm.trans z
      cases z'
      subst hb
      exact⟨ha,by rw[List.length_map];exact hl,vs,_,rv,ha⟩
    . have z':=(if_neg hb).symm.trans z
      cases z'
  . by_cases hb:b=a
    . exact hb
    . exact absurd (if_neg hb) z
end L2
namespace L2
open PySem PySem.Spec PyProof.Rows
end L2
namespace L2
open PySem PySem.Spec PyProof.Rows
def iA(s:Stmt):Arguments:=match s with
 | .FunctionDef _ a _ _ _ _ _ _ _ _=>a
 | _=>{ posonlyargs:=[],args:=[],vararg:=none,kwonlyargs:=[],kw_defaults:=[],kwarg:=none,defaults:=[] }
def iB(s:Stmt):List Stmt:=match s with
 | .FunctionDef _ _ b _ _ _ _ _ _ _=>b
 | _=>[]
def bH(s:Stmt):Scope:=match s with
 | .FunctionDef _ _ _ _ _ _ sc _ _ _=>sc
 | _=>{ kind:=.function,names:=[],isGenerator:=false,isCoroutine:=false }
abbrev CX0:CXT:=λ_ _ _ _ _ _=>False
abbrev E0:XK:=λ_ _ _=>False
theorem tX{X:Cx}:rD CX0 X E0:=λ_ _ _ _ _ _ _ h=>h.elim
structure Fun (K:PySem.W.Frag) (x qual:Str) (st:Stmt) (f:Addr) (fd:FuncData):Prop where
 ex:∃(oc:Value) (od:Option Addr) (kV doc pm:Value) (an:Option Addr) (cdv ct:Value) (osl:Array (Option Value)),
  fd=PySem.W.fnOf x qual (iA st) (iB st) (bH st) .none kV doc pm an cdv ct/\K.lookup f=some ⟨oc,od,.func fd,osl⟩/\PySem.W.codeIn K cdv qual=true
 kp:PySem.W.keepIn K (.ref f)=true
section
variable {P:Program} {w:World} {K:PySem.W.Frag} {mg:Str->Option Value} {base:Heap}
theorem Fun.ok{x qual:Str}{st:Stmt}{f:Addr}{fd:FuncData}{N ps:List Str}{k:Nat}{sp:Sp}(F:Fun K x qual st f fd)(S:mV N ps (bH st))(len:∀vs H Q E,sp vs H Q E->vs.length=ps.length)
 (hbody:∀(cdv:Value) (A:Around) (outer:List Env) (s:Shared) (H:Hp) (vs:List V) (Q:VK) (E:XK),iT k (A.deeper (envOfC qual (bH st) s.heap.objs.size f cdv))->sp vs H Q E ->
  ∃t,PSs (wR CX0 P w K mg base N qual (bH st) f cdv A outer s H E).nox (iB st) t/\t { nx:=λ_ H'=>Q .non H',rt:=Q } (start N vs) H):mI P w K mg base CX0 (k+1) f fd ps sp:=by
 obtain⟨oc,od,kV,doc,pm,an,cdv,ct,osl,rfl,lk,hcd⟩:=F.ex
 refine aJa lk hcd S len λA outer s H vs Q E hr hsp=>?_
 obtain⟨t,h,q⟩:=hbody cdv A outer s H vs Q E hr hsp
 exact⟨t,h.nox,q⟩
theorem Fun.binds{x qual:Str}{st:Stmt}{f:Addr}{fd:FuncData}{ps:List Str}(F:Fun K x qual st f fd)
 (h:∀(kV doc pm:Value) (an:Option Addr) (cdv ct:Value) (us:List Value),us.length=ps.length->bindArgs (PySem.W.fnOf x qual (iA st) (iB st) (bH st) .none kV doc pm an cdv ct) ⟨us,[]⟩=pure (ps.zip us)):iL K fd ps []:=by
 obtain⟨oc,od,kV,doc,pm,an,cdv,ct,osl,rfl,lk,hcd⟩:=F.ex
 exact .all (h kV doc pm an cdv ct)
end
section
variable {X:Cx}
end
theorem aJh{A B:Prop}(h:B):if false=true then A else B:=by
 rw[if_neg C6]
 exact h
theorem aMc{A B:Prop}(h:A):if true=true then A else B:=by
 rw[if_pos rfl]
 exact h
def aF(H H':Hp):Prop:=∀b o,H b=some o->H' b=some o
theorem aF.refl(H:Hp):aF H H:=λ_ _ h=>h
theorem aF.trans{H H1 H2:Hp}(a:aF H H1)(b:aF H1 H2):aF H H2:=λc o h=>b c o (a c o h)
theorem aF.free{H H':Hp}(e:aF H H'){l:Addr}(h:H' l=Option.none):H l=Option.none:=by
 cases q:H l with
 | none=>rfl
 | some o=>
  rw[e l o q] at h
  cases h
theorem aF.seq{K:PySem.W.Frag}{H H':Hp}{a:Addr}{xs:List V}(e:aF H H')(h:SqL K H a xs):SqL K H' a xs:=by
 rcases h with(h|⟨o,h⟩)|h
 . exact .inl (.inl (e _ _ h))
 . exact .inl (.inr ⟨o,e _ _ h⟩)
 . exact .inr h
end L2
end
noncomputable section
namespace L2
open PySem PySem.Spec PyProof.Rows PySem.SeqAt
end L2
end
noncomputable section
namespace Hp
open PySem (Str Operator CmpOp)
inductive D where
 | non|bl (b:Bool)|int (i:Int)|str (x:Str)
 | tup (ds:List D)|lst (ds:List D)
 | dic (kvs:List (D×D))
 | err (c:Nat) (fs:List D)
 deriving Inhabited
mutual
def noL:D->Bool
 | .tup ds=>noLs ds
 | .lst _=>false
 | .dic _=>false
 | .err _ _=>false
 | _=>true
def noLs:List D->Bool
 | []=>true
 | d::ds=>noL d&&noLs ds
end
def lim:Nat:=1000000
def b2i(b:Bool):Int:=if b then 1 else 0
def eqL(f:D->D->Option Bool):List D->List D->Option Bool
 | [],[]=>some true
 | a::as,b::bs=>match f a b,eqL f as bs with
  | some x,some y=>some (x&&y)
  | _,_=>none
 | _,_=>some false
def eqF:Nat->D->D->Option Bool
 | 0,_,_=>none
 | n+1,a,b=>match a,b with
  | .non,.non=>some true
  | .bl a,.bl b=>some (a==b)
  | .int a,.int b=>some (a==b)
  | .str a,.str b=>some (a==b)
  | .bl a,.int b=>some (b2i a==b)
  | .int a,.bl b=>some (a==b2i b)
  | .tup as,.tup bs=>eqL (eqF n) as bs
  | .lst as,.lst bs=>if as.length=bs.length then eqL (eqF n) as bs else some false
  | .dic _,_=>none
  | _,.dic _=>none
  | .err _ _,_=>none
  | _,.err _ _=>none
  | _,_=>some false
def eB(n:Nat):List D->List D->Option Bool
 | [],[]=>some true
 | a::as,b::bs=>match eqF n a b,eB n as bs with
  | some x,some y=>some (x&&y)
  | _,_=>none
 | _,_=>some false
@[simp] theorem wX (n:Nat):∀as bs:List D,eqL (eqF n) as bs=eB n as bs
 | [],[]=>rfl
 | [],_::_=>rfl
 | _::_,[]=>rfl
 | a::as,b::bs=>by rw[eqL,eB,wX n as bs]
def rM:Nat:=120
def eqD(a b:D):Option Bool:=eqF rM a b
inductive R (α:Type) where
 | ok (a:α)|exc (x:D)|bad
 deriving Inhabited
def R.bind{α β:Type}(x:R α)(f:α->R β):R β:=match x with
 | .ok a=>f a
 | .exc e=>.exc e
 | .bad=>.bad
instance:Monad R where
 pure:=.ok
 bind:=.bind
def R.of{α:Type}:Option α->R α
 | some a=>.ok a
 | none=>.bad
def R.iff{α:Type}(c:Bool)(x:R α):R α:=if c then x else .bad
structure Vl where
 d:D
 fr:Bool:=false
 pa:Bool:=false
 al:List Nat:=[]
 deriving Inhabited
def Vl.cl(d:D):Vl:=⟨d,false,false,[]⟩
def Vl.sub(v:Vl)(d:D):Vl:=if noL d then .cl d else ⟨d,false,v.pa,v.al⟩
inductive DT where
 | s (ks:List Nat)|m (kvs:List (List Int×D))
 deriving Inhabited
set_option genInjectivity true in
inductive Sl where
 | dead|sh (pa:Bool) (d:D)|own (pa:Bool) (ds:List D)|lent (ds:List D)|own2 (dss:List (List D))|dct (t:DT)
 deriving Inhabited
abbrev Sg:=List Sl
def Sl.val(i:Nat):Sl->R Vl
 | .dead=>.bad
 | .sh pa d=>.ok ⟨d,false,pa&&!noL d,[]⟩
 | .own pa ds=>.ok ⟨.lst ds,false,pa,[i]⟩
 | .lent _=>.bad
 | .own2 _=>.bad
 | .dct _=>.bad
def cA(σ:Sg)(i:Nat):R Vl:=match σ[i]? with
 | some s=>s.val i
 | none=>.bad
def Sl.freeze:Sl->Sl
 | .own pa ds=>.sh pa (.lst ds)
 | s=>s
def freeze(σ:Sg):List Nat->Sg
 | []=>σ
 | i::is=>freeze (match σ[i]? with|some s=>σ.set i s.freeze|none=>σ) is
def Vl.slot(v:Vl):Sl:=match v.fr,v.d with
 | true,.lst ds=>.own v.pa ds
 | _,d=>.sh v.pa d
inductive Bi where
 | len|list|tuple|min|max|abs|int|str|sum|all|any|sorted|bool|repr
 deriving DecidableEq,Inhabited
inductive Mt where
 | join|upper|lower|get|startswith|endswith|index|count|copy|isdigit|find|replace|split|strip
 deriving DecidableEq,Inhabited
inductive Cl where
 | tInt|tBool|tStr|tList|tTuple|tDict|own (c:Nat)|tValueError
 deriving DecidableEq,Inhabited
inductive T where
 | n (i:Nat)
 | t (ts:List Nat)
 deriving Inhabited
mutual
inductive E where
 | c (d:D)
 | v (i:Nat)
 | op (o:Operator) (a b:E)
 | neg (a:E)
 | nt (a:E)
 | an (a b:E)
 | orr (a b:E)
 | ife (t a b:E)
 | cmp (o:CmpOp) (a b:E)
 | cmp2 (o o':CmpOp) (a b c:E)
 | idx (a b:E)
 | sli (a:E) (lo hi:Es)
 | tup (es:Es)
 | lst (es:Es)
 | dic (ks vs:Es)
 | call (f:Nat) (es:Es)
 | bi (b:Bi) (es:Es)
 | mth (m:Mt) (o:E) (es:Es)
 | isi (a:E) (cs:List Cl)
 | attr (a:E) (f:Nat)
 | comp (k:Nat) (caps:List Nat) (t:T) (it:It) (cond:Es) (elt:E)
 | numset (a:E)   -- len(set(a))
 | tget (i:Nat) (a:E)   -- a dict of the module,.get(a)
 | lzip (a b:E)   -- list(zip(a,b))
 | lix (i:Nat) (k:E)   -- x[k],x lent
 | stp (a:E) (k:Nat)   -- a[::k]
 | sset (a:E)   -- sorted(set(a)),numbers from 0 to 3
 | callP (f:Nat) (es:Es)   -- f(..),some of it o2;all that is told is new
 | o2 (i k:Nat)   -- x[k],x a list of lists of its own (of a callP)
 | dgne (i:Nat) (k a:E)   -- x.get(k,a) != a
 | srtD (i:Nat)   -- sorted(x),x a dict of its own
inductive Es where
 | nil|cons (e:E) (es:Es)
inductive It where
 | seq (e:E)|rng (a b:E)|zip (a b:E)|enum (a:E)|rev (a:E)|rng3 (a b:Int) (c:Nat)
end
instance:Inhabited E:=⟨.c .non⟩
mutual
inductive EL where
 | e (a:E)
 | op (o:Operator) (a b:EL)
 | idx (a b:EL)
 | tup (es:ELs)
 | call (f:Nat) (es:ELs)   -- f(x,..),x lent
 | lst (es:ELs)
 | cmp (o:CmpOp) (a b:EL)
 | int (a:EL)   -- int(a)
 | comp (k:Nat) (caps:List Nat) (t:T) (n:EL) (l':Nat) (elt:EL)   -- [elt for t in range(n)]
inductive ELs where
 | nil|cons (e:EL) (es:ELs)
end
inductive Arg where
 | e (a:E)|pop (i:Nat)
 deriving Inhabited
mutual
inductive S where
 | set (t:T) (e:E)
 | mov (i j:Nat)
 | setIx (i:Nat) (k e:E)
 | app (i:Nat) (e:E)
 | ext (i:Nat) (e:E)
 | pop (t:Option T) (i:Nat) (at':Option E)
 | clr (i:Nat)
 | ins (i:Nat) (k e:E)
 | rev (i:Nat)
 | appCall (i:Nat) (f:Nat) (as:List Arg)
 | ret (e:E)
 | retv (i:Nat)
 | retN
 | iff (c:E) (a b:Ss)
 | for (t:T) (it:It) (b:Ss)
 | whl (c:E) (b:Ss)
 | brk|cnt|pass
 | ex (e:E)
 | rse (c:Nat) (keep:Bool) (es:Es)
 | try (b:Ss) (hs:Hs)
 | tryN (b:Ss)   -- try: b,which ends without an exception
 | set2 (i:Nat) (a b:E)   -- i=[a,b],both new lists
 | app2 (i k:Nat) (e:E)   -- i[k].append(e)
 | dnew (i:Nat) (m:Bool)   -- i={}
 | dset (i f:Nat) (es:Es)   -- i=f(..),a new dict
 | dupd (i:Nat) (e:E)   -- i.update(e)
 | dput (i:Nat) (k a:E)   -- i[k]=a
 | lend   -- slot 0 is lent (no text)
 | lset (i:Nat) (k e:E)
 | setL (i l:Nat) (fz:List Nat) (e:EL)
 | appL (i l:Nat) (e:EL)
 | retL (e:EL)
 | retvL (i:Nat)
 | iffL (o:CmpOp) (a:EL) (b:E) (x y:Ss)
 | forL (t:T) (e:EL) (b:Ss)
inductive Ss where
 | nil|cons (s:S) (ss:Ss)
inductive Hs where
 | nil|cons (cs:List Cl) (n:Option Nat) (b:Ss) (hs:Hs)
end
structure Fn where
 np:Nat
 ns:Nat
 body:Ss
structure Pg where
 fns:List Fn
 above:List (List Cl)
 tabs:List (List (Str×D)):=[]
abbrev Rt:=D×Bool×Bool
abbrev Caller:=Nat->List D->R Rt
def pX(i j:Int):Bool:=(decide (-(2 ^ 64)<i)&&decide (i<2 ^ 64))||(decide (-(2 ^ 64)<j)&&decide (j<2 ^ 64))
def aFi(i j:Int):Bool:=decide (0<=j)&&decide (j<=1000)&&decide (i.natAbs<2 ^ 64)
def tY(j:Int):Bool:=decide (0<j)&&decide (j<1073741824)
def aI(k:Int):Bool:=decide (-(2 ^ 62)<=k)&&decide (k<2 ^ 62)
def Str.rep(x:Str)(k:Nat):Str:=⟨(List.replicate k x.cps).foldl (·++·) #[]⟩
@[simp] def aGn (x y:Vl):R Vl:=match x.d,y.d with
 | .int i,.int j=>.ok (.cl (.int (i+j)))
 | .str a,.str b=>.iff (decide (a.length+b.length<=lim)) (.ok (.cl (.str (a++b))))
 | .tup a,.tup b=>.iff (decide (a.length+b.length<=lim)) (.ok ⟨.tup (a++b),false,x.pa||y.pa,x.al++y.al⟩)
 | .lst a,.lst b=>.iff (decide (a.length+b.length<=lim)) (.ok ⟨.lst (a++b),true,(x.pa&&!noLs a)||(y.pa&&!noLs b),(if noLs a then [] else x.al)++(if noLs b then [] else y.al)⟩)
 | _,_=>.bad
@[simp] def aGo (x y:Vl):R Vl:=match x.d,y.d with
 | .int i,.int j=>.iff (pX i j) (.ok (.cl (.int (i*j))))
 | .str a,.int k=>.iff (aI k&&decide (a.length*k.toNat<=lim)) (.ok (.cl (.str (Str.rep a k.toNat))))
 | .lst a,.int k=>.iff (x.fr&&aI k&&decide (a.length*k.toNat<=lim)&&noLs a) (.ok ⟨.lst (List.replicate k.toNat a).flatten,true,false,[]⟩)
 | _,_=>.bad
@[simp] def tZ (f:Int->Int->R Vl) (x y:Vl):R Vl:=match x.d,y.d with
 | .int i,.int j=>f i j
 | _,_=>.bad
def opD(o:Operator)(x y:Vl):R Vl:=match o with
 | .Add=>aGn x y
 | .Mult=>aGo x y
 | .Sub=>tZ (λi j=>.ok (.cl (.int (i-j)))) x y
 | .FloorDiv=>tZ (λi j=>.iff (tY j) (.ok (.cl (.int (i / j))))) x y
 | .Mod=>tZ (λi j=>.iff (decide (0<j)) (.ok (.cl (.int (i % j))))) x y
 | .Pow=>tZ (λi j=>.iff (aFi i j) (.ok (.cl (.int (i ^ j.toNat))))) x y
 | _=>.bad
def aBG:D->Option Bool
 | .non=>some false
 | .bl b=>some b
 | .int i=>some (i != 0)
 | .str x=>if x.length<=lim then some (x.length != 0) else none
 | .tup ds=>some (!ds.isEmpty)
 | .lst ds=>some (!ds.isEmpty)
 | _=>none
def dN(x:Vl):R Bool:=.of (aBG x.d)
def gH:List D->Option (List Int)
 | []=>some []
 | .int a::ds=>match gH ds with
  | some ns=>some (a::ns)
  | none=>none
 | _=>none
def ltD:D->D->Option Bool
 | .int a,.int b=>some (decide (a<b))
 | _,_=>none
def leD:D->D->Option Bool
 | .int a,.int b=>some (decide (a<=b))
 | _,_=>none
def isNone:D->Bool
 | .non=>true
 | _=>false
def inD(x y:D):Option Bool:=match x,y with
 | .str a,.str b=>some (!(PySem.Builtin.Str.occurrences b a 0 b.length 1).isEmpty)
 | _,_=>none
def bG(o:CmpOp)(x y:D):Option Bool:=match o with
 | .Eq=>eqD x y
 | .NotEq=>(eqD x y).map (!·)
 | .Lt=>ltD x y
 | .Gt=>match x,y with
  | .int a,.int b=>some (decide (b<a))
  | _,_=>none
 | .LtE=>leD x y
 | .GtE=>match x,y with
  | .int a,.int b=>some (decide (b<=a))
  | _,_=>none
 | .Is=>match y with
  | .non=>some (isNone x)
  | _=>none
 | .IsNot=>match y with
  | .non=>some (!isNone x)
  | _=>none
 | .In=>inD x y
 | .NotIn=>(inD x y).map (!·)
def ixN(n:Nat)(k:Int):Option Nat:=
 if 0<=k then (if k<n then some k.toNat else none) else (if -(n:Int)<=k then some (k+n).toNat else none)
def bT(x y:Vl):R Vl:=match x.d,y.d with
 | .lst ds,.int k=>match ixN ds.length k with
  | some j=>match ds[j]? with
   | some d=>.ok (x.sub d)
   | none=>.bad
  | none=>.bad
 | .tup ds,.int k=>match ixN ds.length k with
  | some j=>match ds[j]? with
   | some d=>.ok (x.sub d)
   | none=>.bad
  | none=>.bad
 | .str a,.int k=>.iff (decide (a.length<=lim)) (match ixN a.length k with
  | some j=>match a.cps.toList[j]? with
   | some c=>.ok (.cl (.str ⟨#[c]⟩))
   | none=>.bad
  | none=>.bad)
 | _,_=>.bad
def sIx(n d:Nat):Option Int->Nat
 | none=>d
 | some v=>if v<0 then (v+(n:Int)).toNat else min v.toNat n
def cut{α:Type}(xs:List α)(lo hi:Option Int):List α:=(xs.drop (sIx xs.length 0 lo)).take (sIx xs.length xs.length hi-sIx xs.length 0 lo)
def wY(x:Str)(lo hi:Option Int):Str:=⟨(cut x.cps.toList lo hi).toArray⟩
def eC(x:Vl)(lo hi:Option Int):R Vl:=match x.d with
 | .lst ds=>.ok ⟨.lst (cut ds lo hi),true,x.pa&&!noLs ds,if noLs ds then [] else x.al⟩
 | .tup ds=>.ok ⟨.tup (cut ds lo hi),false,x.pa&&!noLs ds,if noLs ds then [] else x.al⟩
 | .str a=>.iff (decide (a.length<=lim)) (.ok (.cl (.str (wY a lo hi))))
 | _=>.bad
def isI(cs:List Cl)(P:Pg):D->Option Bool
 | .non=>some false
 | .bl _=>some (cs.contains .tBool||cs.contains .tInt)
 | .int _=>some (cs.contains .tInt)
 | .str _=>some (cs.contains .tStr)
 | .tup _=>some (cs.contains .tTuple)
 | .lst _=>some (cs.contains .tList)
 | .dic _=>some (cs.contains .tDict)
 | .err c _=>match P.above[c]? with
  | some ab=>some (ab.any λa=>cs.contains a)
  | none=>none
def aJi:List D->Int->Option Int
 | [],a=>some a
 | .int i::ds,a=>aJi ds (a+i)
 | .bl b::ds,a=>aJi ds (a+b2i b)
 | _,_=>none
def cI:List D->Option (List Bool)
 | []=>some []
 | .bl a::ds=>match cI ds with
  | some bs=>some (a::bs)
  | none=>none
 | _=>none
def rN:List D->Option (List (Sum Int Str))
 | []=>some []
 | .int a::ds=>match rN ds with
  | some ks=>some (.inl a::ks)
  | none=>none
 | .str a::ds=>match rN ds with
  | some ks=>some (.inr a::ks)
  | none=>none
 | _=>none
def aBH(ks:List (Sum Int Str)):List (Sum Int Str):=ks.foldl (λσ v=>if σ.any (·==v) then σ else σ++[v]) []
def aJj(x:D):List D->Option (List D)
 | []=>some [x]
 | y::ys=>match ltD x y with
  | some true=>some (x::y::ys)
  | some false=>match aJj x ys with
   | some r=>some (y::r)
   | none=>none
  | none=>none
def aJk:List D->Option (List D)
 | []=>some []
 | d::ds=>match aJk ds with
  | some r=>aJj d r
  | none=>none
@[simp] def aAv (b:Bi) (x:Vl):R Vl:=match b with
 | .len=>match x.d with
  | .lst ds=>.ok (.cl (.int ds.length))
  | .tup ds=>.ok (.cl (.int ds.length))
  | .str a=>.iff (decide (a.length<=lim)) (.ok (.cl (.int a.length)))
  | _=>.bad
 | .list=>match x.d with
  | .lst ds=>.ok ⟨.lst ds,true,x.pa&&!noLs ds,if noLs ds then [] else x.al⟩
  | .tup ds=>.ok ⟨.lst ds,true,x.pa&&!noLs ds,if noLs ds then [] else x.al⟩
  | _=>.bad
 | .tuple=>match x.d with
  | .lst ds=>.ok ⟨.tup ds,false,x.pa&&!noLs ds,if noLs ds then [] else x.al⟩
  | .tup ds=>.ok ⟨.tup ds,false,x.pa,x.al⟩
  | _=>.bad
 | .int=>match x.d with
  | .int i=>.ok (.cl (.int i))
  | .bl b=>.ok (.cl (.int (b2i b)))
  | _=>.bad
 | .all=>match x.d with
  | .lst ds=>match cI ds with
   | some bs=>.ok (.cl (.bl (bs.all id)))
   | none=>.bad
  | _=>.bad
 | .any=>match x.d with
  | .lst ds=>match cI ds with
   | some bs=>.ok (.cl (.bl (bs.any id)))
   | none=>.bad
  | _=>.bad
 | _=>.bad
@[simp] def aJl (b:Bi) (x y:Vl):R Vl:=match b with
 | .min=>match x.d,y.d with
  | .int i,.int j=>.ok (.cl (.int (if j<i then j else i)))
  | _,_=>.bad
 | .max=>match x.d,y.d with
  | .int i,.int j=>.ok (.cl (.int (if j>i then j else i)))
  | _,_=>.bad
 | _=>.bad
def biD(b:Bi)(xs:List Vl):R Vl:=match xs with
 | [x]=>aAv b x
 | [x,y]=>aJl b x y
 | _=>.bad
def aBI:List D->Option (List Str)
 | []=>some []
 | .str x::ds=>match aBI ds with
  | some r=>some (x::r)
  | none=>none
 | _=>none
def aJm:D->D->Bool
 | .int a,.int b=>a==b
 | .str a,.str b=>a==b
 | _,_=>false
def aJn:D->Bool
 | .int _=>true
 | .str _=>true
 | _=>false
def aFj(k:D):List (D×D)->Option D
 | []=>none
 | (a,d)::r=>if aJm a k then some d else aFj k r
def upC(n:Nat):Nat:=if 97<=n/\n<=122 then n-32 else n
def mtD(m:Mt)(x:Vl)(ys:List Vl):R Vl:=match m,x.d,ys with
 | .join,.str a,[y]=>match y.d with
  | .lst ds=>match aBI ds with
   | some xs=>.iff (decide ((xs.map (·.length)).sum+xs.length*a.length<=lim)) (.ok (.cl (.str (PySem.Str.join a xs))))
   | none=>.bad
  | _=>.bad
 | .get,.dic kvs,[y]=>.iff (aJn y.d) (match aFj y.d kvs with
  | some d=>.ok (x.sub d)
  | none=>.ok (.cl .non))
 | .upper,.str a,[]=>.iff (a.cps.all (·<128)) (.ok (.cl (.str ⟨a.cps.map upC⟩)))
 | _,_,_=>.bad
def bR(vs:List Vl):List Nat:=vs.flatMap (·.al)
def aQ(vs:List Vl):Bool:=vs.any (·.pa)
def pY(vs:List Vl):Vl:=⟨.tup (vs.map (·.d)),false,aQ vs,bR vs⟩
def nQ(vs:List Vl):Vl:=⟨.lst (vs.map (·.d)),true,aQ vs,bR vs⟩
def eS(args:List Vl)(r:Rt):Vl:=if r.2.2 then ⟨r.1,r.2.1,aQ args,bR args⟩ else ⟨r.1,r.2.1,false,[]⟩
def nR:List D->Option (List Nat)
 | []=>some []
 | .int i::ds=>if 0<=i/\i<=3 then (match nR ds with|some r=>some (i.toNat::r)|none=>none) else none
 | _=>none
def bM(ns:List Nat):List Nat:=(List.range 4).filter λk=>decide (k∈ns)
def cD(a b:Int):List D:=(List.range (b-a).toNat).map λ(k:Nat)=>.int (a+(k:Int))
def iM:Int->List D->List D
 | _,[]=>[]
 | k,d::ds=>.tup [.int k,d]::iM (k+1) ds
def jL:List D->List D->List D
 | a::as,b::bs=>.tup [a,b]::jL as bs
 | _,_=>[]
def bC(σ:Sg)(v:Vl):T->R Sg
 | .n i=>.ok (σ.set i v.slot)
 | .t is=>match v.d with
  | .tup ds=>if ds.length=is.length then .ok ((is.zip ds).foldl (λσ p=>σ.set p.1 (v.sub p.2).slot) σ) else .bad
  | _=>.bad
def dC(f:Vl->R (Option Vl)):List Vl->R (List Vl)
 | []=>.ok []
 | x::xs=>do
  let y<-f x
  let ys<-dC f xs
  match y with
  | some y=>.ok (y::ys)
  | none=>.ok ys
def cU{α:Type}(k:Nat)(xs:List α):List α:=(List.range ((xs.length+k-1) / k)).filterMap λm=>xs[m*k]?
def aDV(a b:Int)(c:Nat):List D:=(List.range (((b-a)+c-1) / c).toNat).map λ(k:Nat)=>.int (a+(k:Int)*c)
def iU:D->Option (List D)
 | .lst ds=>some ds
 | .tup ds=>some ds
 | _=>none
def items(x:Vl)(ds:List D):List Vl:=ds.map x.sub
def iN(k:Nat)(caps al:List Nat)(vs:List Vl):Vl:=
 if noLs (vs.map (·.d)) then ⟨.lst (vs.map (·.d)),true,false,[]⟩
 else ⟨.lst (vs.map (·.d)),true,aQ vs,al++(bR vs).filterMap λj=>caps[j-k]?⟩
def aFk(x y:Vl)(ds:List D):Vl:=if noLs ds then ⟨.lst ds,true,false,[]⟩ else ⟨.lst ds,true,x.pa||y.pa,x.al++y.al⟩
def pL(σ:Sg)(i:Nat):Option (List (List D)):=match σ[i]? with
 | some (.own2 dss)=>some dss
 | _=>none
def aBJ(σ:Sg):Bool:=σ.all λs=>match s with
 | .own2 _=>false
 | _=>true
def mrg(ks js:List Nat):List Nat:=js.foldl (λacc k=>if k∈acc then acc else acc++[k]) ks
def jM(ks:List Nat):List (D×D):=ks.map λ(k:Nat)=>(.int (k:Int),.bl true)
def eD:List (D×D)->Option (List Nat)
 | []=>some []
 | (.int k,.bl true)::r=>if 0<=k then (eD r).map (k.toNat::·) else none
 | _=>none
def mK(σ:Sg)(i:Nat):Option (List Nat):=match σ[i]? with
 | some (.dct (.s ks))=>some ks
 | _=>none
def mL(σ:Sg)(i:Nat):Option (List (List Int×D)):=match σ[i]? with
 | some (.dct (.m kvs))=>some kvs
 | _=>none
def fY:D->Option (List Int)
 | .tup ds=>gH ds
 | _=>none
def eE(kvs:List (List Int×D))(k:List Int)(d:D):List (List Int×D):=if k∈kvs.map (·.1) then kvs.map λkv=>if kv.1=k then (kv.1,d) else kv else kvs++[(k,d)]
def nS(σ:Sg)(i k:Nat):R D:=match pL σ i with
 | some dss=>(match dss[k]? with
  | some ds=>.ok (.lst ds)
  | none=>.bad)
 | none=>.bad
def evQ(σ:Sg)(e:E)(r:R Vl):R D:=match e with
 | .o2 i k=>nS σ i k
 | _=>do let x<-r;.ok x.d
def aAw(r:Rt):R Vl:=.iff (!r.2.2) (.ok ⟨r.1,r.2.1,false,[]⟩)
section
variable (P:Pg) (cl:Caller)
mutual
def ev(σ:Sg):E->R Vl
 | .c d=>.ok (.cl d)
 | .v i=>cA σ i
 | .op o a b=>do let x<-ev σ a;let y<-ev σ b;opD o x y
 | .neg a=>do
  let x<-ev σ a
  match x.d with
  | .int i=>.ok (.cl (.int (-i)))
  | _=>.bad
 | .nt a=>do let x<-ev σ a;let k<-dN x;.ok (.cl (.bl (!k)))
 | .an a b=>do
  let x<-ev σ a
  match x.d with
  | .bl true=>ev σ b
  | .bl false=>.ok (.cl (.bl false))
  | _=>.bad
 | .orr a b=>do
  let x<-ev σ a
  match x.d with
  | .bl true=>.ok (.cl (.bl true))
  | .bl false=>ev σ b
  | _=>.bad
 | .ife t a b=>do
  let x<-tst σ t
  if x then ev σ a else ev σ b
 | .cmp o a b=>do
  let x<-ev σ a
  let y<-ev σ b
  match bG o x.d y.d with
  | some k=>.ok (.cl (.bl k))
  | none=>.bad
 | .cmp2 o o' a b c=>do
  let x<-ev σ a
  let y<-ev σ b
  match bG o x.d y.d with
  | some true=>do
   let z<-ev σ c
   match bG o' y.d z.d with
   | some k=>.ok (.cl (.bl k))
   | none=>.bad
  | some false=>.ok (.cl (.bl false))
  | none=>.bad
 | .idx a b=>do let x<-ev σ a;let y<-ev σ b;bT x y
 | .sli a lo hi=>do
  let x<-ev σ a
  let l<-evs σ lo
  let h<-evs σ hi
  match l,h with
  | [],[]=>eC x none none
  | [l],[]=>match l.d with
   | .int l=>.iff (aI l) (eC x (some l) none)
   | _=>.bad
  | [],[h]=>match h.d with
   | .int h=>.iff (aI h) (eC x none (some h))
   | _=>.bad
  | [l],[h]=>match l.d,h.d with
   | .int l,.int h=>.iff (aI l&&aI h) (eC x (some l) (some h))
   | _,_=>.bad
  | _,_=>.bad
 | .tup es=>do let vs<-evs σ es;.ok (pY vs)
 | .lst es=>do let vs<-evs σ es;.ok (nQ vs)
 | .dic ks vs=>do
  let ks<-evs σ ks
  let vs<-evs σ vs
  match (ks.map (λ(v:Vl)=>v.d):List D),(vs.map (λ(v:Vl)=>v.d):List D) with
  | [.int k],[.int v]=>.ok (.cl (.dic [(.int k,.int v)]))
  | [.int k],[.bl v]=>.ok (.cl (.dic [(.int k,.bl v)]))
  | _,_=>.bad
 | .call f es=>do
  let vs<-evs σ es
  let r<-cl f (vs.map (·.d))
  .ok (eS vs r)
 | .bi b es=>do let vs<-evs σ es;biD b vs
 | .mth m o es=>do let x<-ev σ o;let ys<-evs σ es;mtD m x ys
 | .isi a cs=>do
  let x<-ev σ a
  match isI cs P x.d with
  | some k=>.ok (.cl (.bl k))
  | none=>.bad
 | .attr a f=>do
  let x<-ev σ a
  match x.d with
  | .err _ fs=>match fs[f]? with
   | some d=>.ok (x.sub d)
   | none=>.bad
  | _=>.bad
 | .comp k caps t it cond elt=>do
  let xs<-walk σ it
  let vs<-dC (λx=>do
   let σ1<-bC (List.replicate k .dead++caps.map λi=>((freeze σ xs.2)[i]?).getD .dead) x t
   let k<-tsts σ1 cond
   if k then do let y<-ev σ1 elt;.ok (some y) else .ok none) xs.1
  .iff (decide (vs.length<=lim)) (.ok (iN k caps xs.2 vs))
 | .numset a=>do
  let x<-ev σ a
  match x.d with
  | .lst ds=>match rN ds with
   | some ks=>.iff (decide (ds.length<=1000)) (.ok (.cl (.int (aBH ks).length)))
   | none=>.bad
  | _=>.bad
 | .tget i a=>do
  let x<-ev σ a
  match x.d,P.tabs[i]? with
  | .str k,some t=>.ok (.cl ((t.lookup k).getD .non))
  | _,_=>.bad
 | .lzip a b=>do
  let x<-ev σ a
  let y<-ev σ b
  match iU x.d,iU y.d with
  | some as,some bs=>.iff (decide (as.length<=lim)) (.ok (aFk x y (jL as bs)))
  | _,_=>.bad
 | .lix i k=>do
  let y<-ev σ k
  match σ[i]? with
  | some (.lent ds)=>bT ⟨.lst ds,false,true,[]⟩ y
  | _=>.bad
 | .stp a k=>do
  let x<-ev σ a
  match x.d with
  | .lst ds=>.iff (decide (0<k)) (.ok ⟨.lst (cU k ds),true,x.pa&&!noLs ds,if noLs ds then [] else x.al⟩)
  | _=>.bad
 | .sset a=>do
  let x<-ev σ a
  match x.d with
  | .lst ds=>match nR ds with
   | some ns=>.ok ⟨.lst ((bM ns).map λ(k:Nat)=>.int (k:Int)),true,false,[]⟩
   | none=>.bad
  | _=>.bad
 | .callP f es=>do
  let ds<-evP σ es
  let r<-cl f ds
  aAw r
 | .o2 _ _=>.bad
 | .dgne _ _ _=>.bad
 | .srtD i=>match mK σ i with
  | some ks=>.iff (decide (∀k∈ks,k<4)) (.ok ⟨.lst ((bM ks).map λ(k:Nat)=>.int (k:Int)),true,false,[]⟩)
  | none=>.bad
def tst(σ:Sg):E->R Bool
 | .nt a=>do let x<-tst σ a;.ok (!x)
 | .an a b=>do
  let x<-tst σ a
  if x then tst σ b else .ok false
 | .orr a b=>do
  let x<-tst σ a
  if x then .ok true else tst σ b
 | .c d=>dN (.cl d)
 | .v i=>do let x<-cA σ i;dN x
 | .cmp o a b=>do
  let x<-ev σ a
  let y<-ev σ b
  match bG o x.d y.d with
  | some k=>.ok k
  | none=>.bad
 | .cmp2 o o' a b c=>do
  let x<-ev σ a
  let y<-ev σ b
  match bG o x.d y.d with
  | some true=>do
   let z<-ev σ c
   match bG o' y.d z.d with
   | some k=>.ok k
   | none=>.bad
  | some false=>.ok false
  | none=>.bad
 | .call f es=>do
  let vs<-evs σ es
  let r<-cl f (vs.map (·.d))
  dN (eS vs r)
 | .bi b es=>do let vs<-evs σ es;let x<-biD b vs;dN x
 | .mth m o es=>do let x<-ev σ o;let ys<-evs σ es;let z<-mtD m x ys;dN z
 | .idx a b=>do let x<-ev σ a;let y<-ev σ b;let z<-bT x y;dN z
 | .isi a cs=>do
  let x<-ev σ a
  match isI cs P x.d with
  | some k=>.ok k
  | none=>.bad
 | .callP f es=>do
  let ds<-evP σ es
  let r<-cl f ds
  let v<-aAw r
  dN v
 | .dgne i k a=>do
  let x<-ev σ k
  let y<-ev σ a
  match mL σ i,fY x.d with
  | some kvs,some is=>(match bG .NotEq ((kvs.lookup is).getD y.d) y.d with
   | some k=>.ok k
   | none=>.bad)
  | _,_=>.bad
 | _=>.bad
def evP(σ:Sg):Es->R (List D)
 | .nil=>.ok []
 | .cons e es=>do let d<-evQ σ e (ev σ e);let ds<-evP σ es;.ok (d::ds)
def evs(σ:Sg):Es->R (List Vl)
 | .nil=>.ok []
 | .cons e es=>do let x<-ev σ e;let xs<-evs σ es;.ok (x::xs)
def walk(σ:Sg):It->R (List Vl×List Nat)
 | .seq e=>do
  let x<-ev σ e
  match x.d with
  | .lst ds=>.ok (items x ds,x.al)
  | .tup ds=>.ok (items x ds,x.al)
  | .str a=>.iff (decide (a.length<=lim)) (.ok (a.cps.toList.map λn=>.cl (.str ⟨#[n]⟩),[]))
  | _=>.bad
 | .rng a b=>do
  let x<-ev σ a
  let y<-ev σ b
  match x.d,y.d with
  | .int i,.int j=>.iff (aI i&&aI j) (.ok ((cD i j).map .cl,[]))
  | _,_=>.bad
 | .zip a b=>do
  let x<-ev σ a
  let y<-ev σ b
  match iU x.d,iU y.d with
  | some as,some bs=>.ok (items ⟨.non,false,x.pa||y.pa,x.al++y.al⟩ (jL as bs),x.al++y.al)
  | _,_=>.bad
 | .enum a=>do
  let x<-ev σ a
  match iU x.d with
  | some as=>.ok (items x (iM 0 as),x.al)
  | none=>.bad
 | .rev a=>do
  let x<-ev σ a
  match iU x.d with
  | some as=>.ok (items x as.reverse,x.al)
  | none=>.bad
 | .rng3 a b c=>.iff (aI a&&aI b&&decide (0<c)&&decide (c<1000)) (.ok ((aDV a b c).map .cl,[]))
def tsts(σ:Sg):Es->R Bool
 | .nil=>.ok true
 | .cons e es=>do
  let x<-tst σ e
  if x then tsts σ es else .ok false
end
set_option genInjectivity true in
inductive O where
 | next (σ:Sg)|brk (σ:Sg)|cnt (σ:Sg)|ret (v:Vl)|exc (x:D) (σ:Sg)|bad
 deriving Inhabited
def O.from{α:Type}(σ:Sg)(x:R α)(f:α->O):O:=match x with
 | .ok a=>f a
 | .exc e=>.exc e σ
 | .bad=>.bad
def O.on(o:O)(f:Sg->O):O:=match o with
 | .next σ=>f σ
 | o=>o
def cN(f:Sg->Vl->O):List Vl->Sg->O
 | [],σ=>.next σ
 | x::xs,σ=>match f σ x with
  | .next σ'=>cN f xs σ'
  | .cnt σ'=>cN f xs σ'
  | .brk σ'=>.next σ'
  | o=>o
def aBK(t:Sg->R Bool)(f:Sg->O):Nat->Sg->O
 | 0,_=>.bad
 | n+1,σ=>O.from σ (t σ) λk=>if k then (match f σ with
     | .next σ'=>aBK t f n σ'
     | .cnt σ'=>aBK t f n σ'
     | .brk σ'=>.next σ'
     | o=>o) else .next σ
def aJo:Nat:=100000
def iO(σ:Sg)(i:Nat):Option (Bool×List D):=match σ[i]? with
 | some (.own pa ds)=>some (pa,ds)
 | _=>none
def put(σ:Sg)(i:Nat)(v:Vl)(f:List D->Option (List D)):O:=match iO (freeze σ v.al) i with
 | some (pa,ds)=>match f ds with
  | some ds'=>if ds'.length<=lim then .next ((freeze σ v.al).set i (.own (pa||v.pa) ds')) else .bad
  | none=>.bad
 | none=>.bad
def aFl(σ:Sg)(i:Nat)(v:Vl):O:=put σ i v λds=>some (ds++[v.d])
def nT(v:Vl):Option (Vl×List D):=match v.fr,v.d with
 | true,.lst ds=>some (⟨.non,false,v.pa&&!noLs ds,if noLs ds then [] else v.al⟩,ds)
 | _,_=>none
def aBL(σ:Sg)(i:Nat)(k:Option Int):R (Vl×Sg):=match iO σ i with
 | some (pa,ds)=>match (match k with|none=>ixN ds.length (-1)|some k=>ixN ds.length k) with
  | some j=>match ds[j]? with
   | some d=>.ok (Vl.sub ⟨.non,false,pa,[]⟩ d,σ.set i (.own pa (ds.eraseIdx j)))
   | none=>.bad
  | none=>.bad
 | none=>.bad
def wZ(e:Sg->E->R Vl):Sg->List Vl->List Arg->R (List Vl×Sg)
 | σ,acc,[]=>.ok (acc,σ)
 | σ,acc,.e a::as=>do let x<-e σ a;wZ e σ (acc++[x]) as
 | σ,acc,.pop j::as=>do
  let (x,σ')<-aBL σ j none
  if (bR acc).contains j then .bad else wZ e σ' (acc++[x]) as
def aJp(e:Option (R Vl)):R (Option Int):=match e with
 | none=>.ok none
 | some x=>do
  let v<-x
  match v.d with
  | .int k=>.iff (aI k) (.ok (some k))
  | _=>.bad
def Vl.nr(v:Vl):Vl:=⟨v.d,false,v.pa,[]⟩
def cE(σ:Sg)(l:Nat):Option (Bool×List D):=match σ[l]? with
 | some (.own pa ds)=>some (pa,ds)
 | some (.lent ds)=>some (true,ds)
 | _=>none
def dD(σ:Sg)(l:Nat)(pa:Bool)(ds:List D):Sg:=match σ[l]? with
 | some (.own _ _)=>σ.set l (.own pa ds)
 | some (.lent _)=>σ.set l (.lent ds)
 | _=>σ
def pZ:Ss->Bool
 | .cons .lend _=>true
 | _=>false
def lR(P:Pg)(f:Nat):Bool:=match P.fns[f]? with
 | some F=>pZ F.body
 | none=>false
def aBM:D->Option (D×List D)
 | .tup [d,.err 0 cs]=>some (d,cs)
 | _=>none
def noAl(v:Vl)(σ:Sg):R (Vl×Sg):=if v.al.isEmpty then .ok (v,σ) else .bad
def fF(σ:Sg)(l:Nat)(pa:Bool)(vs:List Vl)(q:Rt):R (Vl×Sg):=match aBM q.1 with
 | some (d,cs)=>.ok (⟨d,q.2.1,q.2.2&&(pa||aQ vs),[]⟩,dD σ l (pa||aQ vs) cs)
 | none=>.bad
def fG(f:Sg->Vl->R (Vl×Sg)):List Vl->Sg->R (List Vl×Sg)
 | [],σ=>.ok ([],σ)
 | x::xs,σ=>do
  let y<-f σ x
  let r<-fG f xs y.2
  .ok (y.1::r.1,r.2)
def chB(k:Nat)(caps:List Nat)(σ:Sg):Sg:=List.replicate k .dead++caps.map λi=>(σ[i]?).getD .dead
mutual
def evl(l:Nat)(σ:Sg):EL->R (Vl×Sg)
 | .e a=>do let x<-ev P cl σ a;noAl x σ
 | .op o a b=>do
  let x<-evl l σ a
  let y<-evl l x.2 b
  let z<-opD o x.1.nr y.1.nr
  noAl z y.2
 | .idx a b=>do
  let x<-evl l σ a
  let y<-evl l x.2 b
  let z<-bT x.1.nr y.1.nr
  noAl z y.2
 | .tup es=>do let r<-evls' l σ es;.ok (⟨.tup (r.1.map (·.d)),false,aQ r.1,[]⟩,r.2)
 | .call f es=>R.iff ((cE σ l).isSome&&lR P f) do
  let r<-evls' l σ es
  match cE r.2 l with
  | some (pa,cs)=>do
   let q<-cl f (.err 0 cs::r.1.map (·.d))
   fF r.2 l pa r.1 q
  | none=>.bad
 | .lst es=>do let r<-evls' l σ es;.ok (⟨.lst (r.1.map (·.d)),true,aQ r.1,[]⟩,r.2)
 | .cmp o a b=>do
  let x<-evl l σ a
  let y<-evl l x.2 b
  match bG o x.1.d y.1.d with
  | some k=>.ok (.cl (.bl k),y.2)
  | none=>.bad
 | .int a=>do
  let x<-evl l σ a
  let z<-biD .int [x.1.nr]
  noAl z x.2
 | .comp k caps t n l' elt=>do
  let r<-evl l σ n
  match r.1.d with
  | .int j=>.iff (aI j) do
   let q<-fG (λσ x=>do
    let σ1<-bC (chB k caps σ) x t
    let y<-evl l' σ1 elt
    match cE σ l,cE y.2 l' with
    | some _,some (pa,cs)=>.ok (y.1,dD σ l pa cs)
    | _,_=>.bad) ((cD 0 j).map .cl) r.2
   .iff (decide (q.1.length<=lim)) (.ok (⟨.lst (q.1.map (·.d)),true,aQ q.1,[]⟩,q.2))
  | _=>.bad
def evls'(l:Nat)(σ:Sg):ELs->R (List Vl×Sg)
 | .nil=>.ok ([],σ)
 | .cons e es=>do
  let x<-evl l σ e
  let r<-evls' l x.2 es
  .ok (x.1::r.1,r.2)
end
def lT(v:Vl)(σ:Sg):O:=match σ[(0:Nat)]? with
 | some (.lent cs)=>.ret ⟨.tup [v.d,.err 0 cs],v.fr,v.pa,[]⟩
 | _=>.bad
mutual
def ex(σ:Sg):S->O
 | .set t e=>O.from σ (ev P cl σ e) λv=>O.from σ (bC (freeze σ v.al) v t) .next
 | .mov i j=>match σ[j]? with
  | some (.own pa ds)=>if i=j then .bad else .next ((σ.set j .dead).set i (.own pa ds))
  | some (.sh pa d)=>.next (σ.set i (.sh (pa&&!noL d) d))
  | _=>.bad
 | .setIx i k e=>O.from σ (ev P cl σ e) λv=>O.from σ (ev P cl σ k) λkv=>match kv.d with
  | .int k=>put σ i v λds=>match ixN ds.length k with
   | some j=>some (ds.set j v.d)
   | none=>none
  | _=>.bad
 | .app i e=>O.from σ (ev P cl σ e) λv=>aFl σ i v
 | .ext i e=>O.from σ (ev P cl σ e) λv=>match nT v with
  | some (v',ds')=>put σ i v' λds=>some (ds++ds')
  | none=>.bad
 | .pop t i k=>O.from σ (aJp (k.map λe=>ev P cl σ e)) λk=>O.from σ (aBL σ i k) λ(v,σ')=>match t with
  | none=>.next σ'
  | some t=>O.from σ' (bC σ' v t) .next
 | .clr i=>put σ i (.cl .non) λ_=>some []
 | .ins i k e=>O.from σ (ev P cl σ k) λkv=>O.from σ (ev P cl σ e) λv=>match kv.d with
  | .int k=>if 0<=k/\k<1000000 then put σ i v λds=>some (ds.take k.toNat++v.d::ds.drop k.toNat) else .bad
  | _=>.bad
 | .rev i=>put σ i (.cl .non) λds=>some ds.reverse
 | .appCall i f as=>O.from σ (wZ (λσ a=>ev P cl σ a) σ [] as) λ(vs,σ')=>O.from σ' (cl f (vs.map (·.d))) λr=>aFl σ' i (eS vs r)
 | .ret e=>O.from σ (ev P cl σ e) .ret
 | .retv i=>match σ[i]? with
  | some (.own pa ds)=>.ret ⟨.lst ds,true,pa,[]⟩
  | some (.dct (.s ks))=>.ret (.cl (.dic (jM ks)))
  | _=>O.from σ (cA σ i) .ret
 | .retN=>.ret (.cl .non)
 | .iff c a b=>O.from σ (tst P cl σ c) λk=>if k then exs σ a else exs σ b
 | .for t it b=>O.from σ (walk P cl σ it) λxs=>cN (λσ x=>O.from σ (bC σ x t) λσ'=>exs σ' b) xs.1 (freeze σ xs.2)
 | .whl c b=>aBK (λσ=>tst P cl σ c) (λσ=>exs σ b) aJo σ
 | .brk=>.brk σ
 | .cnt=>.cnt σ
 | .pass=>.next σ
 | .ex e=>O.from σ (ev P cl σ e) λ_=>.next σ
 | .rse c keep es=>O.from σ (evs P cl σ es) λvs=>.exc (.err c (if keep then vs.map (·.d) else [])) σ
 | .try b hs=>match exs σ b with
  | .exc x σ'=>hdl σ' x hs
  | o=>o
 | .lend=>match σ[(0:Nat)]? with
  | some (.sh true (.err 0 cs))=>.next (σ.set 0 (.lent cs))
  | _=>.bad
 | .tryN b=>exs σ b
 | .set2 i a b=>O.from σ (ev P cl σ a) λx=>O.from σ (ev P cl σ b) λy=>match x.fr,x.d,y.fr,y.d with
  | true,.lst ds,true,.lst es=>if noLs ds&&noLs es&&aBJ (σ.set i .dead) then .next (σ.set i (.own2 [ds,es])) else .bad
  | _,_,_,_=>.bad
 | .app2 i k e=>O.from σ (ev P cl σ e) λv=>match pL σ i with
  | some dss=>(match dss[k]? with
   | some ds=>if noL v.d&&decide (ds.length<lim) then .next (σ.set i (.own2 (dss.set k (ds++[v.d])))) else .bad
   | none=>.bad)
  | none=>.bad
 | .dnew i m=>.next (σ.set i (.dct (if m then .m [] else .s [])))
 | .dset i f es=>O.from σ (evs P cl σ es) λvs=>O.from σ (cl f (vs.map (·.d))) λr=>match r with
  | (.dic kvs,false,false)=>(match eD kvs with
   | some ks=>.next (σ.set i (.dct (.s ks)))
   | none=>.bad)
  | _=>.bad
 | .dupd i e=>O.from σ (ev P cl σ e) λv=>match v.d with
  | .dic kvs=>(match mK σ i,eD kvs with
   | some ks,some js=>if v.al.isEmpty&&decide (ks.length+js.length<=1000) then .next (σ.set i (.dct (.s (mrg ks js)))) else .bad
   | _,_=>.bad)
  | _=>.bad
 | .dput i k a=>O.from σ (ev P cl σ a) λv=>O.from σ (ev P cl σ k) λx=>match mL (freeze σ v.al) i,fY x.d with
  | some kvs,some is=>if kvs.length<=1000 then .next ((freeze σ v.al).set i (.dct (.m (eE kvs is v.d)))) else .bad
  | _,_=>.bad
 | .lset i k e=>O.from σ (ev P cl σ e) λv=>O.from σ (ev P cl σ k) λkv=>match σ[i]?,kv.d with
  | some (.lent ds),.int k=>match ixN ds.length k with
   | some j=>if noL v.d then .next (σ.set i (.lent (ds.set j v.d))) else .bad
   | none=>.bad
  | _,_=>.bad
 | .setL i l fz e=>O.from σ (evl P cl l (freeze σ fz) e) λr=>.next (r.2.set i r.1.slot)
 | .appL i l e=>if (iO σ i).isSome then O.from σ (evl P cl l σ e) λr=>put r.2 i r.1.nr λds=>some (ds++[r.1.d]) else .bad
 | .retL e=>O.from σ (evl P cl 0 σ e) λr=>lT r.1 r.2
 | .retvL i=>match σ[i]? with
  | some (.own pa ds)=>lT ⟨.lst ds,true,pa,[]⟩ σ
  | _=>.bad
 | .iffL o a b x y=>O.from σ (evl P cl 0 σ a) λr=>O.from r.2 (ev P cl r.2 b) λz=>match bG o r.1.d z.d with
  | some k=>if k then exs r.2 x else exs r.2 y
  | none=>.bad
 | .forL t e b=>O.from σ (evl P cl 0 σ e) λr=>match r.1.d with
  | .int j=>if aI j then cN (λσ x=>O.from σ (bC σ x t) λσ'=>exs σ' b) ((cD 0 j).map .cl) r.2 else .bad
  | _=>.bad
def exs(σ:Sg):Ss->O
 | .nil=>.next σ
 | .cons s ss=>(ex σ s).on λσ'=>exs σ' ss
def hdl(σ:Sg)(x:D):Hs->O
 | .nil=>.exc x σ
 | .cons cs n b hs=>match isI cs P x with
  | some true=>match n with
   | none=>exs σ b
   | some i=>match exs (σ.set i (.sh true x)) b with
    | .next σ'=>.next (σ'.set i .dead)
    | .brk σ'=>.brk (σ'.set i .dead)
    | .cnt σ'=>.cnt (σ'.set i .dead)
    | .exc x σ'=>.exc x (σ'.set i .dead)
    | o=>o
  | some false=>hdl σ x hs
  | none=>.bad
end
def mM(f:Nat)(ds:List D):R Rt:=match P.fns[f]? with
 | none=>.bad
 | some F=>if ds.length=F.np then
  match exs P cl ((ds.map λd=>Sl.sh true d)++List.replicate (F.ns-F.np) Sl.dead) F.body with
  | .ret v=>.ok (v.d,v.fr,v.pa)
  | .next _=>.ok (.non,false,false)
  | .exc x _=>.exc x
  | _=>.bad
  else .bad
end
def call(P:Pg):Nat->Caller
 | 0=>λ_ _=>.bad
 | n+1=>mM P (call P n)
end Hp
end
noncomputable section
namespace L2
open PySem PySem.Spec PyProof.Rows
open Hp (mrg)
def kT(ks:List Nat):List (Key×V):=ks.map λ(k:Nat)=>(.inl (k:Int),V.bl true)
def kU(ks:List Nat):List (Key×Value):=ks.map λ(k:Nat)=>(.inl (k:Int),Value.bool true)
theorem aJq:∀{ks:List Nat} {vs:List (Key×Value)},KV (kT ks) vs->vs=kU ks
 | [],vs,h=>by cases h;rfl
 | k::ks,vs,h=>by
  have h:KV ((.inl (k:Int),V.bl true)::kT ks) vs:=h
  cases h with
  | cons h1 h2=>
   rename_i q r
   obtain⟨a,b⟩:=q
   obtain⟨e1,e2⟩:=h1
   have e1:(Sum.inl (k:Int):Key)=a:=e1
   have e2:b=Value.bool true:=e2
   rw[aJq h2,<-e1,e2]
   rfl
theorem aJr:∀ks:List Nat,KV (kT ks) (kU ks)
 | []=>.nil
 | k::ks=>.cons ⟨rfl,rfl⟩ (aJr ks)
theorem aFm(k:Nat):∀acc:List Nat,((kU acc).any λkv=>decide (kv.1=(.inl (k:Int):Key)))=decide (k∈acc)
 | []=>rfl
 | a::acc=>by
  show(decide ((Sum.inl (a:Int):Key)=.inl (k:Int))||(kU acc).any _)=_
  rw[aFm k acc]
  by_cases h:a=k
  . subst h;simp
  . rw[Aw (λz=>h (by injection z with z;omega))]
    simp only[Bool.false_or,Al,show ¬ k=a from λz=>h z.symm,false_or]
theorem aBN(acc:List Nat)(k:Nat):stored (kU acc) (.inl (k:Int):Key) (Value.bool true)=kU (if k∈acc then acc else acc++[k]):=by
 unfold stored
 rw[aFm]
 by_cases h:k∈acc
 . rw[if_pos (Au h),if_pos h]
   have:∀acc:List Nat,(kU acc).map (λkv=>if kv.1=(.inl (k:Int):Key) then (kv.1,Value.bool true) else kv)=kU acc:=λacc=>by
    induction acc with
    | nil=>rfl
    | cons a acc ih=>
     show(if (Sum.inl (a:Int):Key)=.inl (k:Int) then (Sum.inl (a:Int),Value.bool true) else (Sum.inl (a:Int),Value.bool true))::_=_
     rw[ite_self]
     exact congrArg ((Sum.inl (a:Int),Value.bool true)::·) ih
   exact this acc
 . rw[if_neg (by rw[Aw h];exact bN),if_neg h]
   unfold kU
   rw[Cc]
   rfl
theorem uA:∀(js acc:List Nat),merged (kU acc) (kU js)=kU (mrg acc js)
 | [],acc=>rfl
 | k::js,acc=>by
  show merged (stored (kU acc) (.inl (k:Int)) (Value.bool true)) (kU js)=kU (mrg (if k∈acc then acc else acc++[k]) js)
  rw[aBN,uA js]
theorem yN:∀(js acc:List Nat),(mrg acc js).length<=acc.length+js.length
 | [],acc=>Ag _
 | k::js,acc=>by
  have:=yN js (if k∈acc then acc else acc++[k])
  show(mrg (if k∈acc then acc else acc++[k]) js).length<=_
  rw[lC]
  by_cases h:k∈acc
  . rw[if_pos h] at this ⊢;omega
  . rw[if_neg h] at this ⊢
    rw[lA,Bq] at this
    omega
section
variable {X:Cx} {pins:List (Addr×Obj)} {σ:St} {H:Hp} {s:Shared}
theorem aMd(I:Inv X pins σ H s):sysModules<s.heap.objs.size:=by
 have h:mainGlobals<s.heap.objs.size:=(I.ok.mod.glob.keeps I.bk).lt
 exact Nat.lt_trans (by decide) h
def aJs:TE:=λ_ H Q=>∀p,H p=none->Q (.ref p) (upd H p (.dK (kT [])))
theorem aDW{pos:Pos}:PE X (.Dict [] [] pos) aJs:=λpins s σ H Q I h=>
 wpAny_Dict_empty ⟨.ref s.heap.objs.size,_,I.laid (a:=s.heap.objs.size) (o:=.dK (kT [])) (t':=s.toks) (λ_ _ q=>Ab _ q) (Ag _)
  ⟨Bj _,A1.mpr (Ne.symm (Ao (aMd I))),[],.nil,Heap.DictOf.new s.heap⟩,rfl,h _ (I.hok.fresh (Ag _))⟩
theorem yO(I:Inv X pins σ H s){a:Addr}{ks:List Nat}(e:H a=some (.dK (kT ks))):(a==sysModules)=false/\s.heap.DictOf (bS X.prog X.w) a (kU ks):=by
 obtain⟨_,h2,vs,h3,h4⟩:=(show dA X.prog X.w H s.heap a (.dK (kT ks)) from I.hok a _ e)
 rw[aJq h3] at h4
 exact⟨h2,h4⟩
def aFn(a:Addr)(ks:List Nat)(vs:List V)(H:Hp)(Q:VK):Prop:=∃(c:Addr) (js:List Nat),vs=[.ref c]/\a≠c/\H a=some (.dK (kT ks))/\H c=some (.dK (kT js))/\ks.length+js.length<=1000/\Q .non (upd H a (.dK (kT (mrg ks js))))
theorem aAx{a:Addr}{ks:List Nat}{vs:List V}{us:List Value}{Q:VK}(I:Inv X pins σ H s)(r:aM vs us)(h:aFn a ks vs H Q) :
 wpAny (model X.prog X.w) X.A (call (.builtin "dict.update") (.ref a::us)) (EP X pins σ Q) X.xe s:=by
 obtain⟨c,js,rfl,ne,e,e2,hl,q⟩:=h
 cases r with
 | cons r1 r2=>
  cases r2
  cases r1
  obtain⟨g1,g2⟩:=yO I e
  obtain⟨g3,g4⟩:=yO I e2
  have z1:(kU ks).length+(kU js).length<=sizeLine:=by
   unfold kU
   rw[lM,lM,Be]
   omega
  have z2:(kT (mrg ks js)).length<=sizeLine:=by
   unfold kT
   rw[lM,Be]
   have:=yN js ks
   omega
  refine call_meetsIn PySem.F.slot_dict_update g2.typeIs PySem.F.entry_dict_update (PySem.F.args_dict_update_2 _ _) (meets_dict_update (bS X.prog X.w) a c ne g3) ⟨kU ks,kU js,g2,g4,z1,λh' d1 _ sb=>?_⟩
  rw[uA] at d1
  have I':Inv X pins σ (upd H a (.dK (kT (mrg ks js)))) { s with heap:=h',toks:=s.toks }:=I.write (x:=a) (e:=a) (o:=.dK (kT (mrg ks js))) (by rw[e];exact True.intro) (.inl rfl) (λb u hb z=>(sb.2 b hb).trans z) (let ⟨o,_,_,ho,_⟩:=d1;⟨o,ho⟩) ⟨z2,g1,kU (mrg ks js),aJr _,d1⟩
  exact⟨.non,_,I',rfl,q⟩
variable {o e:Expr} {es:List Expr} {to:TE} {t:TA} {apos cpos:Pos}
theorem aDX(ho:PE X o to)(ha:PA X (e::es) t)
 (hbase:attributeBase o "update" X.env (eval o X.env)=eval o X.env)
 (hfew:((backTo cpos (starEach (e::es) X.env)).all (λx=>!x.1)&&(backToKw cpos (keywordEach [] X.env)).all (λx=>x.1.isSome)
  && decide ((e::es).length+([]:List Keyword).length+(if ([]:List Keyword).isEmpty then 0 else 1)<30))=true)
 (hline:(apos.endLine==cpos.line)=true) (hs:starEach (e::es) X.env=(false,eval e X.env)::starEach es X.env) (hplain:(backTo cpos (starEach es X.env)).any (·.1)=false) :
 PE X (.Call (.Attribute o "update" apos) (e::es) [] cpos) (λσ H Q=>to σ H λx H1=>∃a ks,x=.ref a/\H1 a=some (.dK (kT ks))/\t σ H1 λvs H2=>aFn a ks vs H2 Q):=by
 intro pins s σ H Q I h
 refine Dc hbase hfew hline rfl (thn (ho pins s σ H _ I h) λv s1 ⟨x,H1,I1,r1,a,ks,e1,e2,q1⟩=>?_)
 subst e1
 obtain rfl:v=Value.ref a:=r1
 obtain⟨g1,g3⟩:=yO I1 e2
 refine⟨"dict", "dict.update",Eb,PySem.F.slot_dict_update,PySem.F.type_dict_update,g3.typeIs,λb q=>?_,?_⟩
 . cases q
   obtain⟨ob,_,_,h1,h2,_⟩:=g3
   exact⟨ob,h1,h2.2.1⟩
 have hA:=ha cpos pins s1 σ H1 _ I1 q1
 rw[hs] at hA ⊢
 refine Dd (by show(false||(backTo cpos (starEach es X.env)).any (·.1))=false;rw[hplain] <;> rfl) (Dl ?_)
 exact thn hA λus s2 ⟨vs,H2,I2,r2,q2⟩=>aAx I2 r2 q2
end
end L2
end
noncomputable section
namespace L2
open PySem PySem.Spec PyProof.Rows
abbrev TKV:=List (List Int×Addr×Value)
def aMe(k:List Int):Int:=reduceHash (Builtin.Tuple.tupleHashOf (k.map hashInt))
def aGp(a:Addr)(xs:TKV)(h:Heap):Prop:=
 (a==sysModules)=false/\xs.length<=sizeLine/\∃o es ep,h.get? a=some o/\o.ExactDict/\o.data=.dict es ep/\es.toList=xs.map (λx=>⟨aMe x.1,.ref x.2.1,x.2.2⟩)/\(xs.map (·.1)).Nodup
abbrev fZ(a:Addr)(xs:TKV):HO:=.ext (aGp a xs)
theorem yP{a:Addr}{xs:TKV}:∀h1 h2:Heap,aGp a xs h1->(∀o,h1.get? a=some o->h2.get? a=some o)->aGp a xs h2:=by
 rintro h1 h2 ⟨z1,z2,o',es',ep',z3,z4⟩ kk
 exact⟨z1,z2,o',es',ep',kk _ z3,z4⟩
section
variable {prog:Program} {w:World} {K:Type} [DecidableEq K] {knd:HeapKind prog w K} {A:Around} {E:Value->Shared->Prop} {s:Shared} {d a:Addr} {k:K} {xs:List (K×Addr×Value)}
end
section
variable {X:Cx} {pins:List (Addr×Obj)} {σ:St} {H:Hp} {s:Shared}
theorem aAy{is:List Int}:∀{us:List Value},aM (is.map V.int) us->ItemsAre (intKind X.prog X.w) is us:=by
 induction is with
 | nil=>intro us h;rw[mN] at h;cases h;exact .nil
 | cons i is ih=>
  intro us h
  rw[mC] at h
  cases h with
  | cons r t=>
   obtain⟨tk,e⟩:∃t,_=Value.int i t:=r
   subst e
   exact .cons (intKind_is _ _ i tk) (ih t)
theorem rO(I:Inv X pins σ H s){c:Addr}{is:List Int}(h:SqT X.K H c (is.map V.int)):IsTupleKey (intKind X.prog X.w) s.heap is c:=by
 obtain⟨its,rv,⟨o,ho,hc,n,hd⟩,_⟩:=I.tuple h
 exact⟨o,its.toArray,n,ho,hc,hd,by simpa using aAy rv⟩
theorem nU(I:Inv X pins σ H s){a:Addr}{xs:TKV}(e:H a=some (fZ a xs))(hk:∀x∈xs,SqT X.K H x.2.1 (x.1.map V.int)):(a==sysModules)=false/\xs.length<=sizeLine/\s.heap.DictOfH (tupleKind (intKind X.prog X.w)) a xs:=by
 obtain⟨⟨h1,h2,o,es,ep,h3,h4,h5,h6,h7⟩,_⟩:=(show dA X.prog X.w H s.heap a (fZ a xs) from I.hok a _ e)
 exact⟨h1,h2,o,es,ep,h3,h4,h5,h6,λx hx=>rO I (hk x hx),h7⟩
theorem InvT.big(I:Inv X pins σ H s):sysModules<s.heap.objs.size:=by
 have h:mainGlobals<s.heap.objs.size:=(I.ok.mod.glob.keeps I.bk).lt
 exact Nat.lt_trans (by decide) h
def aJt:TE:=λ_ H Q=>∀p,H p=none->Q (.ref p) (upd H p (fZ p []))
theorem aDY{pos:Pos}:PE X (.Dict [] [] pos) aJt:=λpins s σ H Q I h=>
 wpAny_Dict_empty ⟨.ref s.heap.objs.size,_,I.laid (a:=s.heap.objs.size) (o:=fZ s.heap.objs.size []) (t':=s.toks) (λ_ _ q=>Ab _ q) (Ag _)
  ⟨⟨A1.mpr (Ne.symm (Ao (InvT.big I))),Bj _,_,#[],0,Ah _ rfl,⟨rfl,rfl,rfl⟩,rfl,rfl,List.nodup_nil⟩,⟨_,Ah _ rfl⟩,yP⟩,rfl,h _ (I.hok.fresh (Ag _))⟩
variable {o e:Expr} {es:List Expr} {to:TE} {t:TA} {apos cpos:Pos}
end
section
variable {X:Cx} {pins:List (Addr×Obj)} {σ:St} {H:Hp} {s:Shared}
def aFo(K:PySem.W.Frag)(a:Addr)(xs:TKV)(vs:List V)(H:Hp)(Q:VK):Prop:=∃(b:Addr) (k:List Int) (v:V),vs=[.ref b,v]/\H a=some (fZ a xs)/\(∀x∈xs,SqT K H x.2.1 (x.1.map V.int))/\SqT K H b (k.map V.int) /\
 (∀p,atKey xs k=some p->∃v',aW v' p.2/\Q v' H)/\(atKey xs k=none->Q v H)
theorem aAz{a:Addr}{xs:TKV}{vs:List V}{us:List Value}{Q:VK}(hu:X.A.units+100<cLine)(I:Inv X pins σ H s)(r:aM vs us)(h:aFo X.K a xs vs H Q) :
 wpAny (model X.prog X.w) X.A (call (.builtin "dict.get") (.ref a::us)) (EP X pins σ Q) X.xe s:=by
 obtain⟨b,k,v,rfl,e,hk,kb,h1,h2⟩:=h
 cases r with
 | cons r1 r2=>
  cases r2 with
  | cons r2 r3=>
   cases r3
   cases r1
   rename_i u
   obtain⟨g1,g2,g3⟩:=nU I e hk
   refine call_meetsIn Dg g3.typeIs PySem.F.entry_dict_get (PySem.F.args_dict_get_3 _ _ _) (meetsH_dict_get_default (tupleKind (intKind X.prog X.w)) a b g1 u) ⟨show X.A.in1.units<cLine by show X.A.units+1<cLine;omega,k,xs,rO I kb,g3,?_⟩
   cases q:atKey xs k with
   | none=>exact⟨v,H,I.tok _,r2,h2 q⟩
   | some p=>
    obtain⟨v',rv,q⟩:=h1 p q
    exact⟨v',H,I.tok _,rv,q⟩
variable {o e:Expr} {es:List Expr} {to:TE} {t:TA} {apos cpos:Pos}
theorem aDZ(hu:X.A.units+100<cLine)(ho:PE X o to)(ha:PA X (e::es) t)
 (hbase:attributeBase o "get" X.env (eval o X.env)=eval o X.env)
 (hfew:((backTo cpos (starEach (e::es) X.env)).all (λx=>!x.1)&&(backToKw cpos (keywordEach [] X.env)).all (λx=>x.1.isSome)
  && decide ((e::es).length+([]:List Keyword).length+(if ([]:List Keyword).isEmpty then 0 else 1)<30))=true)
 (hline:(apos.endLine==cpos.line)=true) (hs:starEach (e::es) X.env=(false,eval e X.env)::starEach es X.env) (hplain:(backTo cpos (starEach es X.env)).any (·.1)=false) :
 PE X (.Call (.Attribute o "get" apos) (e::es) [] cpos) (λσ H Q=>to σ H λx H1=>∃a xs,x=.ref a/\H1 a=some (fZ a xs)/\(∀x∈xs,SqT X.K H1 x.2.1 (x.1.map V.int))/\t σ H1 λvs H2=>aFo X.K a xs vs H2 Q):=by
 intro pins s σ H Q I h
 refine Dc hbase hfew hline rfl (thn (ho pins s σ H _ I h) λv s1 ⟨x,H1,I1,r1,a,xs,e1,e2,e3,q1⟩=>?_)
 subst e1
 obtain rfl:v=Value.ref a:=r1
 obtain⟨g1,g2,g3⟩:=nU I1 e2 e3
 refine⟨"dict", "dict.get",Eb,Dg,PySem.F.type_dict_get,g3.typeIs,λb q=>?_,?_⟩
 . cases q
   obtain⟨ob,_,_,h1,h2,_⟩:=g3
   exact⟨ob,h1,h2.2.1⟩
 have hA:=ha cpos pins s1 σ H1 _ I1 q1
 rw[hs] at hA ⊢
 refine Dd (by show(false||(backTo cpos (starEach es X.env)).any (·.1))=false;rw[hplain] <;> rfl) (Dl ?_)
 exact thn hA λus s2 ⟨vs,H2,I2,r2,q2⟩=>aAz hu I2 r2 q2
def aJu(K:PySem.W.Frag):V->V->V->Hp->(Hp->Prop)->Prop:=λo i v H Q=>∃(a b:Addr) (xs:TKV) (k:List Int),o=.ref a/\i=.ref b/\H a=some (fZ a xs)/\(∀x∈xs,SqT K H x.2.1 (x.1.map V.int))/\SqT K H b (k.map V.int)/\xs.length<sizeLine /\
 ∀u,aW v u->Q (upd H a (fZ a (storedH xs k b u)))
theorem aGq(hu:X.A.units+100<cLine):aFX X (aJu X.K):=by
 intro pins s σ H o i v ov iv u Q I ro ri rv h
 obtain⟨a,b,xs,k,rfl,rfl,e,hk,kb,hl,h⟩:=h
 cases ro
 cases ri
 obtain⟨g1,g2,g3⟩:=nU I e hk
 refine wpAny_setItem_heap (knd:=tupleKind (intKind X.prog X.w)) (show X.A.in1.units<cLine by show X.A.units+1<cLine;omega) (rO I kb) g3 (λh' hm hs=>?_) g2
 obtain⟨ob,es,ep,j1,j2,j3,j4,_,j6⟩:=hm
 refine⟨_,I.write (x:=a) (e:=a) (o:=fZ a (storedH xs k b u)) (by rw[e];exact True.intro) (.inl rfl) (λc q hc z=>(hs.2 c hc).trans z) ⟨ob,j1⟩ ⟨⟨g1,?_,ob,es,ep,j1,j2,j3,j4,j6⟩,⟨ob,j1⟩,yP⟩,h u rv⟩
 unfold storedH
 split
 . rw[lM];exact g2
 . rw[lA];show xs.length+1<=_;omega
end
end L2
end
noncomputable section
namespace Hp
open PySem
structure Ct where
 N:List Str
 sc:List (Str×NameKind)
 fns:List Str
 cns:List (Str×D)
 cls:List Str
 fn:Bool
 tbs:List Str
def aBO(Γ:Ct)(x:Str):Bool:=match Γ.sc.lookup x with
 | some .local=>true
 | some .cell=>true
 | some .free=>true
 | _=>false
def uB(Γ:Ct)(x:Str):Bool:=match Γ.sc.lookup x with
 | some .local=>true
 | some .cell=>Γ.fn
 | _=>false
def jN(sc names:List (Str×NameKind)):List (Str×NameKind):=names.map λ(n,k)=>if (k==.free&&sc.lookup n==some .cell) then (n,.cell) else (n,k)
def nV:Expr->Bool
 | .Tuple _ _ _=>true
 | _=>false
def tIx:T->List Nat
 | .n i=>[i]
 | .t is=>is
def bL(Γ:Ct)(x:Str):Bool:=match Γ.sc.lookup x with
 | some .globalImplicit=>true
 | _=>false
def bD(x:Str):Bool:=!(x==("__debug__" : Str))&&!(x==("__classdict__" : Str))
def aP(Γ:Ct)(i:Nat)(x:Str):Bool:=(Γ.N[i]?==some x)&&aBO Γ x&&bD x
def aR(Γ:Ct)(i:Nat)(x:Str):Bool:=(Γ.N[i]?==some x)&&uB Γ x&&bD x
def eqC:D->Const->Bool
 | .non,.none=>true
 | .bl a,.bool b=>a==b
 | .int a,.int b=>a==b
 | .str a,.str b=>a==b
 | _,_=>false
def eqK:D->D->Bool
 | .non,.non=>true
 | .bl a,.bl b=>a==b
 | .int a,.int b=>a==b
 | .str a,.str b=>a==b
 | _,_=>false
def iV:Bi->Str
 | .len => "len" | .list => "list" | .tuple => "tuple" | .min => "min" | .max => "max" | .abs => "abs" | .int => "int" | .str => "str" | .sum => "sum" | .all => "all" | .any => "any" | .sorted => "sorted" | .bool => "bool" | .repr => "repr"
def aBP:Bi->Bool
 | .len=>true|.list=>true|.tuple=>true|.min=>true|.int=>true|.any=>true
 | _=>false
def aMf:Cl->Bool
 | .own _=>false
 | .tValueError=>false
 | _=>true
def xA(Γ:Ct):Cl->Option Str
 | .tInt=>some "int" | .tBool=>some "bool" | .tStr=>some "str" | .tList=>some "list" | .tTuple=>some "tuple" | .tDict=>some "dict" | .tValueError=>some "ValueError"
 | .own c=>Γ.cls[c]?
def aFp(Γ:Ct)(c:Cl):Expr->Bool
 | .Name x _=>(xA Γ c==some x)&&bL Γ x&&bD x
 | _=>false
def iW(Γ:Ct):T->Expr->Bool
 | .n i,.Name x _=>aR Γ i x
 | .t is,.Tuple es _ _=>is.length==es.length&&(is.zip es).all λp=>match p.2 with
  | .Name x _=>aR Γ p.1 x
  | _=>false
 | _,_=>false
def cO:Expr->List Str
 | .Name x _=>[x]
 | .Tuple es _ _=>es.filterMap fun|.Name x _=>some x|_=>none
 | _=>[]
def xB:E->Bool
 | .c (.int i)=>i==0
 | _=>false
def asC(e:Expr):Option { c:Const // ∃k p,e=.Constant c k p }:=match e with
 | .Constant c k p=>some ⟨c,k,p,rfl⟩
 | _=>none
def asN(e:Expr):Option { x:Str // ∃p,e=.Name x p }:=match e with
 | .Name x p=>some ⟨x,p,rfl⟩
 | _=>none
def aFq(e:Expr):Option { r:Expr×Operator×Expr // ∃p,e=.BinOp r.1 r.2.1 r.2.2 p }:=match e with
 | .BinOp l o r p=>some ⟨(l,o,r),p,rfl⟩
 | _=>none
def aMg(e:Expr):Option { r:UnaryOp×Expr // ∃p,e=.UnaryOp r.1 r.2 p }:=match e with
 | .UnaryOp o x p=>some ⟨(o,x),p,rfl⟩
 | _=>none
def aJv(e:Expr):Option { r:BoolOp×List Expr×Pos // e=.BoolOp r.1 r.2.1 r.2.2 }:=match e with
 | .BoolOp o xs p=>some ⟨(o,xs,p),rfl⟩
 | _=>none
def aMh(e:Expr):Option { r:Expr×Expr×Expr // ∃p,e=.IfExp r.1 r.2.1 r.2.2 p }:=match e with
 | .IfExp t a b p=>some ⟨(t,a,b),p,rfl⟩
 | _=>none
def uC(e:Expr):Option { r:Expr×List CmpOp×List Expr // ∃p,e=.Compare r.1 r.2.1 r.2.2 p }:=match e with
 | .Compare l os rs p=>some ⟨(l,os,rs),p,rfl⟩
 | _=>none
def iP(e:Expr):Option { r:Expr×Expr // ∃p,e=.Subscript r.1 r.2 p }:=match e with
 | .Subscript x i p=>some ⟨(x,i),p,rfl⟩
 | _=>none
def aMi(e:Expr):Option { r:Option Expr×Option Expr // ∃p,e=.Slice r.1 r.2 none p }:=match e with
 | .Slice l h none p=>some ⟨(l,h),p,rfl⟩
 | _=>none
def aMj(e:Expr):Option { r:Const // ∃k p p2,e=.Slice none none (some (.Constant r k p)) p2 }:=match e with
 | .Slice none none (some (.Constant r k p)) p2=>some ⟨r,k,p,p2,rfl⟩
 | _=>none
def aFr(e:Expr):Option { r:List Expr // ∃k p,e=.Tuple r k p }:=match e with
 | .Tuple xs k p=>some ⟨xs,k,p,rfl⟩
 | _=>none
def aBQ(e:Expr):Option { r:List Expr // ∃p,e=.List r p }:=match e with
 | .List xs p=>some ⟨xs,p,rfl⟩
 | _=>none
def fH(e:Expr):Option { r:Str×List Expr // ∃p1 p2,e=.Call (.Name r.1 p1) r.2 [] p2 }:=match e with
 | .Call (.Name x p1) xs [] p2=>some ⟨(x,xs),p1,p2,rfl⟩
 | _=>none
def aGr(e:Expr):Option { r:Expr×Str×List Expr×Bool // ∃ap cp,e=.Call (.Attribute r.1 r.2.1 ap) r.2.2.1 [] cp/\(ap.endLine==cp.line)=r.2.2.2 }:=match e with
 | .Call (.Attribute x a ap) xs [] cp=>some ⟨(x,a,xs,ap.endLine==cp.line),ap,cp,rfl,rfl⟩
 | _=>none
def aJw(e:Expr):Option { r:Expr×Expr // ∃p,e=.Dict [some r.1] [r.2] p }:=match e with
 | .Dict [some a] [b] p=>some ⟨(a,b),p,rfl⟩
 | _=>none
def aJx(e:Expr):Option { r:Expr×List Comprehension×Scope // ∃p,e=.ListComp r.1 r.2.1 r.2.2 p }:=match e with
 | .ListComp e gs s p=>some ⟨(e,gs,s),p,rfl⟩
 | _=>none
def oB{α:Type}(o:Option α)(f:α->Bool):Bool:=match o with
 | some a=>f a
 | none=>false
def oS{α:Type}{q:α->Prop}(o:Option { a:α // q a })(f:α->Bool):Bool:=match o with
 | some a=>f a.1
 | none=>false
mutual
def aK(Γ:Ct):E->Expr->Bool
 | .c d,e=>oS (asC e) (eqC d)||oS (asN e) λx=>bL Γ x&&bD x&&oB (Γ.cns.lookup x) (eqK d)
 | .v i,e=>oS (asN e) (aP Γ i)
 | .op o a b,e=>oS (aFq e) λp=>o==p.2.1&&aK Γ a p.1&&aK Γ b p.2.2
 | .neg _,_=>false
 | .nt a,e=>oS (aMg e) λp=>p.1==.Not&&aK Γ a p.2
 | .an a b,e=>oS (aJv e) λp=>p.1==.And&&(match p.2.1 with
  | [x,y]=>aK Γ a x&&aK Γ b y
  | x::y::z::r=>aK Γ a x&&aK Γ b (.BoolOp .And (y::z::r) p.2.2)
  | _=>false)
 | .orr a b,e=>oS (aJv e) λp=>p.1==.Or&&(match p.2.1 with
  | [x,y]=>aK Γ a x&&aK Γ b y
  | x::y::z::r=>aK Γ a x&&aK Γ b (.BoolOp .Or (y::z::r) p.2.2)
  | _=>false)
 | .ife t a b,e=>oS (aMh e) λp=>aK Γ t p.1&&aK Γ a p.2.1&&aK Γ b p.2.2
 | .cmp o a b,e=>oS (uC e) λp=>(match p.2.1,p.2.2 with
  | [o'],[r]=>o==o'&&aK Γ a p.1&&aK Γ b r
  | _,_=>false)
 | .cmp2 o1 o2 a b c,e=>oS (uC e) λp=>(match p.2.1,p.2.2 with
  | [o1',o2'],[m,r]=>o1==o1'&&o2==o2'&&aK Γ a p.1&&aK Γ b m&&aK Γ c r
  | _,_=>false)
 | .idx a b,e=>oS (iP e) λp=>aK Γ a p.1&&aK Γ b p.2
 | .sli a lo hi,e=>oS (iP e) λp=>oS (aMi p.2) λq=>aK Γ a p.1&&chkO Γ lo q.1&&chkO Γ hi q.2
 | .tup es,e=>oS (aFr e) λxs=>decide (xs.length<=1000)&&chkEs Γ es xs
 | .lst es,e=>oS (aBQ e) λxs=>decide (xs.length<=1000)&&chkEs Γ es xs
 | .call f es,e=>oS (fH e) λp=>(Γ.fns[f]?==some p.1)&&bL Γ p.1&&bD p.1&&chkEs Γ es p.2
 | .sset a,e=>oS (fH e) λp=>(match p.2 with
  | [s]=>oS (fH s) λq=>(p.1==("sorted" : Str))&&bL Γ p.1&&(q.1==("set" : Str))&&bL Γ q.1&&(match q.2 with|[x]=>aK Γ a x|_=>false)
  | _=>false)
 | .callP f es,e=>oS (fH e) λp=>(Γ.fns[f]?==some p.1)&&bL Γ p.1&&bD p.1&&!p.2.isEmpty&&chkEs Γ es p.2
 | .o2 i k,e=>oS (iP e) λp=>oS (asN p.1) λx=>aP Γ i x&&oS (asC p.2) (eqC (.int k))
 | .dgne i k a,e=>oS (uC e) λp=>(match p.2.1,p.2.2 with
  | [o],[z]=>(o==.NotEq)&&aK Γ a z&&oS (aGr p.1) λq=>(q.2.1==("get" : Str))&&q.2.2.2&&(oS (asN q.1) (aP Γ i))&&(match q.2.2.1 with|[x,y]=>aK Γ k x&&aK Γ a y|_=>false)
  | _,_=>false)
 | .srtD i,e=>oS (fH e) λp=>(p.1==("sorted" : Str))&&bL Γ p.1&&(match p.2 with|[x]=>oS (asN x) (aP Γ i)|_=>false)
 | .bi b es,e=>oS (fH e) λp=>aBP b&&(iV b==p.1)&&bL Γ p.1&&bD p.1&&!p.2.isEmpty&&chkEs Γ es p.2
 | .mth _ _ _,_=>false
 | .numset _,_=>false
 | .tget i a,e=>oS (aGr e) λp=>oS (asN p.1) λx=>(p.2.1==("get" : Str))&&(Γ.tbs[i]?==some x)&&bL Γ x&&bD x&&p.2.2.2&&(match p.2.2.1 with|[y]=>aK Γ a y|_=>false)
 | .lzip _ _,_=>false
 | .lix i k,e=>oS (iP e) λp=>oS (asN p.1) λx=>aP Γ i x&&aK Γ k p.2
 | .stp a k,e=>oS (iP e) λp=>oS (aMj p.2) λc=>aK Γ a p.1&&eqC (.int k) c
 | .isi a cs,e=>oS (fH e) λp=>(match cs,p.2 with
  | [c],[x,y]=>(p.1==("isinstance" : Str))&&bL Γ p.1&&aMf c&&aK Γ a x&&aFp Γ c y
  | _,_=>false)
 | .comp k caps t it cond elt,e=>oS (aJx e) λp=>(match p.2.1 with
  | [⟨tg,iter,ifs,as⟩]=>
   as==0&&(cO tg).length==k&&(caps.all λi=>decide (i<Γ.N.length))&&decide caps.Nodup&&p.2.2.kind==.function&&decide (cO tg++caps.filterMap λi=>Γ.N[i]?).Nodup &&
   ((caps.filterMap λi=>Γ.N[i]?).all λx=>p.2.2.names.lookup x==some .free&&Γ.sc.lookup x==some .cell) &&
   (p.2.2.names.all λq=>q.2 != .cell&&(q.2 != .local||p.2.2.names.lookup q.1==some .local)&&(q.2 != .free||Γ.sc.lookup q.1==some .cell)) &&
   ((tIx t).all λi=>decide (i<k))&&decide (ifs.length<=1) &&
   iW { Γ with N:=cO tg++caps.filterMap λi=>Γ.N[i]?,sc:=jN Γ.sc p.2.2.names,fn:=false } t tg&&chkI Γ (nV tg) it iter &&
   chkEs { Γ with N:=cO tg++caps.filterMap λi=>Γ.N[i]?,sc:=jN Γ.sc p.2.2.names,fn:=false } cond ifs &&
   aK { Γ with N:=cO tg++caps.filterMap λi=>Γ.N[i]?,sc:=jN Γ.sc p.2.2.names,fn:=false } elt p.1
  | _=>false)
 | .dic (.cons a .nil) (.cons b .nil),e=>oS (aJw e) λp=>aK Γ a p.1&&aK Γ b p.2
 | .dic _ _,_=>false
 | .attr _ _,_=>false
def chkEs(Γ:Ct):Es->List Expr->Bool
 | .nil,[]=>true
 | .cons e es,x::xs=>aK Γ e x&&chkEs Γ es xs
 | _,_=>false
def chkO(Γ:Ct):Es->Option Expr->Bool
 | .nil,none=>true
 | .cons e .nil,some x=>aK Γ e x
 | _,_=>false
def chkI(Γ:Ct)(tt:Bool):It->Expr->Bool
 | .rng a b,e=>oS (fH e) λp=>(p.1==("range" : Str))&&bL Γ p.1&&(match p.2 with
  | [x]=>xB a&&aK Γ b x
  | [x,y]=>aK Γ a x&&aK Γ b y
  | _=>false)
 | .zip a b,e=>oS (fH e) λp=>(match p.2 with
  | [x,y]=>tt&&(p.1==("zip" : Str))&&bL Γ p.1&&aK Γ a x&&aK Γ b y
  | _=>false)
 | .seq c,x=>aK Γ c x
 | .enum a,e=>oS (fH e) λp=>(match p.2 with
  | [x]=>tt&&(p.1==("enumerate" : Str))&&bL Γ p.1&&aK Γ a x
  | _=>false)
 | .rev _,_=>false
 | .rng3 _ _ _,_=>false
end
mutual
def aX(Γ:Ct)(l:Nat):EL->Expr->Bool
 | .e a,x=>aK Γ a x
 | .op o a b,e=>oS (aFq e) λp=>o==p.2.1&&aX Γ l a p.1&&aX Γ l b p.2.2
 | .idx a b,e=>oS (iP e) λp=>aX Γ l a p.1&&aX Γ l b p.2
 | .tup es,e=>oS (aFr e) λxs=>decide (xs.length<=1000)&&chkELs Γ l es xs
 | .call f es,e=>oS (fH e) λp=>(Γ.fns[f]?==some p.1)&&bL Γ p.1&&bD p.1&&(match p.2 with
  | x::xs=>oS (asN x) (aP Γ l)&&chkELs Γ l es xs
  | []=>false)
 | .lst es,e=>oS (aBQ e) λxs=>decide (xs.length<=1000)&&chkELs Γ l es xs
 | .cmp o a b,e=>oS (uC e) λp=>(match p.2.1,p.2.2 with
  | [o'],[r]=>o==o'&&aX Γ l a p.1&&aX Γ l b r
  | _,_=>false)
 | .int a,e=>oS (fH e) λp=>(p.1==("int" : Str))&&bL Γ p.1&&bD p.1&&(match p.2 with
  | [x]=>aX Γ l a x
  | _=>false)
 | .comp k caps t n l' elt,e=>oS (aJx e) λp=>(match p.2.1 with
  | [⟨tg,iter,[],as⟩]=>
   as==0&&(cO tg).length==k&&(caps.all λi=>decide (i<Γ.N.length))&&decide caps.Nodup&&p.2.2.kind==.function&&decide (cO tg++caps.filterMap λi=>Γ.N[i]?).Nodup &&
   ((caps.filterMap λi=>Γ.N[i]?).all λx=>p.2.2.names.lookup x==some .free&&Γ.sc.lookup x==some .cell) &&
   (p.2.2.names.all λq=>q.2 != .cell&&(q.2 != .local||p.2.2.names.lookup q.1==some .local)&&(q.2 != .free||Γ.sc.lookup q.1==some .cell)) &&
   ((tIx t).all λi=>decide (i<k)) &&
   iW { Γ with N:=cO tg++caps.filterMap λi=>Γ.N[i]?,sc:=jN Γ.sc p.2.2.names,fn:=false } t tg &&
   (oS (fH iter) λq=>(q.1==("range" : Str))&&bL Γ q.1&&(match q.2 with|[x]=>aX Γ l n x|_=>false)) &&
   (decide (k<=l')&&(caps[l'-k]?==some l)) &&
   aX { Γ with N:=cO tg++caps.filterMap λi=>Γ.N[i]?,sc:=jN Γ.sc p.2.2.names,fn:=false } l' elt p.1
  | _=>false)
def chkELs(Γ:Ct)(l:Nat):ELs->List Expr->Bool
 | .nil,[]=>true
 | .cons e es,x::xs=>aX Γ l e x&&chkELs Γ l es xs
 | _,_=>false
end
def iX:Expr->Bool
 | .ListComp _ _ _ _=>true
 | .SetComp _ _ _ _=>true
 | .DictComp _ _ _ _ _=>true
 | _=>false
def xC:Expr->Bool
 | .Tuple _ _ _=>true
 | .List _ _=>true
 | _=>false
def aGs:Expr->Bool
 | .Name _ _=>true
 | _=>false
def jO(Γ:Ct)(i:Nat)(m:Str):Expr->Option (List Expr)
 | .Call (.Attribute (.Name x _) a ap) xs [] cp=>if (a==m)&&aP Γ i x&&(ap.endLine==cp.line) then some xs else none
 | _=>none
def rP(s:Stmt):Option { r:Expr×Expr // ∃p,s=.Assign [r.1] r.2 p }:=match s with
 | .Assign [t] v p=>some ⟨(t,v),p,rfl⟩
 | _=>none
def sEx(s:Stmt):Option { r:Expr // ∃p,s=.Expr r p }:=match s with
 | .Expr v p=>some ⟨v,p,rfl⟩
 | _=>none
def aBR(s:Stmt):Option { r:Option Expr // ∃p,s=.Return r p }:=match s with
 | .Return v p=>some ⟨v,p,rfl⟩
 | _=>none
def sIf(s:Stmt):Option { r:Expr×List Stmt×List Stmt // ∃p,s=.If r.1 r.2.1 r.2.2 p }:=match s with
 | .If t x y p=>some ⟨(t,x,y),p,rfl⟩
 | _=>none
def aJy(s:Stmt):Option { r:Expr×Expr×List Stmt // ∃p,s=.For r.1 r.2.1 r.2.2 [] p }:=match s with
 | .For t i b [] p=>some ⟨(t,i,b),p,rfl⟩
 | _=>none
def aMk(s:Stmt):Option { r:Unit // ∃p,s=.Break p }:=match s with
 | .Break p=>some ⟨(),p,rfl⟩
 | _=>none
def aMl(s:Stmt):Option { r:Unit // ∃p,s=.Continue p }:=match s with
 | .Continue p=>some ⟨(),p,rfl⟩
 | _=>none
def aJz(s:Stmt):Option { r:Unit // ∃p,s=.Pass p }:=match s with
 | .Pass p=>some ⟨(),p,rfl⟩
 | _=>none
def aMm(e:Expr):Option { r:Unit // ∃p,e=.Dict [] [] p }:=match e with
 | .Dict [] [] p=>some ⟨(),p,rfl⟩
 | _=>none
def aJA(s:Stmt):Option { r:List Stmt // ∃h hs p,s=.Try r (h::hs) [] [] p }:=match s with
 | .Try b (h::hs) [] [] p=>some ⟨b,h,hs,p,rfl⟩
 | _=>none
mutual
def cP(Γ:Ct):S->Stmt->Bool
 | .set t e,s=>oS (rP s) λr=>iW Γ t r.1&&aK Γ e r.2&&(aGs r.1||!xC r.2)
 | .mov i j,s=>oS (rP s) λr=>oS (asN r.1) λx=>oS (asN r.2) λy=>aR Γ i x&&aP Γ j y
 | .setIx i k e,s=>oS (rP s) λr=>oS (iP r.1) λu=>oS (asN u.1) λx=>aP Γ i x&&aK Γ k u.2&&aK Γ e r.2
 | .app i e,s=>oS (sEx s) λc=>(match jO Γ i "append" c with|some [a]=>aK Γ e a|_=>false)
 | .appCall _ _ _,_=>false
 | .ext i e,s=>oS (sEx s) λc=>(match jO Γ i "extend" c with|some [a]=>aK Γ e a|_=>false)
 | .pop _ _ _,_=>false
 | .clr _,_=>false
 | .rev _,_=>false
 | .ret e,s=>oS (aBR s) λr=>oB r (aK Γ e)
 | .retv i,s=>oS (aBR s) λr=>oB r λv=>oS (asN v) (aP Γ i)
 | .retN,s=>oS (aBR s) λr=>r.isNone
 | .iff c a b,s=>oS (sIf s) λr=>aK Γ c r.1&&chkSs Γ a r.2.1&&chkSs Γ b r.2.2
 | .for t it b,s=>oS (aJy s) λr=>iW Γ t r.1&&chkI Γ (nV r.1) it r.2.1&&chkSs Γ b r.2.2
 | .whl _ _,_=>false
 | .brk,s=>oS (aMk s) λ_=>true
 | .cnt,s=>oS (aMl s) λ_=>true
 | .pass,s=>oS (aJz s) λ_=>true
 | .ex e,s=>oS (sEx s) λv=>aK Γ e v&&!iX v
 | .rse _ _ _,_=>true
 | .ins _ _ _,_=>false
 | .try _ _,_=>false
 | .lend,_=>false
 | .tryN b,s=>oS (aJA s) λr=>chkSs Γ b r
 | .set2 i a b,s=>oS (rP s) λr=>oS (asN r.1) λx=>aR Γ i x&&oS (aBQ r.2) λxs=>(match xs with|[y,z]=>aK Γ a y&&aK Γ b z|_=>false)
 | .app2 i k e,s=>oS (sEx s) λc=>oS (aGr c) λp=>(p.2.1==("append" : Str))&&p.2.2.2&&(oS (iP p.1) λu=>oS (asN u.1) (aP Γ i)&&oS (asC u.2) (eqC (.int k)))&&(match p.2.2.1 with|[a]=>aK Γ e a|_=>false)
 | .dnew i _,s=>oS (rP s) λr=>oS (asN r.1) λx=>aR Γ i x&&oS (aMm r.2) λ_=>true
 | .dset i f es,s=>oS (rP s) λr=>oS (asN r.1) λx=>aR Γ i x&&oS (fH r.2) λp=>(Γ.fns[f]?==some p.1)&&bL Γ p.1&&bD p.1&&!p.2.isEmpty&&chkEs Γ es p.2
 | .dupd i e,s=>oS (sEx s) λc=>(match jO Γ i "update" c with|some [a]=>aK Γ e a|_=>false)
 | .dput i k e,s=>oS (rP s) λr=>oS (iP r.1) λu=>oS (asN u.1) λx=>aP Γ i x&&aK Γ k u.2&&aK Γ e r.2
 | .lset i k e,s=>oS (rP s) λr=>oS (iP r.1) λu=>oS (asN u.1) λx=>aP Γ i x&&aK Γ k u.2&&aK Γ e r.2
 | .setL i l _ e,s=>oS (rP s) λr=>oS (asN r.1) λx=>aR Γ i x&&aX Γ l e r.2&&!iX r.2
 | .appL i l e,s=>oS (sEx s) λc=>(match jO Γ i "append" c with|some [a]=>aX Γ l e a|_=>false)
 | .retL e,s=>oS (aBR s) λr=>oB r (aX Γ 0 e)
 | .retvL i,s=>oS (aBR s) λr=>oB r λv=>oS (asN v) (aP Γ i)
 | .iffL o a b x y,s=>oS (sIf s) λr=>(oS (uC r.1) λp=>(match p.2.1,p.2.2 with
  | [o'],[z]=>o==o'&&aX Γ 0 a p.1&&aK Γ b z
  | _,_=>false))&&chkSs Γ x r.2.1&&chkSs Γ y r.2.2
 | .forL t e b,s=>oS (aJy s) λr=>iW Γ t r.1&&(oS (fH r.2.1) λp=>(p.1==("range" : Str))&&bL Γ p.1&&(match p.2 with
  | [x]=>aX Γ 0 e x
  | _=>false))&&chkSs Γ b r.2.2
def chkSs(Γ:Ct):Ss->List Stmt->Bool
 | .nil,[]=>true
 | .cons .lend ss,xs=>chkSs Γ ss xs
 | .cons s ss,x::xs=>cP Γ s x&&chkSs Γ ss xs
 | _,_=>false
end
end Hp
end
noncomputable section
namespace Hp
open PySem PySem.Spec PyProof.Rows L2
theorem jP(n:Nat){d:Nat}(hd:d<=n):∀lo,sIx n d lo<=n
 | none=>hd
 | some v=>by
  unfold sIx
  dsimp only
  split <;> omega
theorem uD(lo hi:Option Int)(n:Nat):Builtin.Str.strSliceIndices lo hi 1 n=Builtin.Str.strSliceIndices (some ((sIx n 0 lo:Nat):Int)) (some ((sIx n n hi:Nat):Int)) 1 n:=by
 have h1:(1:Int)>0:=by decide
 have key:∀(d:Nat) (hd:d<=n) (o:Option Int),(match o with|none=>(d:Int)|some i=>max 0 (min (if i<0 then i+(n:Int) else i) (n:Int)))=((sIx n d o:Nat):Int):=by
  intro d hd o
  cases o with
  | none=>rfl
  | some i=>
   unfold sIx
   dsimp only
   split <;> omega
 have k2:∀(m:Nat),m<=n->max (0:Int) (min (if (m:Int)<0 then (m:Int)+(n:Int) else (m:Int)) (n:Int))=(m:Int):=by
  intro m hm
  split <;> omega
 unfold Builtin.Str.strSliceIndices
 simp only[h1,if_true]
 have e1:=key 0 (Bj _) lo
 have e2:=key n (Ag _) hi
 have f1:=k2 _ (jP n (Bj _) lo)
 have f2:=k2 _ (jP n (Ag _) hi)
 rw[f1,f2]
 cases lo <;> cases hi <;> simp_all
theorem pM(x:Str)(lo hi:Option Int):StrLaws.sliceText x lo hi=wY x lo hi:=by
 have hl:x.cps.toList.length=x.length:=by show _=x.cps.size;simp
 have e:StrLaws.sliceText x lo hi=StrLaws.sliceText x (some ((sIx x.length 0 lo:Nat):Int)) (some ((sIx x.length x.length hi:Nat):Int)):=by
  unfold StrLaws.sliceText
  rw[uD]
 rw[e]
 unfold wY cut
 rw[hl]
 by_cases h:sIx x.length 0 lo<=sIx x.length x.length hi
 . exact StrLaws.sliceText_nat x h (jP _ (Ag _) hi)
 . have h0:sIx x.length x.length hi-sIx x.length 0 lo=0:=by omega
   have hlo:=jP x.length (Bj _) lo
   have hhi:=jP x.length (Ag _) hi
   rw[h0,List.take_zero]
   generalize sIx x.length 0 lo=i at *
   generalize sIx x.length x.length hi=j at *
   have he:Builtin.Str.strSliceIndices (some (i:Int)) (some (j:Int)) 1 x.length=[]:=by
    unfold Builtin.Str.strSliceIndices
    have h1:(1:Int)>0:=by decide
    simp only[h1,if_true]
    rw[if_neg (by omega),if_neg (by omega)]
    have a1:max (0:Int) (min (i:Int) (x.length:Int))=i:=by omega
    have a2:max (0:Int) (min (j:Int) (x.length:Int))=j:=by omega
    rw[a1,a2]
    unfold sliceRange
    simp
    omega
   unfold StrLaws.sliceText
   rw[he]
   simp
   intro hz
   omega
def aBS:V->Option Int->Option Int->L2.Hp->VK->Prop:=λx lo hi H Q=>∃a,x=.str a/\a.length<=sizeLine/\Q (.str (wY a lo hi)) H
section
variable {X:Cx}
theorem aGt:SlR X aBS:=by
 intro pins s σ H x v vl vu lo hi sl Q I rx hs pl pu h
 obtain⟨a,rfl,hz,q⟩:=h
 obtain⟨t,rfl⟩:=rx
 have fin:∀(l u:Option (Int×Tok)),l.map (·.1)=lo->u.map (·.1)=hi->s.heap.IsSlice sl l u none->wpAny (model X.prog X.w) X.A (getItem (.str a t) (.ref sl)) (EP X pins σ Q) X.xe s:=by
  intro l u e1 e2 h
  refine wpAny_getItem_str_slice h rfl ?_
  have e:StrLaws.sliceText a lo hi=wY a lo hi:=pM a lo hi
  unfold StrLaws.sliceText at e
  subst e1 e2
  show Made.post (if ((1:Int)==1&&(Builtin.Str.strSliceIndices (l.map (·.1)) (u.map (·.1)) 1 a.length).length==a.length)=true then _ else _) _ s
  split
  . rename_i hc
    rw[if_pos hc] at e
    exact⟨.str a,H,I,⟨t,rfl⟩,by rw[e];exact q⟩
  . rename_i hc
    rw[if_neg hc] at e
    have hle:(wY a (l.map (·.1)) (u.map (·.1))).length<=sizeLine:=by
     refine Av ?_ hz
     show(cut a.cps.toList _ _).toArray.size<=a.cps.size
     unfold cut
     rw[Af,Cd,C2,A7]
     omega
    refine⟨by rw[<-e] at hle;exact hle,.str (wY a (l.map (·.1)) (u.map (·.1))),H,I.tok _,?_,q⟩
    rw[<-e]
    exact⟨_,rfl⟩
 refine⟨"str",_,slot_str_getitem.lookup,rfl,?_⟩
 cases pl with
 | none=>
  cases pu with
  | none=>exact fin none none rfl rfl hs
  | int j tj=>exact fin none (some (j,tj)) rfl rfl hs
 | int i ti=>
  cases pu with
  | none=>exact fin (some (i,ti)) none rfl rfl hs
  | int j tj=>exact fin (some (i,ti)) (some (j,tj)) rfl rfl hs
end
end Hp
end
noncomputable section
namespace Hp
open PySem L2
abbrev Fg:=PySem.W.Frag
def kD:Key->D
 | .inl i=>.int i
 | .inr x=>.str x
mutual
def Rep(K:Fg)(H:Hp)(ex:Addr->Prop):D->V->Prop
 | .non,v=>v=.non
 | .bl b,v=>v=.bl b
 | .int i,v=>v=.int i
 | .str x,v=>v=.str x
 | .tup ds,v=>∃a xs,v=.ref a/\SqT K H a xs/\Reps K H ex ds xs
 | .lst ds,v=>∃a xs,v=.ref a/\SqL K H a xs/\¬ ex a/\Reps K H ex ds xs
 | .dic kvs,v=>∃a ks,v=.ref a/\H a=some (.dK ks)/\¬ ex a/\RepKV K H ex kvs ks
 | .err _ _,_=>False
def Reps(K:Fg)(H:Hp)(ex:Addr->Prop):List D->List V->Prop
 | [],xs=>xs=[]
 | d::ds,xs=>∃x r,xs=x::r/\Rep K H ex d x/\Reps K H ex ds r
def RepKV(K:Fg)(H:Hp)(ex:Addr->Prop):List (D×D)->List (Key×V)->Prop
 | [],ks=>ks=[]
 | (k,d)::r,ks=>∃k' x r',ks=(k',x)::r'/\kD k'=k/\Rep K H ex d x/\RepKV K H ex r r'
end
section
variable {K:Fg} {H H':Hp} {ex ex':Addr->Prop}
theorem aF.seqT{a:Addr}{xs:List V}(e:aF H H')(h:SqT K H a xs):SqT K H' a xs:=by
 rcases h with(h|⟨o,h⟩)|h
 . exact .inl (.inl (e _ _ h))
 . exact .inl (.inr ⟨o,e _ _ h⟩)
 . exact .inr h
def Mb(o:HO):Prop:=(∃xs,o=.lst xs)\/(∃ks,o=.dK ks)\/∃φ,o=.ext φ
theorem lU{o:HO}(z:Mb o)(h1:∀xs,o≠.lst xs:=by intro _ h;cases h)(h2:∀ks,o≠.dK ks:=by intro _ h;cases h)(h3:∀φ,o≠.ext φ:=by intro _ h;cases h):False:=by
 rcases z with⟨_,e⟩|⟨_,e⟩|⟨_,e⟩
 . exact h1 _ e
 . exact h2 _ e
 . exact h3 _ e
mutual
theorem Rep.imp(hT:∀a xs,SqT K H a xs->SqT K H' a xs)(hL:∀a xs,¬ ex a->SqL K H a xs->¬ ex' a/\SqL K H' a xs)(hD:∀a ks,¬ ex a->H a=some (.dK ks)->¬ ex' a/\H' a=some (.dK ks)) :
 ∀(d:D) (v:V),Rep K H ex d v->Rep K H' ex' d v
 | .non,_,h=>h
 | .bl _,_,h=>h
 | .int _,_,h=>h
 | .str _,_,h=>h
 | .tup ds,_,h=>by
  obtain⟨a,xs,e,q,r⟩:=h
  exact⟨a,xs,e,hT a xs q,Reps.imp hT hL hD ds xs r⟩
 | .lst ds,_,h=>by
  obtain⟨a,xs,e,q,n,r⟩:=h
  obtain⟨n',q'⟩:=hL a xs n q
  exact⟨a,xs,e,q',n',Reps.imp hT hL hD ds xs r⟩
 | .dic kvs,_,h=>by
  obtain⟨a,ks,e,q,n,r⟩:=h
  obtain⟨n',q'⟩:=hD a ks n q
  exact⟨a,ks,e,q',n',RepKV.imp hT hL hD kvs ks r⟩
 | .err _ _,_,h=>h.elim
theorem Reps.imp(hT:∀a xs,SqT K H a xs->SqT K H' a xs)(hL:∀a xs,¬ ex a->SqL K H a xs->¬ ex' a/\SqL K H' a xs)(hD:∀a ks,¬ ex a->H a=some (.dK ks)->¬ ex' a/\H' a=some (.dK ks)) :
 ∀(ds:List D) (xs:List V),Reps K H ex ds xs->Reps K H' ex' ds xs
 | [],_,h=>h
 | d::ds,_,h=>by
  obtain⟨x,r,e,h1,h2⟩:=h
  exact⟨x,r,e,Rep.imp hT hL hD d x h1,Reps.imp hT hL hD ds r h2⟩
theorem RepKV.imp(hT:∀a xs,SqT K H a xs->SqT K H' a xs)(hL:∀a xs,¬ ex a->SqL K H a xs->¬ ex' a/\SqL K H' a xs)(hD:∀a ks,¬ ex a->H a=some (.dK ks)->¬ ex' a/\H' a=some (.dK ks)) :
 ∀(ds:List (D×D)) (xs:List (Key×V)),RepKV K H ex ds xs->RepKV K H' ex' ds xs
 | [],_,h=>h
 | (k,d)::ds,_,h=>by
  obtain⟨k',x,r,e,ek,h1,h2⟩:=h
  exact⟨k',x,r,e,ek,Rep.imp hT hL hD d x h1,RepKV.imp hT hL hD ds r h2⟩
end
theorem Rep.weak{d:D}{v:V}(h:Rep K H ex d v)(e:∀a,ex' a->ex a):Rep K H ex' d v:=Rep.imp (λ_ _ q=>q) (λa _ n q=>⟨λz=>n (e a z),q⟩) (λa _ n q=>⟨λz=>n (e a z),q⟩) d v h
theorem Reps.weak{d:List D}{v:List V}(h:Reps K H ex d v)(e:∀a,ex' a->ex a):Reps K H ex' d v:=Reps.imp (λ_ _ q=>q) (λa _ n q=>⟨λz=>n (e a z),q⟩) (λa _ n q=>⟨λz=>n (e a z),q⟩) d v h
theorem Rep.grow{d:D}{v:V}(h:Rep K H ex d v)(s:aF H H'):Rep K H' ex d v:=Rep.imp (λ_ _ q=>aF.seqT s q) (λ_ _ n q=>⟨n,s.seq q⟩) (λ_ _ n q=>⟨n,s _ _ q⟩) d v h
theorem Reps.grow{d:List D}{v:List V}(h:Reps K H ex d v)(s:aF H H'):Reps K H' ex d v:=Reps.imp (λ_ _ q=>aF.seqT s q) (λ_ _ n q=>⟨n,s.seq q⟩) (λ_ _ n q=>⟨n,s _ _ q⟩) d v h
theorem Rep.keep{d:D}{v:V}(h:Rep K H ex d v)(s:∀a o,H a=some o->(Mb o->¬ ex a)->H' a=some o):Rep K H' ex d v:=by
 refine Rep.imp (λa xs q=>?_) (λa xs n q=>⟨n,?_⟩) (λa ks n q=>⟨n,s a _ q λ_=>n⟩) d v h
 . rcases q with(q|⟨o,q⟩)|q
   . exact .inl (.inl (s _ _ q λz=>(lU z).elim))
   . exact .inl (.inr ⟨o,s _ _ q λz=>(lU z).elim⟩)
   . exact .inr q
 . rcases q with(q|⟨o,q⟩)|q
   . exact .inl (.inl (s _ _ q λ_=>n))
   . exact .inl (.inr ⟨o,s _ _ q λz=>(lU z).elim⟩)
   . exact .inr q
theorem Reps.keep{d:List D}{v:List V}(h:Reps K H ex d v)(s:∀a o,H a=some o->(Mb o->¬ ex a)->H' a=some o):Reps K H' ex d v:=by
 refine Reps.imp (λa xs q=>?_) (λa xs n q=>⟨n,?_⟩) (λa ks n q=>⟨n,s a _ q λ_=>n⟩) d v h
 . rcases q with(q|⟨o,q⟩)|q
   . exact .inl (.inl (s _ _ q λz=>(lU z).elim))
   . exact .inl (.inr ⟨o,s _ _ q λz=>(lU z).elim⟩)
   . exact .inr q
 . rcases q with(q|⟨o,q⟩)|q
   . exact .inl (.inl (s _ _ q λ_=>n))
   . exact .inl (.inr ⟨o,s _ _ q λz=>(lU z).elim⟩)
   . exact .inr q
mutual
theorem Rep.free:∀(d:D) (v:V),noL d=true->Rep K H ex d v->Rep K H ex' d v
 | .non,_,_,h=>h
 | .bl _,_,_,h=>h
 | .int _,_,_,h=>h
 | .str _,_,_,h=>h
 | .tup ds,_,n,h=>by
  obtain⟨a,xs,e,q,r⟩:=h
  exact⟨a,xs,e,q,Reps.free ds xs (by simpa[noL] using n) r⟩
 | .lst ds,_,n,_=>by simp[noL] at n
 | .dic kvs,_,n,_=>by simp[noL] at n
 | .err _ _,_,n,_=>by simp[noL] at n
theorem Reps.free:∀(ds:List D) (xs:List V),noLs ds=true->Reps K H ex ds xs->Reps K H ex' ds xs
 | [],_,_,h=>h
 | d::ds,_,n,h=>by
  obtain⟨x,r,e,h1,h2⟩:=h
  simp only[noLs,bA] at n
  exact⟨x,r,e,Rep.free d x n.1 h1,Reps.free ds r n.2 h2⟩
end
theorem Reps.length:∀{ds:List D} {xs:List V},Reps K H ex ds xs->ds.length=xs.length
 | [],_,h=>by rw[show _=[] from h];rfl
 | d::ds,_,h=>by
  obtain⟨x,r,e,_,h2⟩:=h
  subst e
  rw[lC,lC,Reps.length h2]
theorem Reps.get:∀{ds:List D} {xs:List V} {j:Nat} {d:D},Reps K H ex ds xs->ds[j]? = some d->∃x,xs[j]? = some x/\Rep K H ex d x
 | [],_,_,_,_,e=>by simp at e
 | d::ds,_,0,_,h,e=>by
  obtain⟨x,r,e',h1,_⟩:=h
  subst e'
  simp at e
  subst e
  exact⟨x,rfl,h1⟩
 | d::ds,_,j+1,d',h,e=>by
  obtain⟨x,r,e',_,h2⟩:=h
  subst e'
  obtain⟨y,hy,q⟩:=Reps.get (j:=j) (d:=d') h2 (by simpa using e)
  exact⟨y,by simpa using hy,q⟩
theorem Reps.get'{ds:List D}{xs:List V}{j:Nat}{x:V}(h:Reps K H ex ds xs)(e:xs[j]? = some x):∃d,ds[j]? = some d/\Rep K H ex d x:=by
 have hl:=h.length
 have hj:j<xs.length:=(Ay.mp e).1
 obtain⟨d,hd⟩:∃d,ds[j]? = some d:=⟨ds[j],An (by omega)⟩
 obtain⟨y,hy,q⟩:=h.get hd
 rw[e] at hy
 cases hy
 exact⟨d,hd,q⟩
theorem Reps.nil:Reps K H ex [] []:=rfl
theorem Reps.cons{d:D}{ds:List D}{x:V}{xs:List V}(h:Rep K H ex d x)(t:Reps K H ex ds xs):Reps K H ex (d::ds) (x::xs):=⟨x,xs,rfl,h,t⟩
theorem Reps.append:∀{ds es:List D} {xs ys:List V},Reps K H ex ds xs->Reps K H ex es ys->Reps K H ex (ds++es) (xs++ys)
 | [],_,_,_,h,t=>by rw[show _=[] from h];exact t
 | d::ds,_,_,_,h,t=>by
  obtain⟨x,r,e,h1,h2⟩:=h
  subst e
  exact⟨x,_,rfl,h1,Reps.append h2 t⟩
theorem Reps.take:∀{ds:List D} {xs:List V} (n:Nat),Reps K H ex ds xs->Reps K H ex (ds.take n) (xs.take n)
 | _,_,0,_=>by simp[Reps]
 | [],_,n+1,h=>by rw[show _=[] from h];simp[Reps]
 | d::ds,_,n+1,h=>by
  obtain⟨x,r,e,h1,h2⟩:=h
  subst e
  exact⟨x,_,rfl,h1,Reps.take n h2⟩
theorem Reps.drop:∀{ds:List D} {xs:List V} (n:Nat),Reps K H ex ds xs->Reps K H ex (ds.drop n) (xs.drop n)
 | _,_,0,h=>h
 | [],_,n+1,h=>by rw[show _=[] from h];simp[Reps]
 | d::ds,_,n+1,h=>by
  obtain⟨x,r,e,h1,h2⟩:=h
  subst e
  exact Reps.drop n h2
theorem Reps.set:∀{ds:List D} {xs:List V} {d:D} {x:V} (j:Nat),Reps K H ex ds xs->Rep K H ex d x->Reps K H ex (ds.set j d) (xs.set j x)
 | [],_,_,_,_,h,_=>by rw[show _=[] from h];simp[Reps]
 | d::ds,_,_,_,0,h,q=>by
  obtain⟨x,r,e,h1,h2⟩:=h
  subst e
  exact⟨_,_,rfl,q,h2⟩
 | d::ds,_,_,_,j+1,h,q=>by
  obtain⟨x,r,e,h1,h2⟩:=h
  subst e
  exact⟨x,_,rfl,h1,Reps.set j h2 q⟩
theorem Reps.eraseIdx:∀{ds:List D} {xs:List V} (j:Nat),Reps K H ex ds xs->Reps K H ex (ds.eraseIdx j) (xs.eraseIdx j)
 | [],_,_,h=>by rw[show _=[] from h];simp[Reps]
 | d::ds,_,0,h=>by
  obtain⟨x,r,e,h1,h2⟩:=h
  subst e
  exact h2
 | d::ds,_,j+1,h=>by
  obtain⟨x,r,e,h1,h2⟩:=h
  subst e
  exact⟨x,_,rfl,h1,Reps.eraseIdx j h2⟩
theorem Reps.reverse:∀{ds:List D} {xs:List V},Reps K H ex ds xs->Reps K H ex ds.reverse xs.reverse
 | [],_,h=>by rw[show _=[] from h];simp[Reps]
 | d::ds,_,h=>by
  obtain⟨x,r,e,h1,h2⟩:=h
  subst e
  rw[Ee,Ee]
  exact(Reps.reverse h2).append (.cons h1 .nil)
theorem Reps.flat:∀{ds:List D} {xs:List V},Reps K H ex ds xs->∀k:Nat,Reps K H ex (List.replicate k ds).flatten (List.replicate k xs).flatten
 | _,_,_,0=>by simp[Reps]
 | ds,xs,h,k+1=>by
  rw[Bp,Bp,B9,B9]
  exact h.append (Reps.flat h k)
end
end Hp
end
noncomputable section
namespace Hp
open PySem PySem.Spec PyProof.Rows L2
theorem aLu(a b:Str):(a++b).length=a.length+b.length:=by
 show(a.cps++b.cps).size=_
 rw[Array.size_append];rfl
section
variable {X:Cx} {pins:List (Addr×Obj)} {σ:L2.St} {H:Hp} {s:Shared}
end
def Kp(R:Addr->Prop)(H H':Hp):Prop:=∀a o,H a=some o->¬ R a->H' a=some o
def RE{α:Type}:R α->(α->Prop)->Prop
 | .ok a,p=>p a
 | _,_=>False
theorem RE.mono{α:Type}{x:R α}{p q:α->Prop}(h:RE x p)(f:∀a,p a->q a):RE x q:=by
 cases x with
 | ok a=>exact f a h
 | exc e=>exact h
 | bad=>exact h
theorem RE.bind{α β:Type}{x:R α}{f:α->R β}{p:β->Prop}:RE (x >>= f) p=RE x λa=>RE (f a) p:=by
 cases x <;> rfl
theorem RE.iff{α:Type}{c:Bool}{x:R α}{p:α->Prop}(h:RE (R.iff c x) p):c=true/\RE x p:=by
 cases c with
 | true=>exact⟨rfl,h⟩
 | false=>exact h.elim
section
variable (K:Fg) (RT Y old:Addr->Prop)
def exB(pa:Bool)(a:Addr):Prop:=Y a\/(pa=false/\old a)
def Tk(H:Hp):Prop:=∀b,H b≠none->K.lookup b=none
def Rws(H:Hp):List (List D)->List Addr->Prop
 | [],bs=>bs=[]
 | ds::dss,bs=>∃b r xs,bs=b::r/\H b=some (.lst xs)/\noLs ds=true/\Reps K H (λ_=>False) ds xs/\Rws H dss r
def Pt(σ:Sg)(σV:L2.St)(p:Addr):Prop:=RT p/\¬ old p/\∀(k:Nat) (pa:Bool) (ds:List D),σ[k]? = some (.own pa ds)->σV[k]?≠some (some (.ref p))
structure Lx (σ:Sg) (σV:L2.St) (H:Hp):Prop where
 at':∀(i:Nat) (ds:List D),σ[i]? = some (.lent ds)->∃a xs,σV[i]? = some (some (.ref a))/\H a=some (.lst xs)/\RT a/\old a/\Reps K H (λa=>RT a\/exB Y old true a) ds xs
 inj:∀(i j:Nat) (ds ds':List D) (a:Addr),σ[i]? = some (.lent ds)->σ[j]? = some (.lent ds')->σV[i]? = some (some (.ref a))->σV[j]? = some (some (.ref a))->i=j
 at2:∀(i:Nat) (dss:List (List D)),σ[i]? = some (.own2 dss)->∃a bs,σV[i]? = some (some (.ref a))/\H a=some (.lst (bs.map V.ref))/\(∀b∈a::bs,Pt RT old σ σV b)/\(a::bs).Nodup/\Rws K H dss bs
 one:∀(i j:Nat) (dss dss':List (List D)),σ[i]? = some (.own2 dss)->σ[j]? = some (.own2 dss')->i=j
def dB(H:Hp)(ex:Addr->Prop):List (List Int×D)->TKV->Prop
 | [],xs=>xs=[]
 | kv::kvs,xs=>∃x r,xs=x::r/\kv.1=x.1/\(∃v,aW v x.2.2/\Rep K H ex kv.2 v)/\SqT K H x.2.1 (x.1.map V.int)/\dB H ex kvs r
def DOb(H:Hp)(ex:Addr->Prop)(a:Addr):DT->Prop
 | .s ks=>H a=some (.dK (ks.map λ(k:Nat)=>(.inl (k:Int),V.bl true)))
 | .m kvs=>∃xs,H a=some (fZ a xs)/\dB K H ex kvs xs
structure Dx (σ:Sg) (σV:L2.St) (H:Hp):Prop where
 at':∀(i:Nat) (t:DT),σ[i]? = some (.dct t)->∃a,σV[i]? = some (some (.ref a))/\RT a/\¬ old a/\DOb K H (λa=>RT a\/exB Y old true a) a t
 inj:∀(i j:Nat) (t t':DT) (a:Addr),σ[i]? = some (.dct t)->σ[j]? = some (.dct t')->σV[i]? = some (some (.ref a))->σV[j]? = some (some (.ref a))->i=j
def RtO(H:Hp)(a:Addr):Prop:=∃o,H a=some o/\Mb o
structure Sx (σ:Sg) (σV:L2.St) (H:Hp):Prop where
 sh:∀(i:Nat) (pa:Bool) (d:D),σ[i]? = some (.sh pa d)->∃v,σV[i]? = some (some v)/\Rep K H (λa=>RT a\/exB Y old pa a) d v
 own:∀(i:Nat) (pa:Bool) (ds:List D),σ[i]? = some (.own pa ds)->∃a xs,σV[i]? = some (some (.ref a))/\H a=some (.lst xs)/\RT a/\¬ old a/\Reps K H (λa=>RT a\/exB Y old pa a) ds xs
 trk:∀a,RT a\/Y a\/old a->H a≠none
 yo:∀a,Y a->old a
 tk:Tk K H
 rt:∀a,RT a->RtO H a
 inj:∀(i j:Nat) (pa pa':Bool) (ds ds':List D) (a:Addr),σ[i]? = some (.own pa ds)->σ[j]? = some (.own pa' ds')->σV[i]? = some (some (.ref a))->σV[j]? = some (some (.ref a))->i=j
 len:σ.length=σV.length
 lx:Lx K RT Y old σ σV H
 dx:Dx K RT Y old σ σV H
def alR(σ:Sg)(σV:L2.St)(al:List Nat)(a:Addr):Prop:=∃j∈al,(∃pa ds,σ[j]? = some (.own pa ds))/\σV[j]? = some (some (.ref a))
def exV(σ:Sg)(σV:L2.St)(pa:Bool)(al:List Nat)(a:Addr):Prop:=(RT a/\¬ alR σ σV al a)\/exB Y old pa a
def Rv(σ:Sg)(σV:L2.St)(H:Hp)(v:Vl)(u:V):Prop:=Rep K H (exV RT Y old σ σV v.pa v.al) v.d u
def Ro(σ:Sg)(σV:L2.St)(H H':Hp)(v:Vl)(u:V):Prop:=
 aF H H'/\(if v.fr=true then ∃a xs ds,u=.ref a/\v.d=.lst ds/\H a=none/\H' a=some (.lst xs)/\Reps K H' (λb=>b=a\/exV RT Y old σ σV v.pa v.al b) ds xs
  else Rv K RT Y old σ σV H' v u)
def Rvs(σ:Sg)(σV:L2.St)(H:Hp):List Vl->List V->Prop
 | [],us=>us=[]
 | v::vs,us=>∃u r,us=u::r/\Rv K RT Y old σ σV H v u/\Rvs σ σV H vs r
end
section
variable {K:Fg} {RT Y old:Addr->Prop} {σ:Sg} {σV:L2.St} {H H' H1 H2:Hp} {v:Vl} {u:V}
mutual
theorem Rep.noT{ex:Addr->Prop}(hr:∀b ks,SqT K H b ks->SqT K H' b ks):∀(d:D) (v:V),noL d=true->Rep K H ex d v->Rep K H' ex d v
 | .non,_,_,h=>h
 | .bl _,_,_,h=>h
 | .int _,_,_,h=>h
 | .str _,_,_,h=>h
 | .tup ds,_,n,h=>by
  obtain⟨a,xs,e,q,r⟩:=h
  exact⟨a,xs,e,hr _ _ q,Reps.noT hr ds xs (by simpa[noL] using n) r⟩
 | .lst ds,_,n,_=>by simp[noL] at n
 | .dic kvs,_,n,_=>by simp[noL] at n
 | .err _ _,_,n,_=>by simp[noL] at n
theorem Reps.noT{ex:Addr->Prop}(hr:∀b ks,SqT K H b ks->SqT K H' b ks):∀(ds:List D) (xs:List V),noLs ds=true->Reps K H ex ds xs->Reps K H' ex ds xs
 | [],_,_,h=>h
 | d::ds,_,n,h=>by
  obtain⟨x,r,e,h1,h2⟩:=h
  simp only[noLs,bA] at n
  exact⟨x,r,e,Rep.noT hr d x n.1 h1,Reps.noT hr ds r n.2 h2⟩
end
theorem Rws.lst:∀{dss:List (List D)} {bs:List Addr},Rws K H dss bs->∀b∈bs,∃xs,H b=some (.lst xs)
 | [],_,h,b,hb=>by rw[show _=[] from h] at hb;cases hb
 | ds::dss,_,h,b,hb=>by
  obtain⟨c,r,xs,rfl,h1,_,_,h4⟩:=h
  rcases Al.mp hb with rfl|hb
  . exact⟨xs,h1⟩
  . exact Rws.lst h4 b hb
theorem Rws.imp(hT:∀b ks,SqT K H b ks->SqT K H' b ks):∀{dss:List (List D)} {bs:List Addr},Rws K H dss bs->(∀b∈bs,∀xs,H b=some (.lst xs)->H' b=some (.lst xs))->Rws K H' dss bs
 | [],_,h,_=>h
 | ds::dss,_,h,k=>by
  obtain⟨b,r,xs,rfl,h1,h2,h3,h4⟩:=h
  exact⟨b,r,xs,rfl,k b Ak xs h1,h2,Reps.noT hT ds xs h2 h3,Rws.imp hT h4 λc hc=>k c (Ae _ hc)⟩
theorem Lx.imp{RT':Addr->Prop}{σ':Sg}{σV':L2.St}(L:Lx K RT Y old σ σV H)(m:Nat->Nat)(hs:∀j ds,σ'[j]? = some (.lent ds)->σ[m j]? = some (.lent ds)/\σV'[j]? = σV[m j]?)(hm:∀i j ds ds',σ'[i]? = some (.lent ds)->σ'[j]? = some (.lent ds')->m i=m j->i=j)
 (hh:∀a xs,H a=some (.lst xs)->RT a->old a->H' a=some (.lst xs)/\RT' a) (hr:∀ds xs,Reps K H (λa=>RT a\/exB Y old true a) ds xs->Reps K H' (λa=>RT' a\/exB Y old true a) ds xs)
 (hs2:∀j dss,σ'[j]? = some (.own2 dss)->σ[m j]? = some (.own2 dss)/\σV'[j]? = σV[m j]?) (hm2:∀i j dss dss',σ'[i]? = some (.own2 dss)->σ'[j]? = some (.own2 dss')->m i=m j->i=j)
 (hh2:∀p xs,H p=some (.lst xs)->Pt RT old σ σV p->H' p=some (.lst xs)/\Pt RT' old σ' σV' p) (hT:∀b ks,SqT K H b ks->SqT K H' b ks):Lx K RT' Y old σ' σV' H' where
 at':=λi ds e=>by
  obtain⟨e1,e2⟩:=hs i ds e
  obtain⟨a,xs,h1,h2,h3,h4,h5⟩:=L.at' (m i) ds e1
  obtain⟨g1,g2⟩:=hh a xs h2 h3 h4
  exact⟨a,xs,by rw[e2];exact h1,g1,g2,h4,hr ds xs h5⟩
 inj:=λi j ds ds' a q1 q2 v1 v2=>by
  obtain⟨e1,e2⟩:=hs i ds q1
  obtain⟨e3,e4⟩:=hs j ds' q2
  exact hm i j ds ds' q1 q2 (L.inj (m i) (m j) ds ds' a e1 e3 (by rw[<-e2];exact v1) (by rw[<-e4];exact v2))
 at2:=λi dss e=>by
  obtain⟨e1,e2⟩:=hs2 i dss e
  obtain⟨a,bs,h1,h2,h3,h4,h5⟩:=L.at2 (m i) dss e1
  have hb:∀b∈bs,∃xs,H b=some (.lst xs):=Rws.lst h5
  refine⟨a,bs,by rw[e2];exact h1,(hh2 a _ h2 (h3 a Ak)).1,λb hb'=>?_,h4,h5.imp hT λb hb' xs q=>(hh2 b xs q (h3 b (Ae _ hb'))).1⟩
  rcases Al.mp hb' with rfl|hb'
  . exact(hh2 b _ h2 (h3 b Ak)).2
  . obtain⟨xs,q⟩:=hb b hb'
    exact(hh2 b xs q (h3 b (Ae _ hb'))).2
 one:=λi j dss dss' q1 q2=>hm2 i j dss dss' q1 q2 (L.one _ _ _ _ (hs2 i dss q1).1 (hs2 j dss' q2).1)
theorem dB.imp{ex ex':Addr->Prop}(hT:∀b ks,SqT K H b ks->SqT K H' b ks)(hr:∀ds xs,Reps K H ex ds xs->Reps K H' ex' ds xs):∀{kvs:List (List Int×D)} {xs:TKV},dB K H ex kvs xs->dB K H' ex' kvs xs
 | [],_,h=>h
 | kv::kvs,_,h=>by
  obtain⟨x,r,e,h1,⟨v,h2,h3⟩,h4,h5⟩:=h
  obtain⟨_,_,e2,g,_⟩:=hr [kv.2] [v] ⟨v,[],rfl,h3,rfl⟩
  cases e2
  exact⟨x,r,e,h1,⟨v,h2,g⟩,hT _ _ h4,dB.imp hT hr h5⟩
theorem DOb.imp{ex ex':Addr->Prop}{a:Addr}{t:DT}(h:DOb K H ex a t)(hh:∀o,H a=some o->Mb o->(∀xs,o≠.lst xs)->H' a=some o)(hT:∀b ks,SqT K H b ks->SqT K H' b ks)(hr:∀ds xs,Reps K H ex ds xs->Reps K H' ex' ds xs):DOb K H' ex' a t:=by
 cases t with
 | s ks=>exact hh _ h (.inr (.inl ⟨_,rfl⟩)) (λ_ z=>by cases z)
 | m kvs=>
  obtain⟨xs,e,r⟩:=h
  exact⟨xs,hh _ e (.inr (.inr ⟨_,rfl⟩)) (λ_ z=>by cases z),r.imp hT hr⟩
theorem DOb.at{ex:Addr->Prop}{a:Addr}{t:DT}(h:DOb K H ex a t):∃o,H a=some o/\Mb o/\∀xs,o≠.lst xs:=by
 cases t with
 | s ks=>exact⟨_,h,.inr (.inl ⟨_,rfl⟩),λ_ z=>by cases z⟩
 | m kvs=>
  obtain⟨xs,e,r⟩:=h
  exact⟨_,e,.inr (.inr ⟨_,rfl⟩),λ_ z=>by cases z⟩
theorem Dx.imp{RT':Addr->Prop}{σ':Sg}{σV':L2.St}(L:Dx K RT Y old σ σV H)(m:Nat->Nat)(hs:∀j t,σ'[j]? = some (.dct t)->σ[m j]? = some (.dct t)/\σV'[j]? = σV[m j]?)(hm:∀i j t t',σ'[i]? = some (.dct t)->σ'[j]? = some (.dct t')->m i=m j->i=j)
 (hh:∀a o,H a=some o->(∀xs,o≠.lst xs)->RT a->¬ old a->H' a=some o/\RT' a) (hr:∀ds xs,Reps K H (λa=>RT a\/exB Y old true a) ds xs->Reps K H' (λa=>RT' a\/exB Y old true a) ds xs) (hT:∀b ks,SqT K H b ks->SqT K H' b ks):Dx K RT' Y old σ' σV' H' where
 at':=λi t e=>by
  obtain⟨e1,e2⟩:=hs i t e
  obtain⟨a,h1,h2,h3,h4⟩:=L.at' (m i) t e1
  obtain⟨o,q1,q2,q3⟩:=h4.at
  exact⟨a,by rw[e2];exact h1,(hh a o q1 q3 h2 h3).2,h3,h4.imp (λo' q _ q'=>(hh a o' q q' h2 h3).1) hT hr⟩
 inj:=λi j t t' a q1 q2 v1 v2=>by
  obtain⟨e1,e2⟩:=hs i t q1
  obtain⟨e3,e4⟩:=hs j t' q2
  exact hm i j t t' q1 q2 (L.inj (m i) (m j) t t' a e1 e3 (by rw[<-e2];exact v1) (by rw[<-e4];exact v2))
theorem RtO.grow{a:Addr}(h:RtO H a)(s:aF H H'):RtO H' a:=let ⟨o,e,m⟩:=h;⟨o,s _ _ e,m⟩
theorem RtO.ne{a:Addr}(h:RtO H a):H a≠none:=λz=>by
 obtain⟨o,e,_⟩:=h
 rw[z] at e;cases e
theorem RtO.lst{a:Addr}{xs:List V}(e:H a=some (.lst xs)):RtO H a:=⟨_,e,.inl ⟨_,rfl⟩⟩
theorem Sx.grow(S:Sx K RT Y old σ σV H)(s:aF H H')(t:Tk K H'):Sx K RT Y old σ σV H' where
 sh:=λi pa d e=>let ⟨v,h1,h2⟩:=S.sh i pa d e;⟨v,h1,h2.grow s⟩
 own:=λi pa ds e=>let ⟨a,xs,h1,h2,h3,h4,h5⟩:=S.own i pa ds e;⟨a,xs,h1,s _ _ h2,h3,h4,h5.grow s⟩
 trk:=λa h z=>S.trk a h (s.free z)
 yo:=S.yo
 tk:=t
 rt:=λa h=>(S.rt a h).grow s
 inj:=S.inj
 len:=S.len
 lx:=S.lx.imp id (λ_ _ e=>⟨e,rfl⟩) (λ_ _ _ _ _ _ e=>e) (λa xs e z _=>⟨s _ _ e,z⟩) (λ_ _ r=>r.grow s) (λ_ _ e=>⟨e,rfl⟩) (λ_ _ _ _ _ _ e=>e) (λp xs e z=>⟨s _ _ e,z⟩) λ_ _ r=>aF.seqT s r
 dx:=S.dx.imp id (λ_ _ e=>⟨e,rfl⟩) (λ_ _ _ _ _ _ e=>e) (λa o e _ z _=>⟨s _ _ e,z⟩) (λ_ _ r=>r.grow s) λ_ _ r=>aF.seqT s r
theorem exV.trk(S:Sx K RT Y old σ σV H){pa:Bool}{al:List Nat}{a:Addr}(h:exV RT Y old σ σV pa al a):H a≠none:=by
 rcases h with⟨h,_⟩|h|⟨_,h⟩
 . exact S.trk a (.inl h)
 . exact S.trk a (.inr (.inl h))
 . exact S.trk a (.inr (.inr h))
theorem Ro.rv(S:Sx K RT Y old σ σV H)(h:Ro K RT Y old σ σV H H' v u):Rv K RT Y old σ σV H' v u:=by
 obtain⟨s,h⟩:=h
 by_cases hf:v.fr=true
 . rw[if_pos hf] at h
   obtain⟨a,xs,ds,e1,e2,e3,e4,r⟩:=h
   unfold Rv
   rw[e2]
   exact⟨a,xs,e1,SqL.of e4,λz=>exV.trk S z e3,r.weak λb z=>.inr z⟩
 . rw[if_neg hf] at h
   exact h
theorem Rv.grow(h:Rv K RT Y old σ σV H v u)(s:aF H H'):Rv K RT Y old σ σV H' v u:=Rep.grow h s
theorem Rvs.grow:∀{vs:List Vl} {us:List V},Rvs K RT Y old σ σV H vs us->aF H H'->Rvs K RT Y old σ σV H' vs us
 | [],_,h,_=>h
 | v::vs,_,h,s=>by
  obtain⟨u,r,e,h1,h2⟩:=h
  exact⟨u,r,e,h1.grow s,Rvs.grow h2 s⟩
theorem Ro.plain(s:aF H H')(hf:v.fr=false)(h:Rv K RT Y old σ σV H' v u):Ro K RT Y old σ σV H H' v u:=⟨s,by rw[if_neg (by rw[hf];decide)];exact h⟩
theorem Ro.from(h:Ro K RT Y old σ σV H1 H' v u)(s:aF H H1):Ro K RT Y old σ σV H H' v u:=by
 obtain⟨s',h⟩:=h
 refine⟨s.trans s',?_⟩
 by_cases hf:v.fr=true
 . rw[if_pos hf] at h ⊢
   obtain⟨a,xs,ds,e1,e2,e3,e4,r⟩:=h
   exact⟨a,xs,ds,e1,e2,s.free e3,e4,r⟩
 . rw[if_neg hf] at h ⊢
   exact h
theorem Ro.cl{d:D}(s:aF H H')(h:Rep K H' (exV RT Y old σ σV false []) d u):Ro K RT Y old σ σV H H' (.cl d) u:=Ro.plain s rfl h
theorem Rv.sub{d:D}{x:V}{ds:List D}{xs:List V}{j:Nat}(h:Rep K H (exV RT Y old σ σV v.pa v.al) d x):Rv K RT Y old σ σV H (v.sub d) x:=by
 unfold Rv Vl.sub
 by_cases hn:noL d=true
 . rw[if_pos hn]
   exact Rep.free d x hn h
 . rw[if_neg hn]
   exact h
theorem alR.mono{al al':List Nat}{a:Addr}(h:alR σ σV al a)(s:∀j∈al,j∈al'):alR σ σV al' a:=by
 obtain⟨j,hj,q⟩:=h
 exact⟨j,s j hj,q⟩
theorem exV.mono{pa pa':Bool}{al al':List Nat}{a:Addr}(h:exV RT Y old σ σV pa' al' a)(hp:pa=true->pa'=true)(s:∀j∈al,j∈al'):exV RT Y old σ σV pa al a:=by
 rcases h with⟨h1,h2⟩|h|⟨h1,h2⟩
 . exact .inl ⟨h1,λz=>h2 (z.mono s)⟩
 . exact .inr (.inl h)
 . refine .inr (.inr ⟨?_,h2⟩)
   cases pa with
   | false=>rfl
   | true=>rw[hp rfl] at h1;cases h1
theorem Rvs.length:∀{vs:List Vl} {us:List V},Rvs K RT Y old σ σV H vs us->vs.length=us.length
 | [],_,h=>by rw[show _=[] from h];rfl
 | v::vs,_,h=>by
  obtain⟨u,r,e,_,h2⟩:=h
  subst e
  rw[lC,lC,Rvs.length h2]
theorem lV{vs:List Vl}{v:Vl}(h:v∈vs):∀j∈v.al,j∈bR vs:=λj hj=>List.mem_flatMap.mpr ⟨v,h,hj⟩
theorem gI{vs:List Vl}{v:Vl}(h:v∈vs)(hp:v.pa=true):aQ vs=true:=List.any_eq_true.mpr ⟨v,h,hp⟩
theorem Rvs.reps:∀{vs:List Vl} {us:List V} {pa:Bool} {al:List Nat},Rvs K RT Y old σ σV H vs us->(∀v∈vs,(v.pa=true->pa=true)/\∀j∈v.al,j∈al) ->
 Reps K H (exV RT Y old σ σV pa al) (vs.map (·.d)) us
 | [],_,_,_,h,_=>h
 | v::vs,_,_,_,h,q=>by
  obtain⟨u,r,e,h1,h2⟩:=h
  have q1:=q v Ak
  exact⟨u,r,e,Rep.weak h1 λa z=>z.mono q1.1 q1.2,Rvs.reps h2 λw hw=>q w (Ae _ hw)⟩
theorem Rvs.all{vs:List Vl}{us:List V}(h:Rvs K RT Y old σ σV H vs us):Reps K H (exV RT Y old σ σV (aQ vs) (bR vs)) (vs.map (·.d)) us:=
 h.reps λv hv=>⟨λz=>gI hv z,lV hv⟩
theorem Ro.fresh{p:Addr}{xs:List V}{ds:List D}(hp:H p=none)(ht:Tk K (upd H p (.lst xs)))(hd:v.d=.lst ds)(hf:v.fr=true)(S:Sx K RT Y old σ σV H)(r:Reps K H (exV RT Y old σ σV v.pa v.al) ds xs) :
 Ro K RT Y old σ σV H (upd H p (.lst xs)) v (.ref p):=by
 have s:aF H (upd H p (.lst xs)):=λb o q=>by rw[upd_ne (aU q hp)];exact q
 refine⟨s,?_⟩
 rw[if_pos hf]
 refine⟨p,xs,ds,rfl,hd,hp,aL,?_⟩
 refine Reps.imp (λ_ _ q=>aF.seqT s q) (λa ys n q=>⟨λz=>?_,s.seq q⟩) (λa ks n q=>⟨λz=>z.elim (λw=>by rw[w,hp] at q;cases q) n,s _ _ q⟩) ds xs r
 rcases z with z|z
 . subst z
   rcases q with(q|⟨o,q⟩)|⟨o,its,n',q,_⟩
   . rw[hp] at q;cases q
   . rw[hp] at q;cases q
   . have z:=ht a (by rw[aL];simp)
     rw[q] at z;cases z
 . exact n z
theorem aF.new{p:Addr}{o:HO}(hp:H p=none):aF H (upd H p o):=λb u q=>by rw[upd_ne (aU q hp)];exact q
theorem Ro.tup{p:Addr}{xs:List V}{ds:List D}(hp:H p=none)(hd:v.d=.tup ds)(hf:v.fr=false)(r:Reps K H (exV RT Y old σ σV v.pa v.al) ds xs) :
 Ro K RT Y old σ σV H (upd H p (.tup xs)) v (.ref p):=by
 refine Ro.plain (aF.new hp) hf ?_
 unfold Rv
 rw[hd]
 exact⟨p,xs,rfl,SqT.of aL,r.grow (aF.new hp)⟩
end
section
variable (X:Cx) (P:Pg) (cl:Caller) (RT Y old:Addr->Prop)
def wE(σ:Sg)(c:E):TE:=λσV H Q=>Sx X.K RT Y old σ σV H/\RE (ev P cl σ c) λv=>∀u H',Tk X.K H'->Ro X.K RT Y old σ σV H H' v u->Q u H'
def wT(σ:Sg)(c:E):TT:=λσV H Q=>Sx X.K RT Y old σ σV H/\RE (tst P cl σ c) λk=>∀H',Tk X.K H'->aF H H'->Q k H'
def wA(σ:Sg)(cs:Es):TA:=λσV H Q=>Sx X.K RT Y old σ σV H/\RE (evs P cl σ cs) λvs=>∀us H',Tk X.K H'->aF H H'->Rvs X.K RT Y old σ σV H' vs us->Q us H'
end
section
variable {X:Cx} {P:Pg} {cl:Caller} {RT Y old:Addr->Prop} {σ:Sg} {pos:Pos}
theorem _root_.L2.Inv.tk{pins:List (Addr×Obj)}{σV:L2.St}{H:Hp}{s:Shared}(I:Inv X pins σV H s):Tk X.K H:=λb hb=>by
 cases q:X.K.lookup b with
 | none=>rfl
 | some o=>exact absurd (I.bs b o (I.ok.mod.kin b o q)).2 hb
theorem _root_.L2.PE.imp{e:Expr}{t t':TE}(h:PE X e t)(f:∀σV H Q,Tk X.K H->t' σV H Q->t σV H λv H'=>Tk X.K H'->Q v H'):PE X e t':=λpins s σV H Q I hw=>
 thn (h pins s σV H _ I (f σV H Q I.tk hw)) λu s' ⟨v,H',I',r,q⟩=>⟨v,H',I',r,q I'.tk⟩
theorem _root_.L2.PT.imp{e:Expr}{t t':TT}(h:PT X e t)(f:∀σV H Q,Tk X.K H->t' σV H Q->t σV H λv H'=>Tk X.K H'->Q v H'):PT X e t':=λpins s σV H Q I hw=>
 thn (h pins s σV H _ I (f σV H Q I.tk hw)) λk s' ⟨H',I',q⟩=>⟨H',I',q I'.tk⟩
theorem _root_.L2.PA.imp{es:List Expr}{t t':TA}(h:PA X es t)(f:∀σV H Q,Tk X.K H->t' σV H Q->t σV H λv H'=>Tk X.K H'->Q v H'):PA X es t':=λpos pins s σV H Q I hw=>
 thn (h pos pins s σV H _ I (f σV H Q I.tk hw)) λu s' ⟨v,H',I',r,q⟩=>⟨v,H',I',r,q I'.tk⟩
theorem wE.two{a b:E}{σV:L2.St}{H:Hp}{p:Vl->Vl->Prop}{Q:V->V->Hp->Prop}(S:Sx X.K RT Y old σ σV H)(h:RE (ev P cl σ a) λx=>RE (ev P cl σ b) λy=>p x y)
 (f:∀x y ux uy H2,p x y->Tk X.K H2->aF H H2->Sx X.K RT Y old σ σV H2->Rv X.K RT Y old σ σV H2 x ux->Rv X.K RT Y old σ σV H2 y uy->Q ux uy H2) :
 wE X P cl RT Y old σ a σV H λux H1=>wE X P cl RT Y old σ b σV H1 λuy H2=>Q ux uy H2:=by
 refine⟨S,h.mono λx hx ux H1 t1 r1=>⟨S.grow r1.1 t1,hx.mono λy hy uy H2 t2 r2=>?_⟩⟩
 have S1:=S.grow r1.1 t1
 exact f x y ux uy H2 hy t2 (r1.1.trans r2.1) (S1.grow r2.1 t2) ((r1.rv S).grow r2.1) (r2.rv S1)
theorem Ro.val{d:D}{u:V}{σV:L2.St}{H H':Hp}(s:aF H H')(h:∀ex,Rep X.K H' ex d u):Ro X.K RT Y old σ σV H H' (.cl d) u:=Ro.cl s (h _)
theorem s_c {d : D} {c : Const} {k : Nat} (h : eqC d c = true) : PE X (.Constant c k pos) (wE X P cl RT Y old σ (.c d)) := by
 have key : ∀ {v : V}, (∀ (H : Hp) ex, Rep X.K H ex d v) -> PE X (.Constant c k pos) (tC v) -> PE X (.Constant c k pos) (wE X P cl RT Y old σ (.c d)) := λ hv hp =>
  hp.imp λ σV H Q t ⟨S, q⟩ t' => q _ H t' (Ro.val (aF.refl H) (hv H))
 cases d with
 | non => cases c with
  | none => exact key (λ _ _ => rfl) aFO
  | _ => cases h
 | bl b => cases c with
  | bool b' => have e : b = b' := by simpa [eqC] using h
               subst e; exact key (λ _ _ => rfl) aIG
  | _ => cases h
 | int b => cases c with
  | int b' => have e : b = b' := by simpa [eqC] using h
              subst e; exact key (λ _ _ => rfl) wG
  | _ => cases h
 | str b => cases c with
  | str b' => have e : b = b' := by simpa [eqC] using h
              subst e; exact key (λ _ _ => rfl) aFP
  | _ => cases h
 | _ => cases c <;> cases h
theorem s_v{i:Nat}{x:Str}(hN:X.N[i]? = some x)(hv:Vis X.env.scope x)(hd:(x==("__debug__" : Str))=false)(hcd:(x==("__classdict__" : Str))=false) :
 PE X (.Name x pos) (wE X P cl RT Y old σ (.v i)):=by
 refine(iR hN hv hd hcd).imp λσV H Q t ⟨S,q⟩=>?_
 have q:RE (cA σ i) _:=q
 unfold cA at q
 cases e:σ[i]? with
 | none=>rw[e] at q;exact q.elim
 | some sl=>
  rw[e] at q
  cases sl with
  | dead=>exact q.elim
  | lent _=>exact q.elim
  | own2 _=>exact q.elim
  | dct _=>exact q.elim
  | sh pa d=>
   obtain⟨v,h1,h2⟩:=S.sh i pa d e
   refine⟨v,h1,λt'=>q v H t' (Ro.plain (aF.refl H) rfl ?_)⟩
   unfold Rv
   by_cases hn:noL d=true
   . exact Rep.free d v hn h2
   . refine Rep.weak h2 λa z=>?_
     rcases z with⟨z,_⟩|z|⟨z,z'⟩
     . exact .inl z
     . exact .inr (.inl z)
     . have:pa=false:=by simpa[hn] using z
       exact .inr (.inr ⟨this,z'⟩)
  | own pa ds=>
   obtain⟨a,xs,h1,h2,h3,h4,h5⟩:=S.own i pa ds e
   refine⟨.ref a,h1,λt'=>q _ H t' (Ro.plain (aF.refl H) rfl ?_)⟩
   unfold Rv
   refine⟨a,xs,rfl,SqL.of h2,λz=>?_,h5.weak λb z=>?_⟩
   . rcases z with⟨_,z⟩|z|⟨_,z⟩
     . exact z ⟨i,by simp,⟨pa,ds,e⟩,h1⟩
     . exact h4 (S.yo a z)
     . exact h4 z
   . rcases z with⟨z,_⟩|z
     . exact .inl z
     . exact .inr z
end
def qB(prog:Program)(w:World)(K:Fg)(a:Addr)(t:List (Str×D)):Prop:=(a==sysModules)=false/\∃vs:List (Key×Value),(∀h:Heap,K.In h->h.DictOf (bS prog w) a vs) /\
 ∀k:Str,(t.lookup k=none/\valueAt vs (Sum.inr k:Key)=none)\/∃d u v,t.lookup k=some d/\valueAt vs (Sum.inr k:Key)=some u/\aW v u/\∀(H:Hp) (ex:Addr->Prop),Rep K H ex d v
section
variable {X:Cx}
theorem aEa{a:Addr}{t:List (Str×D)}{x:Str}{p ap cp:Pos}{e:Expr}{te:TE}(T:qB X.prog X.w X.K a t)(hg:Gl X x)(hm:X.mg x=some (.ref a))(hd:(x==("__debug__" : Str))=false)(he:PE X e te)(hline:(ap.endLine==cp.line)=true)
 (hs:starEach [e] X.env=[(false,eval e X.env)]) :
 PE X (.Call (.Attribute (.Name x p) "get" ap) [e] [] cp) (λσ H Q=>te σ H λu H1=>∃k,u=.str k/\∀v,(∀(H:Hp) (ex:Addr->Prop),Rep X.K H ex ((t.lookup k).getD .non) v)->Q v H1):=by
 intro pins s σ H Q I h
 obtain⟨hsys,vs,dict,look⟩:=T
 refine Dc rfl (by rw[hs];rfl) hline rfl (thn (yF (v:=.ref a) hg hm rfl hd pins s σ H (λv H1=>v=.ref a/\H1=H) I ⟨rfl,rfl⟩) λv s1 ⟨y,H1,I1,r1,e1,e2⟩=>?_)
 subst e1 e2
 obtain rfl:v=Value.ref a:=r1
 have dd:=dict s1.heap I1.kIn
 refine⟨"dict", "dict.get",Eb,Dg,PySem.F.type_dict_get,dd.typeIs,λb q=>?_,?_⟩
 . cases q
   obtain⟨ob,_,_,h1,h2,_⟩:=dd
   exact⟨ob,h1,h2.2.1⟩
 . have hA:=(bQ he cT hs) cp pins s1 σ H1 (λus H2=>match us with|[u]=>(∃k,u=.str k/\∀v,(∀(H:Hp) (ex:Addr->Prop),Rep X.K H ex ((t.lookup k).getD .non) v)->Q v H2)|_=>False) I1 h
   rw[hs] at hA ⊢
   refine Dd rfl (Dl ?_)
   refine thn hA λus s2 ⟨xs,H2,I2,r2,q2⟩=>?_
   match xs,r2,q2 with
   | [y],.cons ry .nil,q2=>
    obtain⟨k,ey,q2⟩:=q2
    subst ey
    obtain⟨tk,rfl⟩:=ry
    have dd2:=dict s2.heap I2.kIn
    refine call_meetsIn Dg dd2.typeIs PySem.F.entry_dict_get (PySem.F.args_dict_get_2 _ _) (meets_dict_get (bS X.prog X.w) a (k:=(Sum.inr k:Key)) (pP k tk) hsys) ⟨_,dd2.mapOf,?_⟩
    rcases look k with⟨l1,l2⟩|⟨d,u,v,l1,l2,rv,rep⟩
    . rw[l2]
      refine⟨.non,H2,I2.tok _,rfl,q2 .non λH ex=>?_⟩
      rw[l1]
      rfl
    . rw[l2]
      refine⟨v,H2,I2.tok _,rv,q2 v λH ex=>?_⟩
      rw[l1]
      exact rep H ex
end
section
variable {X:Cx} {RT Y old:Addr->Prop} {σ:Sg} {σV:L2.St} {H:Hp} {s:Shared} {pins:List (Addr×Obj)} {Q:VK} {ux uy:V} {vx vy:Value} {x y:Vl}
theorem _root_.L2.EP.tk{u:Value}{s':Shared}(h:EP X pins σV (λv H'=>Tk X.K H'->Q v H') u s'):EP X pins σV Q u s':=by
 obtain⟨v,H',I',r,q⟩:=h
 exact⟨v,H',I',r,q (Inv.tk I')⟩
abbrev Wn(X:Cx)(RT Y old:Addr->Prop)(σ:Sg)(σV:L2.St)(H:Hp)(Q:VK)(v:Vl):Prop:=∀u H',Tk X.K H'->Ro X.K RT Y old σ σV H H' v u->Q u H'
theorem Wn.val{d:D}{u:V}(w:Wn X RT Y old σ σV H Q (.cl d))(t:Tk X.K H)(h:∀ex,Rep X.K H ex d u):Q u H:=w u H t (Ro.cl (aF.refl H) (h _))
theorem Rv.int{i:Int}{u:V}(h:Rv X.K RT Y old σ σV H x u)(e:x.d=.int i):u=.int i:=by unfold Rv at h;rw[e] at h;exact h
theorem Rv.str{i:Str}{u:V}(h:Rv X.K RT Y old σ σV H x u)(e:x.d=.str i):u=.str i:=by unfold Rv at h;rw[e] at h;exact h
theorem Rv.bl{i:Bool}{u:V}(h:Rv X.K RT Y old σ σV H x u)(e:x.d=.bl i):u=.bl i:=by unfold Rv at h;rw[e] at h;exact h
theorem Rv.non{u:V}(h:Rv X.K RT Y old σ σV H x u)(e:x.d=.non):u=.non:=by unfold Rv at h;rw[e] at h;exact h
theorem Rv.tup{ds:List D}{u:V}(h:Rv X.K RT Y old σ σV H x u)(e:x.d=.tup ds):∃a xs,u=.ref a/\SqT X.K H a xs/\Reps X.K H (exV RT Y old σ σV x.pa x.al) ds xs:=by unfold Rv at h;rw[e] at h;exact h
theorem Rv.lst{ds:List D}{u:V}(h:Rv X.K RT Y old σ σV H x u)(e:x.d=.lst ds):∃a xs,u=.ref a/\SqL X.K H a xs/\¬ exV RT Y old σ σV x.pa x.al a/\Reps X.K H (exV RT Y old σ σV x.pa x.al) ds xs:=by unfold Rv at h;rw[e] at h;exact h
theorem aGu:lim<=sizeLine:=by unfold lim;rw[Be];decide
theorem dR{n:Nat}(h:n<=lim):n<=sizeLine:=Av h aGu
theorem eJ{ds:List D}{xs:List V}{pa:Bool}{al:List Nat}{K:Fg}(r:Reps K H (exV RT Y old σ σV pa al) ds xs) :
 Reps K H (exV RT Y old σ σV (pa&&!noLs ds) (if noLs ds=true then [] else al)) ds xs:=by
 by_cases hn:noLs ds=true
 . exact Reps.free ds xs hn r
 . rw[if_neg hn]
   refine r.weak λa z=>z.mono (λhp=>?_) λj hj=>hj
   rw[hp];simp[hn]
def aJB(K:Fg):R2:=λx y H Q=>∃l b xs zs,x=.ref l/\y=.ref b/\SqL K H l xs/\SqL K H b zs/\xs.length+zs.length<=sizeLine/\∀p,H p=none->Q (.ref p) (upd H p (.lst (xs++zs)))
theorem aEb:OpR X (binaryOp .Add) (aJB X.K):=by
 intro pins s σV H x y v u Q I rx ry h
 obtain⟨l,b,xs,zs,rfl,rfl,hH,hB,hz,q⟩:=h
 cases rx
 cases ry
 obtain⟨its,r,pl,z⟩:=I.list hH
 obtain⟨its2,r2,pl2,z2⟩:=I.list hB
 obtain⟨⟨cls,dd,data,sl⟩,ho,hc,n,hd⟩:=pl.isList
 obtain⟨⟨cls2,dd2,data2,sl2⟩,ho2,hc2,n2,hd2⟩:=pl2.isList
 simp only at hc hd hc2 hd2
 subst hc hd hc2 hd2
 have e:its.toArray++its2.toArray=(its++its2).toArray:=by simp
 have hl:=r.length
 have hl2:=r2.length
 refine concat_meets ⟨_,ho,rfl⟩ ⟨_,ho2,rfl⟩ noFill_list_add seq_list_add PySem.F.slot_list_add PySem.F.entry_list_add (PySem.F.args_list_add_2 _ _) (list_addW l b its.toArray its2.toArray n n2 dd dd2 sl sl2 (by rw[Af,Af];omega)) ⟨ho,ho2,?_⟩
 rw[e]
 exact⟨.ref _,_,I.lnew (t':=s.toks) (r.append r2) (by rw[lA];omega),rfl,q _ I.fresh⟩
theorem aEc(x:Str):Str.rep x 1=x:=by
 unfold Str.rep
 cases x
 simp
theorem aAA(x:Str)(h:x.length=0)(k:Nat):Str.rep x k=x:=by
 have hx:x.cps=#[]:=by
  unfold Str.length at h
  exact Array.eq_empty_of_size_eq_zero h
 have go:∀k,(List.replicate k x.cps).foldl (·++·) #[]=#[]:=by
  intro k
  rw[hx]
  induction k with
  | zero=>rfl
  | succ k ih=>rw[Bp,Cb];simpa using ih
 unfold Str.rep
 rw[go k]
 cases x
 simp at hx
 rw[hx]
theorem xD(x:Str)(k:Nat):(⟨(List.replicate k x.cps).foldl (·++·) #[]⟩:Str).length=x.length*k:=by
 have go:∀(k:Nat) (acc:Array Nat),((List.replicate k x.cps).foldl (·++·) acc).size=acc.size+x.cps.size*k:=by
  intro k
  induction k with
  | zero=>intro acc;simp
  | succ k ih=>
   intro acc
   rw[Bp,Cb,ih,Array.size_append,Nat.mul_succ]
   omega
 show((List.replicate k x.cps).foldl (·++·) #[]).size=x.cps.size*k
 rw[go]
 simp
theorem aEd:OpR X (binaryOp .Mult) (λx y H Q=>∃a k,x=.str a/\y=.int k/\aI k=true/\a.length*k.toNat<=lim/\Q (.str (Str.rep a k.toNat)) H):=by
 intro pins s σV H x y v u Q I rx ry h
 obtain⟨a,k,rfl,rfl,hk,hl,q⟩:=h
 obtain⟨t,rfl⟩:=rx
 obtain⟨t',rfl⟩:=ry
 unfold aI at hk
 simp only[bA,A4] at hk
 have h1:-(2 ^ 62:Int)<=k:=hk.1
 have h2:k<(2 ^ 62:Int):=hk.2
 have e1:decide (k < -(2 ^ 63:Int))=false:=Aw (by omega)
 have e2:decide (k ≥ (2 ^ 63:Int))=false:=Aw (by omega)
 have fin:∀z:Str,z=Str.rep a k.toNat->∀tk,EP X pins σV Q (.str z tk) { s with toks:=s.toks+1 }:=λz e tk=>by
  subst e
  exact⟨.str _,H,I.tok _,⟨_,rfl⟩,q⟩
 refine P.mul_str (by rw[e1,e2];rfl) (λn1 n2 z=>?_) (λn1 n2=>?_) ?_
 . have k1:1<=k:=by omega
   have z1:(a.length:Int)*k<=(lim:Int):=by
    have hk':((k.toNat:Nat):Int)=k:=by omega
    have:=Int.ofNat_le.mpr hl
    rw[Int.natCast_mul] at this
    rw[<-hk']
    exact_mod_cast this
   have z2:(2 ^ 63-1:Int) / k<a.length:=z
   have z3:(2 ^ 63-1:Int)<a.length*k:=Int.lt_mul_of_ediv_lt (by omega) z2
   have z4:(lim:Int)=1000000:=rfl
   omega
 . unfold Builtin.Str.tooLong
   have:=dR hl
   exact Aw (by omega)
 . split
   . rename_i hn
     have:k.toNat=0:=by omega
     refine⟨by decide,?_⟩
     exact fin _ (by rw[this];rfl) _
   . split
     . rename_i hn h1'
       have hz:Str.rep a k.toNat=a:=by
        rcases Bool.or_eq_true_iff.mp h1' with z|z
        . have:k=1:=eq_of_beq z
          subst this
          exact aEc a
        . exact aAA a (eq_of_beq z) _
       exact⟨.str a,H,I,⟨_,rfl⟩,by rw[hz] at q;exact q⟩
     . refine⟨?_,fin _ rfl _⟩
       have:=dR hl
       rw[xD]
       exact this
def aGv(K:Fg):R2:=λx y H Q=>∃a b xs ys,x=.ref a/\y=.ref b/\SqT K H a xs/\SqT K H b ys/\xs.length+ys.length<=sizeLine /\
 (xs=[]->Q (.ref b) H)/\(xs≠[]->ys=[]->Q (.ref a) H)/\(xs≠[]->ys≠[]->∀p,H p=none->Q (.ref p) (upd H p (.tup (xs++ys))))
theorem aBT:OpR X (binaryOp .Add) (aGv X.K):=by
 intro pins s σ H x y v u Q I rx ry h
 obtain⟨a,b,xs,ys,rfl,rfl,ha,hb,hz,q0,q1,q2⟩:=h
 by_cases hx:xs=[]
 . cases rx
   cases ry
   obtain⟨its,r1,p1,_⟩:=I.tuple ha
   obtain⟨its2,r2,p2,_⟩:=I.tuple hb
   obtain⟨⟨cls,dd,data,sl⟩,ho,hc,n,hd⟩:=id p1
   obtain⟨⟨cls2,dd2,data2,sl2⟩,ho2,hc2,n2,hd2⟩:=id p2
   simp only at hc hd hc2 hd2
   subst hc hd hc2 hd2
   have hi:its=[]:=r1.nil_iff.mpr hx
   exact concat_meets ⟨_,ho,rfl⟩ ⟨_,ho2,rfl⟩ noFill_tuple_add seq_tuple_add Ed Ea (Dz _ _)
    (tuple_addW0 a b its.toArray its2.toArray n n2 dd dd2 sl sl2 (by simp[hi])) ⟨ho,ho2,⟨.ref b,H,I,rfl,q0 hx⟩⟩
 . exact aDO pins s σ H _ _ v u Q I rx ry ⟨a,b,xs,ys,rfl,rfl,ha,hb,hx,hz,q1 hx,q2 hx⟩
theorem uE{o:Operator}(I:Inv X pins σV H s)(S:Sx X.K RT Y old σ σV H)(rx:aW ux vx)(ry:aW uy vy)(hx:Rv X.K RT Y old σ σV H x ux)(hy:Rv X.K RT Y old σ σV H y uy)
 (hfr:x.fr=true->∃a xs,ux=.ref a/\H a=some (.lst xs)) (h:RE (opD o x y) (Wn X RT Y old σ σV H Q)):wpAny (model X.prog X.w) X.A (binaryOp o vx vy) (EP X pins σV Q) X.xe s:=by
 have t:=Inv.tk I
 have go:∀{f:Value->Value->Sem Value} {r:R2},OpR X f r->(r ux uy H λv H'=>Tk X.K H'->Q v H')->wpAny (model X.prog X.w) X.A (f vx vy) (EP X pins σV Q) X.xe s:=λhr q=>
  thn (hr pins s σV H ux uy vx vy _ I rx ry q) λu s' z=>EP.tk z
 cases o with
 | Add=>
  have h:RE (aGn x y) (Wn X RT Y old σ σV H Q):=h
  unfold aGn at h
  split at h
  . rename_i i j d1 d2
    exact go aGb ⟨i,j,hx.int d1,hy.int d2,λ_=>h.val t λ_=>rfl⟩
  . rename_i i j d1 d2
    obtain⟨c,h⟩:=h.iff
    exact go wN ⟨i,j,hx.str d1,hy.str d2,dR (As c),λ_=>Wn.val h t λ_=>rfl⟩
  . rename_i as bs d1 d2
    obtain⟨c,h⟩:=h.iff
    obtain⟨a,xs,e1,q1,r1⟩:=hx.tup d1
    obtain⟨b,ys,e2,q2,r2⟩:=hy.tup d2
    have l1:=r1.length
    have l2:=r2.length
    have c':=As c
    have r1':Reps X.K H (exV RT Y old σ σV (x.pa||y.pa) (x.al++y.al)) as xs:=r1.weak λa z=>z.mono (λhp=>by rw[hp];rfl) λj hj=>A9 _ hj
    have r2':Reps X.K H (exV RT Y old σ σV (x.pa||y.pa) (x.al++y.al)) bs ys:=r2.weak λa z=>z.mono (λhp=>by rw[hp,De]) λj hj=>Aq _ hj
    refine go aBT ⟨a,b,xs,ys,e1,e2,q1,q2,dR (by omega),λz t'=>?_,λz z' t'=>?_,λz z' p hp t'=>?_⟩
    . subst z
      have:as=[]:=List.length_eq_zero_iff.mp (by simpa using l1)
      subst this
      exact h _ _ t' (Ro.plain (aF.refl H) rfl ⟨b,ys,rfl,q2,r2'⟩)
    . subst z'
      have:bs=[]:=List.length_eq_zero_iff.mp (by simpa using l2)
      subst this
      exact h _ _ t' (Ro.plain (aF.refl H) rfl ⟨a,xs,rfl,q1,by rw[Bt];exact r1'⟩)
    . exact h _ _ t' (Ro.tup hp rfl rfl (r1'.append r2'))
  . rename_i as bs d1 d2
    obtain⟨c,h⟩:=h.iff
    obtain⟨a,xs,e1,q1,_,r1⟩:=hx.lst d1
    obtain⟨b,ys,e2,q2,_,r2⟩:=hy.lst d2
    have l1:=r1.length
    have l2:=r2.length
    have c':=As c
    refine go aEb ⟨a,b,xs,ys,e1,e2,q1,q2,dR (by omega),λp hp t'=>h _ _ t' (Ro.fresh hp t' rfl rfl S ?_)⟩
    refine Reps.append ((eJ r1).weak λa z=>z.mono (λhp=>?_) λj hj=>A9 _ hj) ((eJ r2).weak λa z=>z.mono (λhp=>?_) λj hj=>Aq _ hj)
    . show(_||_)=true
      rw[hp];rfl
    . show(_||_)=true
      rw[hp,De]
  . exact h.elim
 | Mult=>
  have h:RE (aGo x y) (Wn X RT Y old σ σV H Q):=h
  unfold aGo at h
  split at h
  . rename_i i j d1 d2
    obtain⟨c,h⟩:=h.iff
    refine go aGd ⟨i,j,hx.int d1,hy.int d2,?_,λ_=>Wn.val h t λ_=>rfl⟩
    simp only[pX,Cv,bA,A4] at c
    exact c
  . rename_i i j d1 d2
    obtain⟨c,h⟩:=h.iff
    simp only[bA,A4] at c
    exact go aEd ⟨i,j,hx.str d1,hy.int d2,c.1,c.2,λ_=>Wn.val h t λ_=>rfl⟩
  . rename_i as k d1 d2
    obtain⟨c,h⟩:=h.iff
    simp only[bA,A4] at c
    obtain⟨a,xs,e1,q1,_,r1⟩:=hx.lst d1
    obtain⟨a',xs',e1',q1'⟩:=hfr c.1.1.1
    rw[e1] at e1'
    cases e1'
    have e3:xs=xs':=I.list_inj q1 (SqL.of q1')
    subst e3
    have l1:=r1.length
    have hk:=c.1.1.2
    unfold aI at hk
    simp only[bA,A4] at hk
    have hk1:=hk.1
    have hk2:=hk.2
    refine go aGm ⟨a,k,xs,e1,hy.int d2,q1',by omega,by omega,dR (by rw[<-l1];exact c.1.2),λp hp t'=>h _ _ t' (Ro.fresh hp t' rfl rfl S ?_)⟩
    exact Reps.flat (Reps.free as xs c.2 r1) _
  . exact h.elim
 | Sub=>
  dsimp only[opD,tZ] at h
  split at h
  . rename_i i j d1 d2
    exact go aGc ⟨i,j,hx.int d1,hy.int d2,λ_=>h.val t λ_=>rfl⟩
  . exact h.elim
 | FloorDiv=>
  dsimp only[opD,tZ] at h
  split at h
  . rename_i i j d1 d2
    obtain⟨c,h⟩:=h.iff
    refine go aDH ⟨i,j,hx.int d1,hy.int d2,?_,λ_=>Wn.val h t λ_=>rfl⟩
    simp only[tY,bA,A4] at c
    exact c
  . exact h.elim
 | Mod=>
  dsimp only[opD,tZ] at h
  split at h
  . rename_i i j d1 d2
    obtain⟨c,h⟩:=h.iff
    exact go aGe ⟨i,j,hx.int d1,hy.int d2,As c,λ_=>Wn.val h t λ_=>rfl⟩
  . exact h.elim
 | Pow=>
  dsimp only[opD,tZ] at h
  split at h
  . rename_i i j d1 d2
    obtain⟨c,h⟩:=h.iff
    refine go aGf ⟨i,j,hx.int d1,hy.int d2,?_,λ_=>Wn.val h t λ_=>rfl⟩
    simp only[aFi,bA,A4] at c
    exact⟨c.1.1,by omega,c.2⟩
  . exact h.elim
 | _=>exact h.elim
end
end Hp
end
noncomputable section
namespace Hp
open PySem PySem.Spec PyProof.Rows L2 PySem.SeqAt
def gJ(n:Nat)(ds es:List D)(j:Nat):Bool:=match ds[j]?,es[j]? with
 | some x,some y=>(eqF n x y).getD false
 | _,_=>false
theorem yQ:∀{n:Nat} {ds es:List D} {k:Bool},eB n ds es=some k->∀{j:Nat} {x y:D},ds[j]? = some x->es[j]? = some y->∃b,eqF n x y=some b
 | n,[],es,k,h,j,x,y,e1,e2=>by simp at e1
 | n,d::ds,[],k,h,j,x,y,e1,e2=>by simp at e2
 | n,d::ds,e::es,k,h,j,x,y,e1,e2=>by
  rw[eB] at h
  cases h1:eqF n d e with
  | none=>rw[h1] at h;simp at h
  | some b=>
   cases h2:eB n ds es with
   | none=>rw[h1,h2] at h;simp at h
   | some b'=>
    cases j with
    | zero=>simp at e1 e2;subst e1 e2;exact⟨b,h1⟩
    | succ j=>exact yQ h2 (by simpa using e1) (by simpa using e2)
theorem nW:∀{n:Nat} {ds es:List D} {k:Bool},eB n ds es=some k->k=((List.range (min ds.length es.length)).all (gJ n ds es)&&ds.length==es.length)
 | n,[],[],k,h=>by simp[eB] at h;simp[<-h]
 | n,[],e::es,k,h=>by simp[eB] at h;simp[<-h]
 | n,d::ds,[],k,h=>by simp[eB] at h;simp[<-h]
 | n,d::ds,e::es,k,h=>by
  rw[eB] at h
  cases h1:eqF n d e with
  | none=>rw[h1] at h;simp at h
  | some b=>
   cases h2:eB n ds es with
   | none=>rw[h1,h2] at h;simp at h
   | some b'=>
    rw[h1,h2] at h
    have hk:(b&&b')=k:=Ai h
    have ih:=nW h2
    have e0:gJ n (d::ds) (e::es) 0=b:=by simp[gJ,h1]
    have es':∀j,gJ n (d::ds) (e::es) (j+1)=gJ n ds es j:=λj=>by simp[gJ]
    have hm:min (d::ds).length (e::es).length=min ds.length es.length+1:=by simp only[lC];omega
    rw[hm,List.range_succ_eq_map,List.all_cons,e0,List.all_map]
    have:(gJ n (d::ds) (e::es))∘Nat.succ=gJ n ds es:=funext λj=>es' j
    rw[this,<-hk,ih]
    simp[Bool.and_assoc]
section
variable {X:Cx} {σV:L2.St} {H:Hp} {s:Shared} {pins:List (Addr×Obj)}
theorem _root_.L2.Inv.lt_ne(I:L2.Inv X pins σV H s){a:Addr}{xs ys:List V}(h1:SqL X.K H a xs)(h2:SqT X.K H a ys):False:=by
 obtain⟨its,_,pl,_⟩:=I.list h1
 obtain⟨its2,_,pt,_⟩:=I.tuple h2
 exact ne_of_list_tuple pl.isList (show s.heap.IsTuple a its2.toArray from pt) rfl
theorem aBU{n:Nat}{ds:List (D×D)}{e:D}{k:Bool}(h:eqF (n+1) (.dic ds) e=some k):False:=by
 unfold eqF at h
 split at h <;> first|(cases h;done)|(rename_i e1 e2;cases e1;done)|(rename_i e1;cases e1;done)
mutual
theorem rQ(I:L2.Inv X pins σV H s):∀(n:Nat) (d e:D) (u:V) (k:Bool) (ex ex':Addr->Prop),Rep X.K H ex d u->Rep X.K H ex' e u->eqF n d e=some k->k=true
 | 0,d,e,u,k,_,_,_,_,h=>by simp[eqF] at h
 | n+1,.non,e,u,k,_,_,h1,h2,h=>by
  rw[show u=.non from h1] at h2
  cases e with
  | non=>simpa[eqF] using h.symm
  | tup ds=>obtain⟨a,xs,z,_⟩:=h2;cases z
  | lst ds=>obtain⟨a,xs,z,_⟩:=h2;cases z
  | dic ds=>obtain⟨a,xs,z,_⟩:=h2;cases z
  | err _ _=>exact h2.elim
  | bl b=>cases(show V.non=.bl b from h2)
  | int b=>cases(show V.non=.int b from h2)
  | str b=>cases(show V.non=.str b from h2)
 | n+1,.bl b,e,u,k,_,_,h1,h2,h=>by
  rw[show u=.bl b from h1] at h2
  cases e with
  | bl b'=>cases(show V.bl b=.bl b' from h2);simpa[eqF] using h.symm
  | tup ds=>obtain⟨a,xs,z,_⟩:=h2;cases z
  | lst ds=>obtain⟨a,xs,z,_⟩:=h2;cases z
  | dic ds=>obtain⟨a,xs,z,_⟩:=h2;cases z
  | err _ _=>exact h2.elim
  | non=>cases(show V.bl b=.non from h2)
  | int b'=>cases(show V.bl b=.int b' from h2)
  | str b'=>cases(show V.bl b=.str b' from h2)
 | n+1,.int b,e,u,k,_,_,h1,h2,h=>by
  rw[show u=.int b from h1] at h2
  cases e with
  | int b'=>cases(show V.int b=.int b' from h2);simpa[eqF] using h.symm
  | tup ds=>obtain⟨a,xs,z,_⟩:=h2;cases z
  | lst ds=>obtain⟨a,xs,z,_⟩:=h2;cases z
  | dic ds=>obtain⟨a,xs,z,_⟩:=h2;cases z
  | err _ _=>exact h2.elim
  | non=>cases(show V.int b=.non from h2)
  | bl b'=>cases(show V.int b=.bl b' from h2)
  | str b'=>cases(show V.int b=.str b' from h2)
 | n+1,.str b,e,u,k,_,_,h1,h2,h=>by
  rw[show u=.str b from h1] at h2
  cases e with
  | str b'=>cases(show V.str b=.str b' from h2);simpa[eqF] using h.symm
  | tup ds=>obtain⟨a,xs,z,_⟩:=h2;cases z
  | lst ds=>obtain⟨a,xs,z,_⟩:=h2;cases z
  | dic ds=>obtain⟨a,xs,z,_⟩:=h2;cases z
  | err _ _=>exact h2.elim
  | non=>cases(show V.str b=.non from h2)
  | bl b'=>cases(show V.str b=.bl b' from h2)
  | int b'=>cases(show V.str b=.int b' from h2)
 | n+1,.tup ds,e,u,k,ex,ex',h1,h2,h=>by
  obtain⟨a,xs,z,q,r⟩:=h1
  subst z
  cases e with
  | tup es=>
   obtain⟨a',ys,z,q',r'⟩:=h2
   cases z
   have:xs=ys:=I.tuple_inj q q'
   subst this
   exact eqs_same I n ds es xs k ex ex' r r' (by simpa[eqF] using h)
  | lst es=>
   obtain⟨a',ys,z,q',_,r'⟩:=h2
   cases z
   exact(I.lt_ne q' q).elim
  | dic ds=>simp[eqF] at h
  | err _ _=>exact h2.elim
  | non=>cases(show V.ref a=.non from h2)
  | bl b'=>cases(show V.ref a=.bl b' from h2)
  | int b'=>cases(show V.ref a=.int b' from h2)
  | str b'=>cases(show V.ref a=.str b' from h2)
 | n+1,.lst ds,e,u,k,ex,ex',h1,h2,h=>by
  obtain⟨a,xs,z,q,_,r⟩:=h1
  subst z
  cases e with
  | lst es=>
   obtain⟨a',ys,z,q',_,r'⟩:=h2
   cases z
   have:xs=ys:=I.list_inj q q'
   subst this
   have hl:ds.length=es.length:=r.length.trans r'.length.symm
   exact eqs_same I n ds es xs k ex ex' r r' (by simpa[eqF,hl] using h)
  | tup es=>
   obtain⟨a',ys,z,q',r'⟩:=h2
   cases z
   exact(I.lt_ne q q').elim
  | dic ds=>simp[eqF] at h
  | err _ _=>exact h2.elim
  | non=>cases(show V.ref a=.non from h2)
  | bl b'=>cases(show V.ref a=.bl b' from h2)
  | int b'=>cases(show V.ref a=.int b' from h2)
  | str b'=>cases(show V.ref a=.str b' from h2)
 | n+1,.dic ds,e,u,k,ex,ex',h1,h2,h=>by
  exact(aBU h).elim
 | n+1,.err _ _,e,u,k,ex,ex',h1,h2,h=>h1.elim
theorem eqs_same(I:L2.Inv X pins σV H s):∀(n:Nat) (ds es:List D) (us:List V) (k:Bool) (ex ex':Addr->Prop),Reps X.K H ex ds us->Reps X.K H ex' es us->eB n ds es=some k->k=true
 | n,[],[],us,k,_,_,h1,h2,h=>by simpa[eB] using h.symm
 | n,[],e::es,us,k,_,_,h1,h2,h=>by
  obtain⟨x,r,z,_⟩:=h2
  rw[show us=[] from h1] at z;cases z
 | n,d::ds,[],us,k,_,_,h1,h2,h=>by
  obtain⟨x,r,z,_⟩:=h1
  rw[show us=[] from h2] at z;cases z
 | n,d::ds,e::es,us,k,ex,ex',h1,h2,h=>by
  obtain⟨x,r,z,a1,b1⟩:=h1
  obtain⟨x',r',z',a2,b2⟩:=h2
  rw[z] at z'
  cases z'
  rw[eB] at h
  cases q1:eqF n d e with
  | none=>rw[q1] at h;simp at h
  | some b=>
   cases q2:eB n ds es with
   | none=>rw[q1,q2] at h;simp at h
   | some b'=>
    rw[q1,q2] at h
    have e1:=rQ I n d e x b ex ex' a1 a2 q1
    have e2:=eqs_same I n ds es r b' ex ex' b1 b2 q2
    subst e1 e2
    simpa using h.symm
end
def Eq3(A:Around)(s:Shared)(v z:Value)(k:Bool):Prop:=EqAt A s v z k/\RcAt A s v z k/\RcNeAt A s v z (!k)
theorem yR{xs:List V}{us:List Value}(r:aM xs us){j:Nat}(h:j<us.toArray.size):∃x,xs[j]? = some x/\aW x us.toArray[j]:=by
 have hl:=r.length
 have hj:j<xs.length:=by rw[Af] at h;omega
 obtain⟨u,e,q⟩:=r.get (An hj)
 refine⟨xs[j],An hj,?_⟩
 have:us.toArray[j]=u:=by
  have e':us[j]? = some us.toArray[j]:=by simp[An (show j<us.length by simpa using h)]
  rw[e'] at e
  exact Ai e
 rw[this]
 exact q
theorem aAB(A:Around):A.in1.units=A.units+1:=rfl
theorem aEe(I:L2.Inv X pins σV H s):∀(n:Nat) (A:Around) (d e:D) (u w:V) (v z:Value) (k:Bool) (ex ex':Addr->Prop),A.units+n<cLine->Rep X.K H ex d u->Rep X.K H ex' e w->aW u v->aW w z->eqF n d e=some k->Eq3 A s v z k:=by
 intro n
 induction n with
 | zero=>intro A d e u w v z k ex ex' _ _ _ _ _ h;simp[eqF] at h
 | succ n ih=>
  intro A d e u w v z k ex ex' hA h1 h2 r1 r2 h
  have hu:A.units<cLine:=by omega
  have items:∀{ds es:List D} {xs ys:List V} {its its2:List Value} {k:Bool},Reps X.K H ex ds xs->Reps X.K H ex' es ys->aM xs its->aM ys its2->eB n ds es=some k ->
   ∀j (_:j<its.toArray.size) (_:j<its2.toArray.size),EqAt A.in1 s its.toArray[j] its2.toArray[j] (gJ n ds es j):=by
   intro ds es xs ys its its2 k q1 q2 v1 v2 hk j hj1 hj2
   obtain⟨x,ex1,rx⟩:=yR v1 hj1
   obtain⟨y,ey1,ry⟩:=yR v2 hj2
   obtain⟨d',ed,rd⟩:=q1.get' ex1
   obtain⟨e',ee,re⟩:=q2.get' ey1
   obtain⟨b,hb⟩:=yQ hk ed ee
   have hj:gJ n ds es j=b:=by simp[gJ,ed,ee,hb]
   rw[hj]
   exact(ih A.in1 d' e' x y _ _ b ex ex' (by rw[aAB];omega) rd re rx ry hb).1
  cases d with
  | err _ _=>exact h1.elim
  | dic ds=>
   exact(aBU h).elim
  | non=>
   rw[show u=.non from h1] at r1
   cases r1
   cases e with
   | err _ _=>exact h2.elim
   | dic _=>simp[eqF] at h
   | non=>rw[show w=.non from h2] at r2;cases r2;simp[eqF] at h;subst h;exact⟨EqAt.same _,RcAt.none_none,RcNeAt.none_none⟩
   | bl b=>rw[show w=.bl b from h2] at r2;cases r2;simp[eqF] at h;subst h;exact⟨EqAt.none_bool _,RcAt.none_bool _,RcNeAt.none_bool _⟩
   | int b=>rw[show w=.int b from h2] at r2;obtain⟨t,rfl⟩:=r2;simp[eqF] at h;subst h;exact⟨EqAt.none_int _ _,RcAt.none_int _ _,RcNeAt.none_int _ _⟩
   | str b=>rw[show w=.str b from h2] at r2;obtain⟨t,rfl⟩:=r2;simp[eqF] at h;subst h;exact⟨EqAt.none_str _ _,RcAt.none_str _ _,RcNeAt.none_str _ _⟩
   | tup es=>
    obtain⟨b,ys,rfl,q,r⟩:=h2
    cases r2
    obtain⟨its,_,p,_⟩:=I.tuple q
    simp[eqF] at h;subst h
    exact⟨EqAt.none_tuple (show s.heap.IsTuple b its.toArray from p) hu,RcAt.none_tuple (show s.heap.IsTuple b its.toArray from p) hu,RcNeAt.none_tuple (show s.heap.IsTuple b its.toArray from p) hu⟩
   | lst es=>
    obtain⟨b,ys,rfl,q,_,r⟩:=h2
    cases r2
    obtain⟨its,_,p,_⟩:=I.list q
    simp[eqF] at h;subst h
    exact⟨EqAt.none_list p.isList hu,RcAt.none_list p.isList hu,RcNeAt.none_list p.isList hu⟩
  | bl a=>
   rw[show u=.bl a from h1] at r1
   cases r1
   cases e with
   | err _ _=>exact h2.elim
   | dic _=>simp[eqF] at h
   | non=>rw[show w=.non from h2] at r2;cases r2;simp[eqF] at h;subst h;exact⟨EqAt.bool_none _,RcAt.bool_none _,RcNeAt.bool_none _⟩
   | bl b=>rw[show w=.bl b from h2] at r2;cases r2;simp only[eqF,Cy] at h;subst h;exact⟨EqAt.bool_bool _ _,RcAt.bool_bool _ _,RcNeAt.bool_bool _ _⟩
   | int b=>rw[show w=.int b from h2] at r2;obtain⟨t,rfl⟩:=r2;simp only[eqF,Cy] at h;subst h;exact⟨EqAt.bool_int _ _ _,RcAt.bool_int _ _ _,RcNeAt.bool_int _ _ _⟩
   | str b=>rw[show w=.str b from h2] at r2;obtain⟨t,rfl⟩:=r2;simp[eqF] at h;subst h;exact⟨EqAt.bool_str _ _ _,RcAt.bool_str _ _ _,RcNeAt.bool_str _ _ _⟩
   | tup es=>
    obtain⟨b,ys,rfl,q,r⟩:=h2
    cases r2
    obtain⟨its,_,p,_⟩:=I.tuple q
    simp[eqF] at h;subst h
    exact⟨EqAt.bool_tuple _ (show s.heap.IsTuple b its.toArray from p) hu,RcAt.bool_tuple _ (show s.heap.IsTuple b its.toArray from p) hu,RcNeAt.bool_tuple _ (show s.heap.IsTuple b its.toArray from p) hu⟩
   | lst es=>
    obtain⟨b,ys,rfl,q,_,r⟩:=h2
    cases r2
    obtain⟨its,_,p,_⟩:=I.list q
    simp[eqF] at h;subst h
    exact⟨EqAt.bool_list _ p.isList hu,RcAt.bool_list _ p.isList hu,RcNeAt.bool_list _ p.isList hu⟩
  | int a=>
   rw[show u=.int a from h1] at r1
   obtain⟨t1,rfl⟩:=r1
   cases e with
   | err _ _=>exact h2.elim
   | dic _=>simp[eqF] at h
   | non=>rw[show w=.non from h2] at r2;cases r2;simp[eqF] at h;subst h;exact⟨EqAt.int_none _ _,RcAt.int_none _ _,RcNeAt.int_none _ _⟩
   | bl b=>rw[show w=.bl b from h2] at r2;cases r2;simp only[eqF,Cy] at h;subst h;exact⟨EqAt.int_bool _ _ _,RcAt.int_bool _ _ _,RcNeAt.int_bool _ _ _⟩
   | int b=>rw[show w=.int b from h2] at r2;obtain⟨t,rfl⟩:=r2;simp only[eqF,Cy] at h;subst h;exact⟨EqAt.int_int _ _ _ _,RcAt.int_int _ _ _ _,RcNeAt.int_int _ _ _ _⟩
   | str b=>rw[show w=.str b from h2] at r2;obtain⟨t,rfl⟩:=r2;simp[eqF] at h;subst h;exact⟨EqAt.int_str _ _ _ _,RcAt.int_str _ _ _ _,RcNeAt.int_str _ _ _ _⟩
   | tup es=>
    obtain⟨b,ys,rfl,q,r⟩:=h2
    cases r2
    obtain⟨its,_,p,_⟩:=I.tuple q
    simp[eqF] at h;subst h
    exact⟨EqAt.int_tuple _ _ (show s.heap.IsTuple b its.toArray from p) hu,RcAt.int_tuple _ _ (show s.heap.IsTuple b its.toArray from p) hu,RcNeAt.int_tuple _ _ (show s.heap.IsTuple b its.toArray from p) hu⟩
   | lst es=>
    obtain⟨b,ys,rfl,q,_,r⟩:=h2
    cases r2
    obtain⟨its,_,p,_⟩:=I.list q
    simp[eqF] at h;subst h
    exact⟨EqAt.int_list _ _ p.isList hu,RcAt.int_list _ _ p.isList hu,RcNeAt.int_list _ _ p.isList hu⟩
  | str a=>
   rw[show u=.str a from h1] at r1
   obtain⟨t1,rfl⟩:=r1
   cases e with
   | err _ _=>exact h2.elim
   | dic _=>simp[eqF] at h
   | non=>rw[show w=.non from h2] at r2;cases r2;simp[eqF] at h;subst h;exact⟨EqAt.str_none _ _,RcAt.str_none _ _,RcNeAt.str_none _ _⟩
   | bl b=>rw[show w=.bl b from h2] at r2;cases r2;simp[eqF] at h;subst h;exact⟨EqAt.str_bool _ _ _,RcAt.str_bool _ _ _,RcNeAt.str_bool _ _ _⟩
   | int b=>rw[show w=.int b from h2] at r2;obtain⟨t,rfl⟩:=r2;simp[eqF] at h;subst h;exact⟨EqAt.str_int _ _ _ _,RcAt.str_int _ _ _ _,RcNeAt.str_int _ _ _ _⟩
   | str b=>rw[show w=.str b from h2] at r2;obtain⟨t,rfl⟩:=r2;simp only[eqF,Cy] at h;subst h;exact⟨EqAt.str_str _ _ _ _,RcAt.str_str _ _ _ _,RcNeAt.str_str _ _ _ _⟩
   | tup es=>
    obtain⟨b,ys,rfl,q,r⟩:=h2
    cases r2
    obtain⟨its,_,p,_⟩:=I.tuple q
    simp[eqF] at h;subst h
    exact⟨EqAt.str_tuple _ _ (show s.heap.IsTuple b its.toArray from p) hu,RcAt.str_tuple _ _ (show s.heap.IsTuple b its.toArray from p) hu,RcNeAt.str_tuple _ _ (show s.heap.IsTuple b its.toArray from p) hu⟩
   | lst es=>
    obtain⟨b,ys,rfl,q,_,r⟩:=h2
    cases r2
    obtain⟨its,_,p,_⟩:=I.list q
    simp[eqF] at h;subst h
    exact⟨EqAt.str_list _ _ p.isList hu,RcAt.str_list _ _ p.isList hu,RcNeAt.str_list _ _ p.isList hu⟩
  | tup ds=>
   have h1':=h1
   obtain⟨a,xs,rfl,q1,rp1⟩:=h1
   cases r1
   obtain⟨its1,v1,p1,_⟩:=I.tuple q1
   have p1':s.heap.IsTuple a its1.toArray:=p1
   cases e with
   | err _ _=>exact h2.elim
   | dic _=>simp[eqF] at h
   | non=>rw[show w=.non from h2] at r2;cases r2;simp[eqF] at h;subst h;exact⟨EqAt.tuple_none p1' hu,RcAt.tuple_none p1' hu,RcNeAt.tuple_none p1' hu⟩
   | bl b=>rw[show w=.bl b from h2] at r2;cases r2;simp[eqF] at h;subst h;exact⟨EqAt.tuple_bool _ p1' hu,RcAt.tuple_bool _ p1' hu,RcNeAt.tuple_bool _ p1' hu⟩
   | int b=>rw[show w=.int b from h2] at r2;obtain⟨t,rfl⟩:=r2;simp[eqF] at h;subst h;exact⟨EqAt.tuple_int _ _ p1' hu,RcAt.tuple_int _ _ p1' hu,RcNeAt.tuple_int _ _ p1' hu⟩
   | str b=>rw[show w=.str b from h2] at r2;obtain⟨t,rfl⟩:=r2;simp[eqF] at h;subst h;exact⟨EqAt.tuple_str _ _ p1' hu,RcAt.tuple_str _ _ p1' hu,RcNeAt.tuple_str _ _ p1' hu⟩
   | tup es=>
    have h2':=h2
    obtain⟨b,ys,rfl,q2,rp2⟩:=h2
    cases r2
    obtain⟨its2,v2,p2,_⟩:=I.tuple q2
    have hk:eB n ds es=some k:=by simpa[eqF] using h
    have hv:=nW hk
    have l1:its1.toArray.size=ds.length:=by rw[Af,<-v1.length,rp1.length]
    have l2:its2.toArray.size=es.length:=by rw[Af,<-v2.length,rp2.length]
    have rc:RcAt A s (.ref a) (.ref b) k:=by
     rw[hv,<-l1,<-l2]
     exact RcAt.tuples p1' (show s.heap.IsTuple b its2.toArray from p2) hu (items rp1 rp2 v1 v2 hk)
    have rn:RcNeAt A s (.ref a) (.ref b) (!k):=by
     rw[hv,<-l1,<-l2]
     exact RcNeAt.tuples p1' (show s.heap.IsTuple b its2.toArray from p2) hu (items rp1 rp2 v1 v2 hk)
    refine⟨?_,rc,rn⟩
    by_cases hab:a=b
    . subst hab
      have:=rQ I (n+1) (.tup ds) (.tup es) (.ref a) k ex ex' h1' h2' h
      subst this
      exact EqAt.same _
    . exact EqAt.of_refs hab rc
   | lst es=>
    obtain⟨b,ys,rfl,q2,_,rp2⟩:=h2
    cases r2
    obtain⟨its2,v2,p2,_⟩:=I.list q2
    simp[eqF] at h;subst h
    exact⟨EqAt.tuple_list p1' p2.isList hu,RcAt.tuple_list p1' p2.isList hu,RcNeAt.tuple_list p1' p2.isList hu⟩
  | lst ds=>
   have h1':=h1
   obtain⟨a,xs,rfl,q1,_,rp1⟩:=h1
   cases r1
   obtain⟨its1,v1,p1,_⟩:=I.list q1
   have p1':=p1.isList
   cases e with
   | err _ _=>exact h2.elim
   | dic _=>simp[eqF] at h
   | non=>rw[show w=.non from h2] at r2;cases r2;simp[eqF] at h;subst h;exact⟨EqAt.list_none p1' hu,RcAt.list_none p1' hu,RcNeAt.list_none p1' hu⟩
   | bl b=>rw[show w=.bl b from h2] at r2;cases r2;simp[eqF] at h;subst h;exact⟨EqAt.list_bool _ p1' hu,RcAt.list_bool _ p1' hu,RcNeAt.list_bool _ p1' hu⟩
   | int b=>rw[show w=.int b from h2] at r2;obtain⟨t,rfl⟩:=r2;simp[eqF] at h;subst h;exact⟨EqAt.list_int _ _ p1' hu,RcAt.list_int _ _ p1' hu,RcNeAt.list_int _ _ p1' hu⟩
   | str b=>rw[show w=.str b from h2] at r2;obtain⟨t,rfl⟩:=r2;simp[eqF] at h;subst h;exact⟨EqAt.list_str _ _ p1' hu,RcAt.list_str _ _ p1' hu,RcNeAt.list_str _ _ p1' hu⟩
   | lst es=>
    have h2':=h2
    obtain⟨b,ys,rfl,q2,_,rp2⟩:=h2
    cases r2
    obtain⟨its2,v2,p2,_⟩:=I.list q2
    have l1:its1.toArray.size=ds.length:=by rw[Af,<-v1.length,rp1.length]
    have l2:its2.toArray.size=es.length:=by rw[Af,<-v2.length,rp2.length]
    have both:RcAt A s (.ref a) (.ref b) k/\RcNeAt A s (.ref a) (.ref b) (!k):=by
     by_cases hl:ds.length=es.length
     . have hk:eB n ds es=some k:=by simpa[eqF,hl] using h
       have hv:=nW hk
       rw[<-hl,Nat.min_self,C3,D1,<-l1] at hv
       rw[hv]
       exact⟨RcAt.lists p1' p2.isList (by rw[l1,l2,hl]) hu (items rp1 rp2 v1 v2 hk),RcNeAt.lists p1' p2.isList (by rw[l1,l2,hl]) hu (items rp1 rp2 v1 v2 hk)⟩
     . have hk:k=false:=by simpa[eqF,hl] using h.symm
       subst hk
       have hz:(its1.toArray.size != its2.toArray.size)=true:=by rw[l1,l2];simpa using hl
       exact⟨RcAt.lists_lengths p1' p2.isList hz hu,RcNeAt.lists_lengths p1' p2.isList hz hu⟩
    refine⟨?_,both.1,both.2⟩
    by_cases hab:a=b
    . subst hab
      have:=rQ I (n+1) (.lst ds) (.lst es) (.ref a) k ex ex' h1' h2' h
      subst this
      exact EqAt.same _
    . exact EqAt.of_refs hab both.1
   | tup es=>
    obtain⟨b,ys,rfl,q2,rp2⟩:=h2
    cases r2
    obtain⟨its2,v2,p2,_⟩:=I.tuple q2
    have p2':s.heap.IsTuple b its2.toArray:=p2
    simp[eqF] at h;subst h
    exact⟨EqAt.list_tuple p1' p2' hu,RcAt.list_tuple p1' p2' hu,RcNeAt.list_tuple p1' p2' hu⟩
end
end Hp
end
noncomputable section
namespace HT
open PySem PyProof.Rows
section
open PySem.SeqAt
open PySem.AutoSeq1 (wpAny_loadPart')
open PySem.MeetsSeq PySem.MeetsSeq2 PySem.MeetsSeq3
end
section
variable {prog:Program} {w:World} {A:Around} {E:Value->Shared->Prop} {s:Shared}
end
end HT
end
noncomputable section
namespace Hp
open PySem PySem.Spec PyProof.Rows L2 PySem.SeqAt
section
variable {X:Cx} {RT Y old:Addr->Prop} {σ:Sg} {σV:L2.St} {H:Hp} {s:Shared} {pins:List (Addr×Obj)} {Q:VK} {ux uy:V} {vx vy:Value} {x y:Vl}
theorem aAC{o:CmpOp}{k:Bool}{σV2:L2.St}(I:L2.Inv X pins σV H s)(hA:X.A.units+200<cLine)(rx:aW ux vx)(ry:aW uy vy)(hx:Rv X.K RT Y old σ σV2 H x ux)(hy:Rv X.K RT Y old σ σV2 H y uy)
 (h:bG o x.d y.d=some k) (q:Q (.bl k) H):wpAny (model X.prog X.w) X.A (compareOp o vx vy) (EP X pins σV Q) X.xe s:=by
 have hu:X.A.units<cLine:=by omega
 have fin:EP X pins σV Q (.bool k) s:=⟨.bl k,H,I,rfl,q⟩
 have hD:rM=120:=rfl
 have go:∀{f:Value->Value->Sem Value} {r:R2},OpR X f r->r ux uy H Q->wpAny (model X.prog X.w) X.A (f vx vy) (EP X pins σV Q) X.xe s:=λhr q=>hr pins s σV H ux uy vx vy Q I rx ry q
 have e3:∀{b:Bool},eqD x.d y.d=some b->Eq3 X.A s vx vy b:=λ{b} hb=>aEe I rM X.A x.d y.d ux uy vx vy b _ _ (by omega) hx hy rx ry hb
 cases o with
 | Eq=>exact(e3 h).2.1 X.prog X.w X.xe _ fin
 | NotEq=>
  simp only[bG,Bm] at h
  obtain⟨b,hb,e⟩:=h
  subst e
  exact(e3 hb).2.2 X.prog X.w X.xe _ fin
 | Lt=>
  simp only[bG] at h
  unfold ltD at h
  split at h
  . rename_i a b d1 d2
    exact go aIT ⟨a,b,hx.int d1,hy.int d2,by show Q (.bl (decide (a<b))) H;rw[Ai h];exact q⟩
  . cases h
 | Gt=>
  simp only[bG] at h
  split at h
  . rename_i a b d1 d2
    exact go aIV ⟨a,b,hx.int d1,hy.int d2,by show Q (.bl (decide (b<a))) H;rw[Ai h];exact q⟩
  . cases h
 | LtE=>
  simp only[bG] at h
  unfold leD at h
  split at h
  . rename_i a b d1 d2
    exact go aIU ⟨a,b,hx.int d1,hy.int d2,by show Q (.bl (decide (a<=b))) H;rw[Ai h];exact q⟩
  . cases h
 | GtE=>
  simp only[bG] at h
  split at h
  . rename_i a b d1 d2
    exact go aIW ⟨a,b,hx.int d1,hy.int d2,by show Q (.bl (decide (b<=a))) H;rw[Ai h];exact q⟩
  . cases h
 | Is=>
  simp only[bG] at h
  split at h
  . rename_i d2
    refine go aGg ⟨hy.non d2,?_⟩
    have:decide (ux=V.non)=k:=by
     rw[<-Ai h]
     unfold isNone
     split
     . rename_i d1;rw[hx.non d1];simp
     . rename_i d1
       refine Aw λz=>?_
       rw[z] at hx
       unfold Rv at hx
       cases q':x.d with
       | non=>exact d1 q'
       | _=>rw[q'] at hx;first|(obtain⟨a,xs,z',_⟩:=hx;cases z')|exact hx.elim|injection hx
    rw[this]
    exact q
  . cases h
 | IsNot=>
  simp only[bG] at h
  split at h
  . rename_i d2
    refine go aDI ⟨hy.non d2,?_⟩
    have:(!decide (ux=V.non))=k:=by
     rw[<-Ai h]
     unfold isNone
     split
     . rename_i d1;rw[hx.non d1];simp
     . rename_i d1
       rw[Aw λz=>?_]
       rw[z] at hx
       unfold Rv at hx
       cases q':x.d with
       | non=>exact d1 q'
       | _=>rw[q'] at hx;first|(obtain⟨a,xs,z',_⟩:=hx;cases z')|exact hx.elim|injection hx
    rw[this]
    exact q
  . cases h
 | In=>
  simp only[bG] at h
  unfold inD at h
  split at h
  . rename_i a b d1 d2
    exact go aAo ⟨a,b,hx.str d1,hy.str d2,by rw[show(!(Builtin.Str.occurrences b a 0 b.length 1).isEmpty)=k from Ai h];exact q⟩
  . cases h
 | NotIn=>
  simp only[bG,Bm] at h
  obtain⟨k',h,ek⟩:=h
  subst ek
  unfold inD at h
  split at h
  . rename_i a b d1 d2
    exact go rH ⟨a,b,hx.str d1,hy.str d2,by rw[show(!(Builtin.Str.occurrences b a 0 b.length 1).isEmpty)=k' from Ai h];exact q⟩
  . cases h
end
end Hp
end
noncomputable section
namespace Hp
open PySem PySem.Spec PyProof.Rows L2
section
variable {X:Cx} {RT Y old:Addr->Prop} {σ:Sg} {σV:L2.St} {H:Hp} {s:Shared} {pins:List (Addr×Obj)} {Q:VK} {ux uy:V} {vx vy:Value} {x y:Vl}
theorem iY(n:Nat)(k:Int):Hp.ixN n k=L2.ixN n k:=rfl
theorem Rv.ofSub{d:D}{u:V}(h:Rep X.K H (exV RT Y old σ σV x.pa x.al) d u):Ro X.K RT Y old σ σV H H (x.sub d) u:=by
 refine Ro.plain (aF.refl H) ?_ (Rv.sub (ds:=[]) (xs:=[]) (j:=0) h)
 unfold Vl.sub Vl.cl
 split <;> rfl
theorem qC(t:Tk X.K H)(hx:Rv X.K RT Y old σ σV H x ux)(hy:Rv X.K RT Y old σ σV H y uy)(h:RE (bT x y) (Wn X RT Y old σ σV H Q)):rIx X.K ux uy H (λv H'=>Tk X.K H'->Q v H'):=by
 unfold bT at h
 split at h
 . rename_i ds k d1 d2
   obtain⟨a,xs,e,q,_,r⟩:=hx.lst d1
   cases hj:Hp.ixN ds.length k with
   | none=>rw[hj] at h;exact h.elim
   | some j=>
    rw[hj] at h
    cases hd:ds[j]? with
    | none=>simp only[hd] at h;exact h.elim
    | some d=>
     simp only[hd] at h
     obtain⟨v,hv,rv⟩:=r.get hd
     refine .inl ⟨a,xs,k,v,e,hy.int d2,q,?_,λt'=>h v H t' (Rv.ofSub rv)⟩
     unfold atI
     rw[<-r.length,<-iY,hj]
     exact hv
 . rename_i ds k d1 d2
   obtain⟨a,xs,e,q,r⟩:=hx.tup d1
   cases hj:Hp.ixN ds.length k with
   | none=>rw[hj] at h;exact h.elim
   | some j=>
    rw[hj] at h
    cases hd:ds[j]? with
    | none=>simp only[hd] at h;exact h.elim
    | some d=>
     simp only[hd] at h
     obtain⟨v,hv,rv⟩:=r.get hd
     refine .inr (.inl ⟨a,xs,k,v,e,hy.int d2,q,?_,λt'=>h v H t' (Rv.ofSub rv)⟩)
     unfold atI
     rw[<-r.length,<-iY,hj]
     exact hv
 . rename_i z k d1 d2
   obtain⟨c,h⟩:=h.iff
   have c':=As c
   cases hj:Hp.ixN z.length k with
   | none=>rw[hj] at h;exact h.elim
   | some j=>
    rw[hj] at h
    cases hd:z.cps.toList[j]? with
    | none=>simp only[hd] at h;exact h.elim
    | some c=>
     simp only[hd] at h
     refine .inr (.inr ⟨z,k,c,hx.str d1,hy.int d2,dR c',?_,λt'=>Wn.val h t' λ_=>rfl⟩)
     unfold atI
     have hl:z.cps.toList.length=z.length:=by simp[Str.length]
     rw[hl,<-iY,hj]
     exact hd
 . exact h.elim
theorem rR(n d:Nat)(o:Option Int):Hp.sIx n d o=HT.sIx n d o:=by cases o <;> rfl
theorem uF{K:Fg}{ex:Addr->Prop}{ds:List D}{xs:List V}(r:Reps K H ex ds xs)(lo hi:Option Int):Reps K H ex (cut ds lo hi) (tU xs lo hi):=by
 unfold cut tU
 rw[rR,rR,r.length]
 exact(r.drop _).take _
theorem iJ{prog:Program}{w:World}{A:Around}{E:Value->Shared->Prop}{t sl:Addr}{items:Array Value}{vl vu:Value}{lo hi:Option Int}{Q:Value->Shared->Prop}(ht:IsTup s.heap t items)(hs:s.heap.IsSliceOf sl vl vu .none)(pl:IsPart vl lo)(pu:IsPart vu hi)
 (hw:HT.sIx items.size 0 lo=0/\HT.sIx items.size items.size hi=items.size) (h:Q (.ref t) s):wpAny (model prog w) A (getItem (.ref t) (.ref sl)) Q E s:=by
 obtain⟨os,hos,hcs,hds⟩:=id hs
 have hTs:s.TypeIs (.ref sl) "slice" := ⟨os,hos,hcs⟩
 unfold getItem
 try with_reducible refine B2 ?_
 first|refine Aa (Ad ?_)|skip
 refine Aa (wpAny_sequenceKey ht.typeIs (by decide) ?_)
 refine Aa (A6 (name:=Str.ofString "__getitem__") ht.typeIs Bh
  (Bb Bh ht.typeIs entry_tuple_getitem ?_ (args_tuple_getitem _ _)))
 show wpAny _ _ (Builtin.Tuple.tupleItemsOf (.ref t) >>= _) _ _ s
 refine Aa (tupleItemsOf_ ht ?_)
 refine Aa (Dn hTs ?_)
 rw[if_pos (by decide)]
 refine Aa (HT.sliceApplied_gen hs pl pu ?_)
 have hyes:(((HT.sIx items.size 0 lo:Nat):Int)==0&&(1:Int)==1&&(HT.sIx items.size items.size hi-HT.sIx items.size 0 lo)==items.size)=true:=by
  rw[hw.1,hw.2]
  simp
 show wpAny _ _ (if (((HT.sIx items.size 0 lo:Nat):Int)==0&&(1:Int)==1&&(HT.sIx items.size items.size hi-HT.sIx items.size 0 lo)==items.size)=true then _ else _) _ _ s
 rw[if_pos hyes]
 unfold Builtin.Tuple.tupleIsExact
 refine Aa (Aa (Dn ht.typeIs (Ad ?_)))
 rw[if_pos (C3 _)]
 exact Aa (D8 (Ad ⟨_,rfl,Ad h⟩))
def uG(K:Fg):V->Option Int->Option Int->Hp->VK->Prop:=λx lo hi H Q=>∃a xs,x=.ref a/\SqT K H a xs/\(HT.sIx xs.length 0 lo=0/\HT.sIx xs.length xs.length hi=xs.length)/\Q (.ref a) H
theorem aEf:SlR X (uG X.K):=by
 intro pins s σ H x v vl vu lo hi sl Q I rx hs pl pu h
 obtain⟨a,xs,rfl,hx,hw,q⟩:=h
 cases rx
 obtain⟨its,r,ht,hz⟩:=I.tuple hx
 have hlen:its.toArray.size=xs.length:=by rw[Af];exact r.length.symm
 refine⟨"tuple",_,Bh.lookup,ht.typeIs,?_⟩
 exact iJ ht hs pl pu (by rw[hlen];exact hw) ⟨.ref a,H,I,rfl,q⟩
theorem aGw:SlR X (λx lo hi H Q=>aBE X.K x lo hi H Q\/aBD X.K x lo hi H Q\/uG X.K x lo hi H Q\/aBS x lo hi H Q):=aDQ.or (aGi.or (aEf.or aGt))
theorem aAD{α:Type}{xs:List α}{lo hi:Option Int}(h1:Hp.sIx xs.length 0 lo=0)(h2:Hp.sIx xs.length xs.length hi=xs.length):cut xs lo hi=xs:=by
 unfold cut
 rw[h1,h2,List.drop_zero,Nat.sub_zero,Cf]
theorem aAE{lo hi:Option Int}(S:Sx X.K RT Y old σ σV H)(t:Tk X.K H)(hx:Rv X.K RT Y old σ σV H x ux)(h:RE (eC x lo hi) (Wn X RT Y old σ σV H Q)) :
 aBE X.K ux lo hi H (λv H'=>Tk X.K H'->Q v H')\/aBD X.K ux lo hi H (λv H'=>Tk X.K H'->Q v H')\/uG X.K ux lo hi H (λv H'=>Tk X.K H'->Q v H')\/aBS ux lo hi H (λv H'=>Tk X.K H'->Q v H'):=by
 unfold eC at h
 split at h
 . rename_i ds d1
   obtain⟨a,xs,e,q,_,r⟩:=hx.lst d1
   refine .inl ⟨a,xs,e,q,λp hp t'=>h _ _ t' (Ro.fresh hp t' rfl rfl S ?_)⟩
   exact uF (eJ r) lo hi
 . rename_i ds d1
   obtain⟨a,xs,e,q,r⟩:=hx.tup d1
   have r':=eJ r
   by_cases hw:HT.sIx xs.length 0 lo=0/\HT.sIx xs.length xs.length hi=xs.length
   . refine .inr (.inr (.inl ⟨a,xs,e,q,hw,λt'=>h _ _ t' (Ro.plain (aF.refl H) rfl ?_)⟩))
     have e':cut ds lo hi=ds:=aAD (by rw[rR,r.length];exact hw.1) (by rw[rR,r.length];exact hw.2)
     unfold Rv
     show Rep X.K H _ (.tup (cut ds lo hi)) (.ref a)
     rw[e']
     exact⟨a,xs,rfl,q,r'⟩
   . exact .inr (.inl ⟨a,xs,e,q,hw,λp hp t'=>h _ _ t' (Ro.tup hp rfl rfl (uF r' lo hi))⟩)
 . rename_i a d1
   obtain⟨hl,h⟩:=h.iff
   have e:ux=.str a:=by
    have z:=hx
    unfold Rv at z
    rw[d1] at z
    exact z
   exact .inr (.inr (.inr ⟨a,e,dR (As hl),λt'=>h _ _ t' (Ro.cl (aF.refl H) rfl)⟩))
 . exact h.elim
theorem jQ:∀{ds:List D} {bs:List Bool} {xs:List V} {ex:Addr->Prop},cI ds=some bs->Reps X.K H ex ds xs->xs=bs.map V.bl
 | [],bs,xs,ex,h,r=>by
  simp[cI] at h
  subst h
  exact r
 | .bl a::ds,bs,xs,ex,h,r=>by
  obtain⟨x,r',z,h1,h2⟩:=r
  rw[cI] at h
  cases q:cI ds with
  | none=>rw[q] at h;cases h
  | some ms=>
   rw[q] at h
   cases h
   rw[z,show x=.bl a from h1,jQ q h2]
   rfl
 | .non::ds,ns,xs,ex,h,r=>by simp[cI] at h
 | .int _::ds,ns,xs,ex,h,r=>by simp[cI] at h
 | .str _::ds,ns,xs,ex,h,r=>by simp[cI] at h
 | .tup _::ds,ns,xs,ex,h,r=>by simp[cI] at h
 | .lst _::ds,ns,xs,ex,h,r=>by simp[cI] at h
 | .dic _::ds,ns,xs,ex,h,r=>by simp[cI] at h
 | .err _ _::ds,ns,xs,ex,h,r=>by simp[cI] at h
theorem aAF:∀{bs:List Bool} {us:List Value},aM (bs.map V.bl) us->us=bs.map Value.bool:=by
 intro bs
 induction bs with
 | nil=>intro us r;rw[mN] at r;cases r;rfl
 | cons b bs ih=>
  intro us r
  rw[mC] at r
  cases r with
  | cons r1 r2=>
   rw[show _=Value.bool b from r1,ih r2]
   rfl
theorem xE(bs:List Bool):((List.range bs.length).any λi=>(bs[i]?).getD true)=bs.any id:=by
 rw[Bool.eq_iff_iff]
 simp only[List.any_eq_true,Cm,id]
 constructor
 . rintro ⟨i,hi,h⟩
   rw[An hi] at h
   exact⟨bs[i],Bl hi,h⟩
 . rintro ⟨b,hb,h⟩
   obtain⟨i,hi⟩:=List.getElem?_of_mem hb
   exact⟨i,(Ay.mp hi).1,by rw[hi];exact h⟩
theorem aAG(hc:X.calm=true):eI X (.builtin "any") (λxs H Q=>∃(p:Addr) (bs:List Bool),xs=[.ref p]/\SqL X.K H p (bs.map V.bl)/\Q (.bl (bs.any id)) H):=by
 intro pins s σ H xs us Q I r h
 obtain⟨p,bs,rfl,hq,q⟩:=h
 obtain⟨u,rfl,rx⟩:=nN r
 cases rx
 obtain⟨its,rv,pl,hz⟩:=I.list hq
 have hit:=aAF rv
 subst hit
 have hl:=pl.isList
 have hlt:p<s.heap.objs.size:=pl.lt
 refine call_any_walk (Eg hl ?_)
 refine⟨s.heap.objs.size,[s.heap.objs.size,p],[s.heap.objs.size],(bs.map Value.bool).toArray.size,_,_,λi=>(bs[i]?).getD true,rfl,Walks.list (A:=X.A.in1) (I.ok.hd hc) _ p (Ao hlt) _,
  ⟨⟨_,Ah _ rfl,rfl,rfl⟩,hl.push _⟩,λi v s' Q' E' hP hQ=>?_,λh' tk hk=>?_⟩
 . have hP':bs[i]?.map Value.bool=some v:=by simpa using hP
   cases e:bs[i]? with
   | none=>rw[e] at hP';cases hP'
   | some b=>
    rw[e] at hP'
    cases hP'
    simp only[e,Option.getD_some] at hQ
    exact B8 hQ
 . have e:((List.range (bs.map Value.bool).toArray.size).any λi=>(bs[i]?).getD true)=bs.any id:=by
    rw[Af,lM];exact xE bs
   rw[e]
   refine⟨.bl _,H,I.kept (t':=tk) λb o e'=>hk b o ?_ (Ab _ e'),rfl,q⟩
   intro hm
   rw[Az.mp hm] at e'
   exact A8 _ (Aj e')
def rBi(X:Cx)(b:Bi):List V->Hp->VK->Prop:=match b with
 | .len=>λxs H Q=>(∃p ys,xs=[.ref p]/\(SqL X.K H p ys\/SqT X.K H p ys)/\Q (.int ys.length) H)\/∃z,xs=[.str z]/\z.length<=sizeLine/\Q (.int z.length) H
 | .list=>λxs H Q=>∃p ys,xs=[.ref p]/\(SqL X.K H p ys\/SqT X.K H p ys)/\∀l,H l=none->Q (.ref l) (upd H l (.lst ys))
 | .tuple=>λxs H Q=>∃p ys,xs=[.ref p]/\((SqL X.K H p ys/\∀l,H l=none->Q (.ref l) (upd H l (.tup ys)))\/(SqT X.K H p ys/\Q (.ref p) H))
 | .min=>λxs H Q=>∃i j,xs=[.int i,.int j]/\Q (.int (if j<i then j else i)) H
 | .int=>λxs H Q=>(∃i,xs=[.int i]/\Q (.int i) H)\/∃k,xs=[.bl k]/\Q (.int (if k then 1 else 0)) H
 | .any=>λxs H Q=>∃(p:Addr) (bs:List Bool),xs=[.ref p]/\SqL X.K H p (bs.map V.bl)/\Q (.bl (bs.any id)) H
 | _=>λ_ _ _=>False
def aFs:Bi->Value
 | .len=>.builtin "len" | .list=>.type "list" | .tuple=>.type "tuple" | .min=>.builtin "min" | .max=>.builtin "max" | .abs=>.builtin "abs" | .int=>.type "int" | .str=>.type "str"
 | .all=>.builtin "all" | .any=>.builtin "any" | .sum=>.builtin "sum" | .sorted=>.builtin "sorted" | .bool=>.type "bool" | .repr=>.builtin "repr"
theorem yS(hc:X.calm=true)(hg:X.A.guards=some [])(hu:X.A.units+200<cLine)(b:Bi)(hb:aBP b=true):eI X (aFs b) (rBi X b):=by
 cases b with
 | len=>exact rJ.or rK
 | list=>exact rL
 | tuple=>exact pK
 | min=>exact aAp hc
 | int=>exact aAq
 | any=>exact aAG hc
 | _=>cases hb
theorem uH{b:Bi}(hb:aBP b=true)(S:Sx X.K RT Y old σ σV H){vs:List Vl}{us:List V}(hv:Rvs X.K RT Y old σ σV H vs us)(h:RE (biD b vs) (Wn X RT Y old σ σV H Q)) :
 rBi X b us H (λv H'=>Tk X.K H'->Q v H'):=by
 unfold biD at h
 split at h
 . rename_i x
   obtain⟨u,r,e,hx,hr⟩:=hv
   rw[show r=[] from hr] at e
   subst e
   cases b with
   | len=>
    dsimp only[aAv] at h
    split at h
    . rename_i ds d1
      obtain⟨a,xs,e,q,_,r⟩:=hx.lst d1
      exact .inl ⟨a,xs,by rw[e],.inl q,λt'=>by rw[<-r.length];exact Wn.val h t' λ_=>rfl⟩
    . rename_i ds d1
      obtain⟨a,xs,e,q,r⟩:=hx.tup d1
      exact .inl ⟨a,xs,by rw[e],.inr q,λt'=>by rw[<-r.length];exact Wn.val h t' λ_=>rfl⟩
    . rename_i z d1
      obtain⟨c,h⟩:=h.iff
      exact .inr ⟨z,by rw[hx.str d1],dR (As c),λt'=>Wn.val h t' λ_=>rfl⟩
    . exact h.elim
   | list=>
    dsimp only[aAv] at h
    split at h
    . rename_i ds d1
      obtain⟨a,xs,e,q,_,r⟩:=hx.lst d1
      exact⟨a,xs,by rw[e],.inl q,λp hp t'=>h _ _ t' (Ro.fresh hp t' rfl rfl S (eJ r))⟩
    . rename_i ds d1
      obtain⟨a,xs,e,q,r⟩:=hx.tup d1
      exact⟨a,xs,by rw[e],.inr q,λp hp t'=>h _ _ t' (Ro.fresh hp t' rfl rfl S (eJ r))⟩
    . exact h.elim
   | tuple=>
    dsimp only[aAv] at h
    split at h
    . rename_i ds d1
      obtain⟨a,xs,e,q,_,r⟩:=hx.lst d1
      exact⟨a,xs,by rw[e],.inl ⟨q,λp hp t'=>h _ _ t' (Ro.tup hp rfl rfl (eJ r))⟩⟩
    . rename_i ds d1
      obtain⟨a,xs,e,q,r⟩:=hx.tup d1
      exact⟨a,xs,by rw[e],.inr ⟨q,λt'=>h _ _ t' (Ro.plain (aF.refl H) rfl ⟨a,xs,rfl,q,r⟩)⟩⟩
    . exact h.elim
   | abs=>cases hb
   | int=>
    dsimp only[aAv] at h
    split at h
    . rename_i i d1
      exact .inl ⟨i,by rw[hx.int d1],λt'=>Wn.val h t' λ_=>rfl⟩
    . rename_i k d1
      exact .inr ⟨k,by rw[hx.bl d1],λt'=>Wn.val h t' λ_=>rfl⟩
    . exact h.elim
   | str=>cases hb
   | all=>cases hb
   | repr=>cases hb
   | bool=>cases hb
   | sum=>cases hb
   | any=>
    dsimp only[aAv] at h
    split at h
    . rename_i ds d1
      obtain⟨a,xs,e,q,_,r⟩:=hx.lst d1
      split at h
      . rename_i bs hbs
        rw[jQ hbs r] at q
        exact⟨a,bs,by rw[e],q,λt'=>Wn.val h t' λ_=>rfl⟩
      . exact h.elim
    . exact h.elim
   | sorted=>cases hb
   | min=>exact h.elim
   | max=>exact h.elim
 . rename_i x y
   obtain⟨u,r,e,hx,u',r',e',hy,hr⟩:=hv
   rw[show r'=[] from hr] at e'
   subst e' e
   cases b with
   | min=>
    dsimp only[aJl] at h
    split at h
    . rename_i i j d1 d2
      exact⟨i,j,by rw[hx.int d1,hy.int d2],λt'=>Wn.val h t' λ_=>rfl⟩
    . exact h.elim
   | max=>cases hb
   | _=>exact h.elim
 . exact h.elim
def uI:Cl->Option Value
 | .tInt=>some (.type "int")|.tBool=>some (.type "bool")|.tStr=>some (.type "str")|.tList=>some (.type "list")|.tTuple=>some (.type "tuple")|.tDict=>some (.type "dict")
 | _=>none
def tyD:D->Option String
 | .non=>some "NoneType" | .bl _=>some "bool" | .int _=>some "int" | .str _=>some "str" | .tup _=>some "tuple" | .lst _=>some "list" | .dic _=>some "dict" | .err _ _=>none
theorem fI(K:Fg)(P:Pg){c:Cl}{cv:Value}{d:D}{k:Bool}{T:String}(hc:uI c=some cv)(hT:tyD d=some T)(h:isI [c] P d=some k):PySem.W.kitOne K (.type T) cv=some k:=by
 cases c with
 | own c=>cases hc
 | tValueError=>cases hc
 | tInt=>cases hc;cases d <;> cases hT <;> simp[isI] at h <;> subst h <;> kernel_rfl
 | tBool=>cases hc;cases d <;> cases hT <;> simp[isI] at h <;> subst h <;> kernel_rfl
 | tStr=>cases hc;cases d <;> cases hT <;> simp[isI] at h <;> subst h <;> kernel_rfl
 | tList=>cases hc;cases d <;> cases hT <;> simp[isI] at h <;> subst h <;> kernel_rfl
 | tTuple=>cases hc;cases d <;> cases hT <;> simp[isI] at h <;> subst h <;> kernel_rfl
 | tDict=>cases hc;cases d <;> cases hT <;> simp[isI] at h <;> subst h <;> kernel_rfl
theorem aAH(P:Pg){c:Cl}{cv:Value}{k:Bool}(I:L2.Inv X pins σV H s)(rx:aW ux vx)(hx:Rv X.K RT Y old σ σV H x ux)(hc:uI c=some cv)(h:isI [c] P x.d=some k)(q:Q (.bl k) H) :
 wpAny (model X.prog X.w) X.A (PySem.call (.builtin "isinstance") [vx,cv]) (EP X pins σV Q) X.xe s:=by
 have fin:∀tk,EP X pins σV Q (.bool k) { s with toks:=tk }:=λtk=>⟨.bl k,H,I.tok tk,rfl,q⟩
 cases d:x.d with
 | non=>
  have e:=fI X.K P hc (by rw[d];rfl) h
  rw[hx.non d] at rx;cases rx
  exact Cw PySem.W.kitx_none I.kIn True.intro e (λz=>nomatch z) fin
 | bl b=>
  have e:=fI X.K P hc (by rw[d];rfl) h
  rw[hx.bl d] at rx;cases rx
  exact Cw PySem.W.kitx_bool I.kIn True.intro e (λz=>nomatch z) fin
 | int i=>
  have e:=fI X.K P hc (by rw[d];rfl) h
  rw[hx.int d] at rx;obtain⟨t,rfl⟩:=rx
  exact Cw PySem.W.kitx_int I.kIn True.intro e (λz=>nomatch z) fin
 | str z=>
  have e:=fI X.K P hc (by rw[d];rfl) h
  rw[hx.str d] at rx;obtain⟨t,rfl⟩:=rx
  exact Cw PySem.W.kitx_str I.kIn True.intro e (λz=>nomatch z) fin
 | tup ds=>
  have e:=fI X.K P hc (by rw[d];rfl) h
  obtain⟨a,xs,e1,p,_⟩:=hx.tup d
  subst e1
  cases rx
  obtain⟨its,_,t,_⟩:=I.tuple p
  obtain⟨o,h1,h2,_⟩:=t
  exact Cw PySem.W.kitx_tuple I.kIn ⟨o,h1,h2⟩ e (λz=>nomatch z) fin
 | lst ds=>
  have e:=fI X.K P hc (by rw[d];rfl) h
  obtain⟨a,xs,e1,p,_⟩:=hx.lst d
  subst e1
  cases rx
  obtain⟨its,_,t,_⟩:=I.list p
  obtain⟨o,n,h1,h2,_⟩:=t
  exact Cw PySem.W.kitx_list I.kIn ⟨o,h1,h2⟩ e (λz=>nomatch z) fin
 | dic kvs=>
  have e:=fI X.K P hc (by rw[d];rfl) h
  unfold Rv at hx
  rw[d] at hx
  obtain⟨a,ks,e1,p,_⟩:=hx
  subst e1
  cases rx
  obtain⟨_,_,vs,_,o,es,ep,h1,h2,_⟩:=(show dA X.prog X.w H s.heap a (.dK ks) from I.hok a _ p)
  exact Cw PySem.W.kitx_dict I.kIn ⟨o,h1,h2.1⟩ e (λz=>nomatch z) fin
 | err _ _=>
  unfold Rv at hx
  rw[d] at hx
  exact hx.elim
end
end Hp
end
noncomputable section
namespace L2
open PySem PySem.Spec PyProof.Rows
def iK(cells:List (Str×Addr)):List (Str×NameKind)->List (Str×Addr)->List (Str×Addr)
 | [],acc=>acc
 | (n,k)::r,acc=>if k==.free then iK cells r ((n,(cells.lookup n).getD 0)::acc) else iK cells r acc
theorem clos_mem{cells:List (Str×Addr)}:∀{names:List (Str×NameKind)} {acc:List (Str×Addr)} {p:Str×Addr},p∈iK cells names acc->p∈acc\/((p.1,NameKind.free)∈names/\p.2=(cells.lookup p.1).getD 0)
 | [],_,_,h=>.inl h
 | (n,k)::r,acc,p,h=>by
  unfold iK at h
  by_cases hk:(k==NameKind.free)=true
  . rw[if_pos hk] at h
    rcases clos_mem h with q|q
    . rcases Al.mp q with q|q
      . subst q
        have:k=.free:=eq_of_beq hk
        subst this
        exact .inr ⟨Ak,rfl⟩
      . exact .inl q
    . exact .inr ⟨Ae _ q.1,q.2⟩
  . rw[if_neg hk] at h
    rcases clos_mem h with q|q
    . exact .inl q
    . exact .inr ⟨Ae _ q.1,q.2⟩
theorem nX{cells:List (Str×Addr)}:∀{names:List (Str×NameKind)} {acc:List (Str×Addr)} {p:Str×Addr},p∈acc->p∈iK cells names acc
 | [],_,_,h=>h
 | (n,k)::r,acc,p,h=>by
  unfold iK
  by_cases hk:(k==NameKind.free)=true
  . rw[if_pos hk];exact nX (Ae _ h)
  . rw[if_neg hk];exact nX h
theorem jR{cells:List (Str×Addr)}:∀{names:List (Str×NameKind)} {acc:List (Str×Addr)} {n:Str},(n,NameKind.free)∈names->(n,(cells.lookup n).getD 0)∈iK cells names acc
 | [],_,_,h=>by simp at h
 | (m,k)::r,acc,n,h=>by
  unfold iK
  rcases Al.mp h with q|q
  . cases q
    rw[if_pos (by rfl:(NameKind.free==NameKind.free)=true)]
    exact nX Ak
  . by_cases hk:(k==NameKind.free)=true
    . rw[if_pos hk];exact jR q
    . rw[if_neg hk];exact jR q
theorem dS{α:Type}:∀{l:List (Str×α)} {x:Str} {a:α},(x,a)∈l->∃b,l.lookup x=some b
 | (y,b)::r,x,a,h=>by
  rw[Dp]
  cases hx:x==y with
  | true=>exact⟨b,rfl⟩
  | false=>
   rcases Al.mp h with q|q
   . cases q
     simp at hx
   . exact dS q
theorem cB{cells:List (Str×Addr)}{names:List (Str×NameKind)}(hh:∀n,(n,NameKind.free)∈names->∃c,cells.lookup n=some c){x:Str}{c:Addr}(h:(iK cells names []).lookup x=some c):cells.lookup x=some c:=by
 rcases clos_mem (B0 h) with q|⟨q1,q2⟩
 . simp at q
 . obtain⟨c',e⟩:=hh x q1
   simp only at q2
   rw[e] at q2
   rw[e,q2];rfl
theorem gA{scope:Scope}{env:Env}(hh:∀n,(n,NameKind.free)∈scope.names->∃c,env.cells.lookup n=some c):closureFor scope env=pure (iK env.cells scope.names []):=by
 have go:∀(l:List (Str×NameKind)) (acc:List (Str×Addr)),(∀n,(n,NameKind.free)∈l->∃c,env.cells.lookup n=some c) ->
  (forIn l acc (λ(x:Str×NameKind) (r:List (Str×Addr))=>(match x with|(name,kind)=>if (kind==NameKind.free)=true then do let __do_lift<-cellOf env name;pure (ForInStep.yield ((name,__do_lift)::r)) else pure (ForInStep.yield r):Sem (ForInStep (List (Str×Addr))))))=(pure (iK env.cells l acc):Sem (List (Str×Addr))):=by
  intro l
  induction l with
  | nil=>intro acc _;rfl
  | cons p r ih=>
   intro acc hl
   obtain⟨n,k⟩:=p
   rw[List.forIn_cons]
   unfold iK
   by_cases hk:(k==NameKind.free)=true
   . have:k=.free:=eq_of_beq hk
     subst this
     obtain⟨c,e⟩:=hl n Ak
     have e':cellOf env n=pure c:=by unfold cellOf;rw[e]
     simp only[C3,if_true,e']
     rw[e]
     exact ih _ λm hm=>hl m (Ae _ hm)
   . simp only[hk,if_false]
     exact ih _ λm hm=>hl m (Ae _ hm)
 unfold closureFor
 exact(bind_pure _).trans (go scope.names [] hh)
section
variable {prog:Program} {w:World} {A:Around} {R:Result->Shared->Prop} {s:Shared}
theorem gK{elt target iter:Expr}{ifs:List Expr}{scope:Scope}{pos:Pos}{it acc:Value}{env:Env}(I:Nat->Shared->Prop)
 (turn:∀n s,I n s->wpAny (model prog w) A (pyNext it) (λr s₁=>match r with
  | none=>R (.ok .next) s₁
  | some v=>wpAny (model prog w) A (letOwnedTupleGo target it v) (λ_ s₁'=>wpAny (model prog w) A (assign target env v) (λ_ s₂=>
   wpAny (model prog w) A (forIn ifs true λc r=>if r=true then do let ok<-isTrue c env (eval c env);pure (ForInStep.yield ok) else pure (ForInStep.yield r)) (λok s₃=>
    if ok=true then wpAny (model prog w) A (eval elt env) (λx s₄=>
     wpAny (model prog w) A (call (.builtin "list.append") [acc,x]) (λ_ s₅=>∃m,m<n/\I m s₅) (λ_ _=>False) s₄) (λ_ _=>False) s₃
    else ∃m,m<n/\I m s₃) (λ_ _=>False) s₂) (λ_ _=>False) s₁') (λ_ _=>False) s₁) (λ_ _=>False) s)
 (n:Nat) (h:I n s) :
 codeAny (model prog w) A (.compLoop (.ListComp elt [⟨target,iter,ifs,0⟩] scope pos) 0 it acc env) R s:=by
 refine codeAny_loop rfl I (λn s hI=>?_) n h
 show wpAny _ A ((compTurn (.ListComp elt [⟨target,iter,ifs,0⟩] scope pos) 0 it acc env).onRaise (λx=>do noteFrame x env;theTreesLotGoes x)) _ _ s
 refine wpAny_noted ?_
 rw[compTurn_list]
 refine Aa (wpAny_standAt (Aa (C8 (turn n s hI) (λr s₁ h₁=>?_) λ_ _ h'=>h'.elim)))
 cases r with
 | none=>exact Ad h₁
 | some v=>
  refine Aa (C8 h₁ (λ_ s₁' h₁'=>?_) λ_ _ h'=>h'.elim)
  refine Aa (C8 h₁' (λ_ s₂ h₂=>Aa (C8 h₂ (λok s₃ h₃=>?_) λ_ _ h'=>h'.elim)) λ_ _ h'=>h'.elim)
  cases ok with
  | false=>exact Ad ⟨rfl,h₃⟩
  | true=>
   exact Aa (Aa (C8 h₃ (λx s₄ h₄=>Aa (C8 h₄ (λ_ s₅ h₅=>Ad (Ad ⟨rfl,h₅⟩)) λ_ _ h'=>h'.elim)) λ_ _ h'=>h'.elim))
end
def cS(X:Cx)(scope:Scope)(N':List Str)(C:Addr)(s₀:Shared)(H₀:Hp)(ex:List Addr):Cx:=
 { X with env:=compEnvC scope (iK X.env.cells scope.names []) C X.env,N:=N',s₀:=s₀,H₀:=H₀,outer:=X.stack,ex:=ex,fn:=λ_=>false,pn:=[],xe:=λ_ _=>False }
def PTs(X:Cx)(ifs:List Expr)(t:TT):Prop:=
 ∀(pins:List (Addr×Obj)) (s:Shared) (σ:St) (H:Hp) (Q:Bool->Hp->Prop),Inv X pins σ H s->t σ H Q ->
  wpAny (model X.prog X.w) X.A (forIn ifs true λc r=>if r=true then do let ok<-isTrue c X.env (eval c X.env);pure (ForInStep.yield ok) else pure (ForInStep.yield r)) (TP X pins σ Q) X.xe s
theorem yT{X:Cx}:PTs X [] (λ_ H Q=>Q true H):=λpins s σ H Q I h=>Ad ⟨H,I,h⟩
theorem aEg{X:Cx}{c:Expr}{t:TT}(h:PT X c t):PTs X [c] t:=λpins s σ H Q I hw=>wpAny_tests_one (h pins s σ H Q I hw)
structure cG (X:Cx) (scope:Scope) (k:Nat) (caps:List Nat) (N':List Str):Prop where
 kind:scope.kind=.function
 nocell:∀y∈scope.names,y.2≠.cell
 loc:∀y∈scope.names,y.2=.local->scope.names.lookup y.1=some .local
 free:∀n,(n,NameKind.free)∈scope.names->X.env.kindOf n=some .cell\/X.env.kindOf n=some .free
 len:N'.length=k+caps.length
 cap:∀j i,caps[j]? = some i->∃x,N'[k+j]? = some x/\X.N[i]? = some x/\scope.names.lookup x=some .free/\X.env.kindOf x=some .cell
 ndp:X.N.Nodup
def fJ(k:Nat)(caps:List Nat)(σ:St):St:=List.replicate k none++caps.map λi=>(σ[i]?).getD none
def aBV(k:Nat)(caps:List Nat)(wi:TI)(g:TG)(tt:TT)(te:TE):TE:=λσ H Q=>wi σ H λJ H1=>
 ∃W:Nat->Nat->List V->St->Hp->Prop,(∃m,W 0 m [] (fJ k caps σ) H1)/\∀i m ys σ1 H,W i m ys σ1 H ->
  (J.stop i H/\ys.length<=sizeLine/\∀p,H p=none->Q (.ref p) (upd H p (.lst ys))) \/
  (J.go i H/\ys.length<sizeLine/\∀x H',J.yld i H x H'->g x σ1 H' λσ2 H2=>tt σ2 H2 λb H3=>
   if b=true then te σ2 H3 λy H4=>∃m',m'<m/\W (i+1) m' (ys++[y]) σ2 H4 else ∃m',m'<m/\W (i+1) m' ys σ2 H3)
theorem HOk.track{P:Program}{w:World}{H:Hp}{h:Heap}{a:Addr}{o:HO}(ok:HOk P w H h)(n:H a=none)(new:dA P w (upd H a o) h a o):HOk P w (upd H a o) h:=λb u e=>by
 by_cases hb:b=a
 . subst hb;rw[aL] at e;cases e;exact new
 . rw[upd_ne hb] at e
   exact(ok b u e).stay (λ_ _ _ q=>q) (λc q=>by rw[upd_ne (aU q n)];exact q) λc xs q=>by rw[upd_ne (aU q n)];exact q
abbrev cV(its:List Value)(n:Nat):Obj:={ cls:=.type "list",data:=.seq its.toArray n }
section
variable {X:Cx} {scope:Scope} {k:Nat} {caps:List Nat} {N':List Str} {pins:List (Addr×Obj)} {σ:St} {H:Hp} {s:Shared} {fp:List Addr}
theorem Inv.cellLt(I:Inv X pins σ H s){x:Str}{c:Addr}(e:X.env.cells.lookup x=some c):c<s.heap.objs.size:=by
 obtain⟨v,q⟩:=I.cell x c e
 exact q.lt
theorem eK:∀{l:List (Str×NameKind)} {x:Str} {k:NameKind},l.lookup x=some k->(x,k)∈l:=λh=>B0 h
theorem relabel_lookup{env:Env}:∀{names:List (Str×NameKind)} {x:Str} {k:NameKind},
 (names.map λ(n,k)=>if (k==NameKind.free&&env.scope.kind==.function&&env.kindOf n==some .cell) then (n,NameKind.cell) else (n,k)).lookup x=some k ->
 (k=.cell/\names.lookup x=some .free/\env.kindOf x=some .cell)\/names.lookup x=some k
 | [],_,_,h=>by simp at h
 | (n,k')::r,x,k,h=>by
  have ih:=@relabel_lookup env r x k
  rw[mC] at h
  by_cases hc:(k'==NameKind.free&&env.scope.kind==.function&&env.kindOf n==some .cell)=true
  . simp only[hc,if_true,Dp] at h ⊢
    cases hx:x==n with
    | true=>
     rw[hx] at h
     simp only at h ⊢
     simp only[bA] at hc
     have e1:k'=.free:=eq_of_beq hc.1.1
     have e2:env.kindOf n=some .cell:=eq_of_beq hc.2
     have e3:x=n:=eq_of_beq hx
     subst e3
     cases h
     exact .inl ⟨rfl,by rw[e1],e2⟩
    | false=>rw[hx] at h;exact ih h
  . simp only[Bool.not_eq_true] at hc
    simp only[hc,if_false,Dp,bF] at h ⊢
    cases hx:x==n with
    | true=>rw[hx] at h;exact .inr h
    | false=>rw[hx] at h;exact ih h
theorem aMn(CS:cG X scope k caps N')(I:Inv X pins σ H s)(f:∀b∈fp,jK X pins H b)(hf:∀b∈fp,b<s.heap.objs.size) :
 (cS X scope N' (s.heap.objs.size+1) { s with heap:=s.heap.push (cV [] 0) } H (s.heap.objs.size::fp)).Ok:=by
 have hh:∀n,(n,NameKind.free)∈scope.names->∃c,X.env.cells.lookup n=some c:=λn hn=>I.ok.has n (CS.free n hn)
 have ge:∀b o,s.heap.get? b=some o->(s.heap.push (cV [] 0)).get? b=some o:=λb o e=>Ab _ e
 have fsub:∀b∈frs X.stack,∃o,s.heap.get? b=some o:=λb hb=>by
  obtain⟨_,o,ho,_⟩:=I.stack.mem hb
  exact⟨o,ho⟩
 refine⟨I.ok.mod,?_,I.ok.glob,I.ok.blt,?_,λx y c h1 h2=>?_,λx hx=>?_,λx c h _=>?_,I.ok.hd,I.ok.frames,.inl rfl,λb hb=>?_,λb o e=>?_,?_,λb o e hb=>?_,λb hb=>?_,?_,I.stkFree⟩
 . exact CS.kind
 . show(s.heap.push (cV [] 0)).objs.size<=s.heap.objs.size+1
   rw[Bs]
   exact Ag _
 . exact I.ok.inj x y c (cB hh h1) (cB hh h2)
 . have fr:(x,NameKind.free)∈scope.names:=by
    rcases hx with q|q
    . rcases relabel_lookup q with⟨_,z,_⟩|z
      . exact eK z
      . exact absurd rfl (CS.nocell _ (eK z))
    . rcases relabel_lookup q with⟨z,_⟩|z
      . cases z
      . exact eK z
   obtain⟨c,e⟩:=dS (jR (cells:=X.env.cells) (acc:=[]) fr)
   exact⟨c,e⟩
 . cases(show false=true from h)
 . refine⟨?_,λx c e=>?_⟩
   . show b≠s.heap.objs.size+1
     rcases Al.mp hb with z|z
     . rw[z];exact Ao (Cg _)
     . exact Ao (B1 (hf b z))
   . have e':=cB hh e
     rcases Al.mp hb with z|z
     . rw[z];exact Ao (I.cellLt e')
     . exact(f b z).2.2.2.2.1 x c e'
 . exact⟨ge b o (I.bs b o e).1,(I.bs b o e).2⟩
 . show X.base.objs.size<=(s.heap.push (cV [] 0)).objs.size
   rw[Bs]
   exact Nat.le_succ_of_le (Av I.ok.bsz I.sz)
 . have lt:=Aj e
   rcases Al.mp hb with z|z
   . subst z
     exact absurd (Ar lt (Av I.ok.bsz I.sz)) (A8 _)
   . rcases(f b z).2.2.2.1 with q|q
     . exact I.ok.noex b o e q
     . exact absurd (Ar lt (Av I.ok.bsz q)) (A8 _)
 . show b∉frs X.stack
   intro hs
   rcases Al.mp hb with z|z
   . subst z
     obtain⟨o,e⟩:=fsub _ hs
     exact absurd (Aj e) (A8 _)
   . rcases Al.mp (I.stkSub b hs) with q|q
     . exact(f b z).2.1 q
     . exact(f b z).2.2.1 q
 . exact I.stack.of_keeps λb o e _=>⟨o,ge b o e,rfl⟩
theorem aBW(CS:cG X scope k caps N'){j:Nat}{v:V}(h:(fJ k caps σ)[j]? = some (some v)):∃j' i,j=k+j'/\caps[j']? = some i/\σ[i]? = some (some v):=by
 unfold fJ at h
 by_cases hj:j<k
 . rw[Bz (by simpa using hj),Ci] at h
   split at h <;> cases h
 . rw[Bk (by simpa using hj),Bc,Ax] at h
   cases e:caps[j-k]? with
   | none=>rw[e] at h;cases h
   | some i=>
    rw[e] at h
    have h':(σ[i]?).getD none=some v:=Ai h
    refine⟨j-k,i,by omega,e,?_⟩
    cases q:σ[i]? with
    | none=>rw[q] at h';cases h'
    | some z=>rw[q] at h';exact congrArg some h'
theorem aJC(CS:cG X scope k caps N')(I:Inv X pins σ H s)(f:∀b∈fp,jK X pins H b)(hf:∀b∈fp,b<s.heap.objs.size){h₁:Heap}{tk:Nat}
 (hns:h₁.Ns (s.heap.objs.size+1) λ_=>none) (hk:∀b o,(s.heap.push (cV [] 0)).get? b=some o->h₁.get? b=some o) :
 Inv (cS X scope N' (s.heap.objs.size+1) { s with heap:=s.heap.push (cV [] 0) } H (s.heap.objs.size::fp)) [] (fJ k caps σ) H { s with heap:=h₁,toks:=tk }:=by
 have hh:∀n,(n,NameKind.free)∈scope.names->∃c,X.env.cells.lookup n=some c:=λn hn=>I.ok.has n (CS.free n hn)
 have ge:∀b o,s.heap.get? b=some o->h₁.get? b=some o:=λb o e=>hk b o (Ab _ e)
 have cellK:∀{c:Addr} {v:Option Value},s.heap.IsCell c v->h₁.IsCell c v:=λ{c v} ⟨o,e,d⟩=>⟨o,ge _ _ e,d⟩
 refine⟨aMn CS I f hf,rfl,I.bare,Un.kept hk,⟨_,hns,λj x v e1 e2 e3=>?_⟩,λx c e=>?_,?_,λx c e=>?_,λp hp=>absurd (show p∈([]:List (Addr×Obj)) from hp) (by simp),I.hok.kept ge,?_⟩
 . obtain⟨j',i,ej,ec,es⟩:=aBW CS e2
   obtain⟨y,h1,h2,h3,h4⟩:=CS.cap j' i ec
   have e1':N'[j]? = some x:=e1
   rw[ej,h1] at e1'
   have ey:y=x:=Ai e1'
   subst ey
   obtain⟨m,hn,hl⟩:=I.loc
   obtain⟨u,ru,lk⟩:=hl i y v h2 es (.inr (.inl h4))
   rcases lk with⟨k1,_⟩|⟨_,c,ec',hc⟩
   . rw[h4] at k1;cases k1
   . refine⟨u,ru,.inr ⟨?_,c,?_,cellK hc⟩⟩
     . have e3':Vis (relabel scope X.env) y:=e3
       rcases e3' with z|z|z
       . rcases relabel_lookup z with⟨z,_⟩|z
         . cases z
         . rw[h3] at z;cases z
       . exact .inl z
       . exact .inr z
     . obtain⟨c',e⟩:=dS (jR (cells:=X.env.cells) (acc:=[]) (eK h3))
       have e':=cB hh e
       rw[ec'] at e'
       cases e'
       exact e
 . obtain⟨v,q⟩:=I.cell x c (cB hh e)
   exact⟨v,cellK q⟩
 . exact I.hok.fresh (Dm _)
 . exact I.freeC x c (cB hh e)
 . show(fJ k caps σ).length=N'.length
   unfold fJ
   rw[lA,Bc,lM,CS.len]
theorem uJ{tg iter elt:Expr}{ifs:List Expr}{pos:Pos}{g:TG}{tt:TT}{te:TE}{it:Addr}{tn:Nat->Heap->Prop}{J:It}{RR:Value->Addr->Result->Shared->Prop}{E:Value->Shared->Prop}{Q:VK}
 (CS:cG X scope k caps N') (hc:X.calm=true) (I:Inv X pins σ H s) (T:tQ X.prog X.w X.K tg J fp it tn) (st:tn 0 s.heap) (f:∀b∈fp,jK X pins H b)
 (hch:∀C s₀ H₀ ex,PG (cS X scope N' C s₀ H₀ ex) tg g/\PTs (cS X scope N' C s₀ H₀ ex) ifs tt/\PE (cS X scope N' C s₀ H₀ ex) elt te)
 (hw:∃W:Nat->Nat->List V->St->Hp->Prop,(∃m,W 0 m [] (fJ k caps σ) H)/\∀i m ys σ1 H,W i m ys σ1 H ->
  (J.stop i H/\ys.length<=sizeLine/\∀p,H p=none->Q (.ref p) (upd H p (.lst ys))) \/
  (J.go i H/\ys.length<sizeLine/\∀x H',J.yld i H x H'->g x σ1 H' λσ2 H2=>tt σ2 H2 λb H3=>
   if b=true then te σ2 H3 λy H4=>∃m',m'<m/\W (i+1) m' (ys++[y]) σ2 H4 else ∃m',m'<m/\W (i+1) m' ys σ2 H3))
 (hR:∀D C s' H' m,Inv X pins σ H' s'->s'.heap.Ns C m->s.heap.objs.size<C->(∀(σ':St) (s'':Shared) (h':Heap),Inv X pins σ' H' s''->Heap.SameBut C s''.heap h'->Inv X pins σ' H' { s'' with heap:=h' })->Q (.ref D) H'->RR (.ref D) C (.ok .next) s') :
 wpAny (model X.prog X.w) X.A (newList []) (λacc s₃=>wpAny (model X.prog X.w) X.A (newFunctionEnv scope X.env.globals (iK X.env.cells scope.names []) [] X.env.qual none .none (some X.env)) (λcenv s₄=>
  codeAny (model X.prog X.w) X.A (.compStart (.ListComp elt [⟨tg,iter,ifs,0⟩] scope pos) 0 (.ref it) acc { cenv with scope:=relabel scope X.env }) (RR acc cenv.locals) s₄) E s₃) E s:=by
 obtain⟨W,⟨m0,w0⟩,turn⟩:=hw
 have hf:∀b∈fp,b<s.heap.objs.size:=λb hb=>by
  obtain⟨o,e,_⟩:=T.obj 0 _ st b hb
  exact Aj e
 refine Bf (wpAny_newFunctionEnv CS.nocell (by intro y hy;simp at hy) (λh₁ hns₁ hsb₁=>?_) CS.kind)
 have hsz:(s.heap.push (cV [] 0)).objs.size=s.heap.objs.size+1:=Bs _ _
 have hns:h₁.Ns (s.heap.objs.size+1) λ_=>none:=by
  have:=hns₁
  rw[show({ s with heap:=s.heap.push (cV [] 0) }:Shared).heap.objs.size=s.heap.objs.size+1 from hsz] at this
  exact this
 have hk:∀b o,(s.heap.push (cV [] 0)).get? b=some o->h₁.get? b=some o:=λb o e=>
  hsb₁.extBut b o (Ao (by have:=Aj e;rw[hsz] at this;show b<(s.heap.push (cV [] 0)).objs.size;rw[hsz];exact this)) (Ab _ e)
 have I0:=aJC (N':=N') CS I f hf (tk:=s.toks+([]:List (Str×Value)).length) hns hk
 have noC:∀{b:Addr},b<s.heap.objs.size->b≠s.heap.objs.size+1:=λ{b} hb=>Ao (B1 hb)
 have hDn:H s.heap.objs.size=none:=I.fresh
 have hh:∀n,(n,NameKind.free)∈scope.names->∃c,X.env.cells.lookup n=some c:=λn hn=>I.ok.has n (CS.free n hn)
 have hD1:h₁.get? s.heap.objs.size=some (cV [] 0):=hk _ _ (Ah _ rfl)
 have stFs:∀b∈frs X.stack,b<s.heap.objs.size:=λb hb=>by
  obtain⟨_,o,ho,_⟩:=I.stack.mem hb
  exact Aj ho
 have fpc:∀(pl:List (Addr×Obj)),(∀p∈pl,p.1=s.heap.objs.size)->∀{H':Hp},(∀b∈fp,H' b=none)->∀b∈fp,jK (cS X scope N' (s.heap.objs.size+1) { s with heap:=s.heap.push (cV [] 0) } H (s.heap.objs.size::fp)) pl H' b:=by
  intro pl hpl H' hn b hb
  refine⟨hn b hb,noC (hf b hb),λz=>?_,.inl (Ae _ hb),λx c e=>(f b hb).2.2.2.2.1 x c (cB hh e),λp hp z=>?_⟩
  . rcases Al.mp (I.stkSub b z) with q|q
    . exact(f b hb).2.1 q
    . exact(f b hb).2.2.1 q
  . have hp':p∈pl:=by simpa[cS] using hp
    rw[hpl p hp'] at z
    exact absurd (hf b hb) (by rw[<-z];exact A8 _)
 have pinD:∀{σ':St} {H':Hp} {s':Shared} {its:List Value} {n:Nat} {pl:List (Addr×Obj)},Inv (cS X scope N' (s.heap.objs.size+1) { s with heap:=s.heap.push (cV [] 0) } H (s.heap.objs.size::fp)) pl σ' H' s' ->
  s'.heap.get? s.heap.objs.size=some (cV its n)->H' s.heap.objs.size=none->Inv (cS X scope N' (s.heap.objs.size+1) { s with heap:=s.heap.push (cV [] 0) } H (s.heap.objs.size::fp)) [(s.heap.objs.size,cV its n)] σ' H' s':=by
  intro σ' H' s' its n pl J e nn
  refine J.pins_of λp hp=>?_
  have:p=(s.heap.objs.size,cV its n):=by simpa using hp
  subst this
  refine⟨e,nn,Ao (Cg _),λz=>absurd (stFs _ z) (A8 _),λv z=>by cases z⟩
 have start:codeAny (model X.prog X.w) X.A (.compLoop (.ListComp elt [⟨tg,iter,ifs,0⟩] scope pos) 0 (.ref it) (.ref s.heap.objs.size) (compEnvC scope (iK X.env.cells scope.names []) (s.heap.objs.size+1) X.env))
  (RR (.ref s.heap.objs.size) (s.heap.objs.size+1)) { s with heap:=h₁,toks:=s.toks+([]:List (Str×Value)).length }:=by
  refine gK (λn s'=>∃i ys its cnt σ1 H',Inv (cS X scope N' (s.heap.objs.size+1) { s with heap:=s.heap.push (cV [] 0) } H (s.heap.objs.size::fp)) [(s.heap.objs.size,cV its cnt)] σ1 H' s' /\
   tn i s'.heap/\(∀b∈fp,H' b=none)/\aM ys its/\W i n ys σ1 H') ?_ m0 ⟨0,[],[],0,_,H,pinD I0 hD1 hDn,T.keep _ _ _ st λb _ o e=>hk b o (Ab _ e),λb hb=>(f b hb).1,.nil,w0⟩
  rintro n s3 ⟨i,ys,its,cnt,σ1,H3,I3,st3,fr3,rv3,w3⟩
  obtain⟨hD3,nD3,_⟩:=I3.pin (s.heap.objs.size,cV its cnt) (by simp[cS])
  have pl1:∀p∈[(s.heap.objs.size,cV its cnt)],p.1=s.heap.objs.size:=λp hp=>by
   have:p=(s.heap.objs.size,cV its cnt):=by simpa using hp
   rw[this]
  rcases turn i n ys σ1 H3 w3 with⟨stop,hz,qn⟩|⟨go,hz,step⟩
  . refine thn (T.done (cS X scope N' (s.heap.objs.size+1) { s with heap:=s.heap.push (cV [] 0) } H (s.heap.objs.size::fp)) rfl rfl rfl hc i _ s3 _ H3 _ I3 (fpc _ pl1 fr3) st3 stop) λr s4 ⟨hr,I4⟩=>?_
    subst hr
    obtain⟨hD4,nD4,_⟩:=I4.pin (s.heap.objs.size,cV its cnt) (by simp[cS])
    have u4:=I4.base
    have nb:∀{b:Addr} {o:Obj},s.heap.get? b=some o->b∉fp->b∉s.heap.objs.size::fp:=λ{b o} e hb z=>by
     rcases Al.mp z with z|z
     . exact absurd (Aj e) (by rw[z];exact A8 _)
     . exact hb z
    have neD:∀{b:Addr} {o:Obj},s.heap.get? b=some o->b≠s.heap.objs.size:=λ{b o} e=>Ao (Aj e)
    have trD:∀{b:Addr} {o:HO},H b=some o->b≠s.heap.objs.size:=λ{b o} e=>aU e hDn
    have u:Un (frs X.stack) fp H (upd H3 s.heap.objs.size (.lst ys)) s.heap s4.heap:={
     keep:=λb o e nn hb hx=>u4.keep b o (Ab _ e) nn hb (nb e hx)
     slot:=λb o e nn hb hx=>u4.slot b o (Ab _ e) nn hb (nb e hx)
     free:=λb o e nn hx=>by rw[upd_ne (neD e)];exact u4.free b o (Ab _ e) nn (nb e hx)
     there:=λb o e hx=>u4.there b o (Ab _ e) (nb e hx)
     tups:=λb xs e=>by rw[upd_ne (trD e)];exact u4.tups b xs e
     frzs:=λb o u e=>by rw[upd_ne (trD e)];exact u4.frzs b o u e
     tbls:=λb ps e=>by rw[upd_ne (trD e)];exact u4.tbls b ps e }
    have hl:=rv3.length
    have hok:HOk X.prog X.w (upd H3 s.heap.objs.size (.lst ys)) s4.heap:=HOk.track I4.hok nD4 ⟨hz,its,cnt,rv3,hD4⟩
    have I5:Inv X pins σ (upd H3 s.heap.objs.size (.lst ys)) s4:=I.call' I4.os u hok I4.bare λb hb=>⟨(f b hb).2.2.2.1,(f b hb).2.1,(f b hb).2.2.2.2.1,(f b hb).2.2.2.2.2⟩
    obtain⟨m4,hn4,_⟩:=I4.loc
    refine hR s.heap.objs.size (s.heap.objs.size+1) s4 _ m4 I5 hn4 (Cg _) (λσ' s'' h' I6 hs'=>?_) (qn _ nD4)
    have:=I6.turned (t':=s''.toks) (h':=h') (it:=s.heap.objs.size+1) (λb o hb e=>hs'.extBut b o hb e) (by rw[upd_ne (B4 (Cg _))];exact I4.free)
     (B4 (B1 I.lt)) (.inr (Nat.le_succ_of_le I.sz)) (λx c e=>Ao (B1 (I.cellLt e))) λp hp z=>?_
    . exact this
    . have:=Aj (I.pin p hp).1
      rw[z] at this
      exact absurd this (Nat.not_lt.mpr (Dm _))
  . refine thn (T.item (cS X scope N' (s.heap.objs.size+1) { s with heap:=s.heap.push (cV [] 0) } H (s.heap.objs.size::fp)) rfl rfl rfl hc i _ s3 _ H3 _ I3 (fpc _ pl1 fr3) st3 go) λr s4 ⟨u,hr,h4⟩=>?_
    subst hr
    refine thn h4 λ_ s5 ⟨x,H5,I5,r5,y5,st5,fr5⟩=>?_
    obtain⟨hg,ht,he⟩:=hch (s.heap.objs.size+1) { s with heap:=s.heap.push (cV [] 0) } H (s.heap.objs.size::fp)
    have I5':=I5.pinned (fpc _ pl1 fr5) (T.obj _ _ st5)
    have keep:∀{σ7:St} {H7:Hp} {s7:Shared},Inv (cS X scope N' (s.heap.objs.size+1) { s with heap:=s.heap.push (cV [] 0) } H (s.heap.objs.size::fp)) ([(s.heap.objs.size,cV its cnt)]++nL fp s5.heap) σ7 H7 s7 ->
     tn (i+1) s7.heap/\(∀b∈fp,H7 b=none)/\s7.heap.get? s.heap.objs.size=some (cV its cnt)/\H7 s.heap.objs.size=none:=by
     intro σ7 H7 s7 I7
     obtain⟨hD7,nD7,_⟩:=I7.pin (s.heap.objs.size,cV its cnt) (by simp[cS])
     refine⟨T.keep _ _ _ st5 λb hb o e=>(I7.pin (b,o) (Aq _ (Aq _ (fE hb e)))).1,λb hb=>?_,hD7,nD7⟩
     obtain⟨o,e,d⟩:=T.obj _ _ st5 b hb
     exact(I7.pin (b,o) (Aq _ (Aq _ (fE hb e)))).2.1
    refine thn (hg _ s5 _ H5 x u _ I5' r5 (step x H5 y5)) λ_ s6 ⟨σ6,H6,I6,q6⟩=>?_
    refine thn (ht _ s6 σ6 H6 _ I6 q6) λb s7 ⟨H7,I7,q7⟩=>?_
    cases b with
    | false=>
     rw[if_neg bN] at q7 ⊢
     obtain⟨m',hm,w7⟩:=q7
     obtain⟨t7,f7,d7,n7⟩:=keep I7
     exact⟨m',hm,i+1,ys,its,cnt,σ6,H7,pinD I7 d7 n7,t7,f7,rv3,w7⟩
    | true=>
     rw[if_pos rfl] at q7 ⊢
     refine thn (he _ s7 σ6 H7 _ I7 q7) λyv s8 ⟨y,H8,I8,r8,q8⟩=>?_
     obtain⟨m',hm,w8⟩:=q8
     obtain⟨t8,f8,d8,n8⟩:=keep I8
     have hl:=rv3.length
     have hzv:its.toArray.size<=sizeLine:=by rw[Af];omega
     refine call_meets F.slot_list_append ⟨_,d8,rfl⟩ F.entry_list_append (F.args_list_append_2 _ _) (PySem.list_append s.heap.objs.size its.toArray cnt yv hzv) ⟨d8,?_⟩
     have q:=PySem.IsL.update d8 (λa=>a.push yv)
     have e':its.toArray.push yv=(its++[yv]).toArray:=by simp
     rw[e'] at q
     have I9:=(I8.unpinned (pins:=[(s.heap.objs.size,cV its cnt)])).pins_of (pins':=[]) (λp hp=>absurd hp (by simp))
     have I10:=I9.turned (t':=s8.toks) (it:=s.heap.objs.size) (h':=s8.heap.update s.heap.objs.size (Obj.mapSeq λa=>a.push yv)) (λb o hb e=>(Db s8.heap _ (Ne.symm hb)).trans e) n8
      (Ao (Cg _)) (.inl Ak) (λx c e=>Ao (I.cellLt (cB hh e))) (λp hp=>absurd (show p∈([]:List (Addr×Obj)) from by simpa[cS] using hp) (by simp))
     refine⟨m',hm,i+1,ys++[y],its++[yv],_,σ6,H8,pinD I10 q n8,?_,f8,rv3.append (.cons r8 .nil),w8⟩
     refine T.keep _ _ _ t8 λb hb o e=>(Db s8.heap _ ?_).trans e
     intro z
     exact absurd (hf b hb) (by rw[<-z];exact A8 _)
 have startC:∀C,C=s.heap.objs.size+1->codeAny (model X.prog X.w) X.A (.compLoop (.ListComp elt [⟨tg,iter,ifs,0⟩] scope pos) 0 (.ref it) (.ref s.heap.objs.size) (compEnvC scope (iK X.env.cells scope.names []) C X.env))
  (RR (.ref s.heap.objs.size) C) { s with heap:=h₁,toks:=s.toks+([]:List (Str×Value)).length }:=by
  rintro C rfl
  exact start
 exact codeAny_compStart_list (startC _ hsz) (T.self X.A 0 _ _ _ (T.keep _ _ _ st λb _ o e=>hk b o (Ab _ e)) (startC _ hsz))
end
section
variable {X:Cx} {scope:Scope} {k:Nat} {caps:List Nat} {N':List Str} {tg iter elt:Expr} {ifs:List Expr} {pos:Pos} {wi:TI} {g:TG} {tt:TT} {te:TE}
theorem rS(CS:cG X scope k caps N')(hc:X.calm=true)(hi:PI X tg iter wi)
 (hch:∀C s₀ H₀ ex,PG (cS X scope N' C s₀ H₀ ex) tg g/\PTs (cS X scope N' C s₀ H₀ ex) ifs tt/\PE (cS X scope N' C s₀ H₀ ex) elt te) (hs:∀x,foldedSetIterable iter X.env x=pure x) :
 PE X (.ListComp elt [⟨tg,iter,ifs,0⟩] scope pos) (aBV k caps wi g tt te):=by
 intro pins s σ H Q I h
 rw[eval_ListComp]
 refine wpAny_comprehension_free (use:=none) rfl hs (gA λn hn=>I.ok.has n (CS.free n hn)) CS.kind CS.loc (thn (hi pins s σ H _ I h) λxv s1 h1=>thn h1 λitv s2 h2=>?_)
 obtain⟨it,fp,tn,J,H2,e,I2,T,st2,f2,hw⟩:=h2
 subst e
 exact uJ (RR:=λacc C=>compPost (model X.prog X.w) X.A X.xe none (EP X pins σ Q) acc C) (Q:=Q) CS hc I2 T st2 f2 hch hw λD C s' H' m J hn _ hall q=>⟨m,hn,λh' hs'=>⟨.ref D,H',hall σ s' h' J hs',rfl,q⟩⟩
theorem xF{i:Nat}{x:Str}{pos' spos:Pos}(CS:cG X scope k caps N')(hc:X.calm=true)(hi:PI X tg iter wi)
 (hch:∀C s₀ H₀ ex,PG (cS X scope N' C s₀ H₀ ex) tg g/\PTs (cS X scope N' C s₀ H₀ ex) ifs tt/\PE (cS X scope N' C s₀ H₀ ex) elt te) (hs:∀x,foldedSetIterable iter X.env x=pure x)
 (hN:X.N.Nodup) (hx':X.N[i]? = some x) (hx:Loc X.env.scope x) (hf:X.fn x=true\/X.env.scope.names.lookup x=some .local) :
 PS X (.Assign [.Name x pos'] (.ListComp elt [⟨tg,iter,ifs,0⟩] scope pos) spos) (aFZ (aBV k caps wi g tt te) (pR i)):=by
 have hb:∃b,swapsWith (.ListComp elt [⟨tg,iter,ifs,0⟩] scope pos) (some (.Name x pos')) spos.line X.env=pure b:=⟨_,rfl⟩
 obtain⟨b,hb⟩:=hb
 cases b with
 | false=>exact gG hN hx' hx (rS CS hc hi hch hs) hb hf
 | true=>
  intro pins s σ H D I h
  rw[exec_Assign_Name_used x pos' _ spos hb]
  refine Aa (wpAny_standAt (Aa ?_))
  show wpAny _ _ (comprehension (.ListComp elt [⟨tg,iter,ifs,0⟩] scope pos) scope X.env (firstIterPos [⟨tg,iter,ifs,0⟩] pos) (newList []) (firstAsync [⟨tg,iter,ifs,0⟩]) (firstIter [⟨tg,iter,ifs,0⟩] X.env) (some (assign (.Name x pos') X.env)) >>= λ_=>pure ()) _ _ s
  refine Aa (wpAny_comprehension_free (use:=some (assign (.Name x pos') X.env)) rfl hs (gA λn hn=>I.ok.has n (CS.free n hn)) CS.kind CS.loc (thn (hi pins s σ H _ I h) λxv s1 h1=>thn h1 λitv s2 h2=>?_))
  obtain⟨it,fp,tn,J,H2,e,I2,T,st2,f2,hw⟩:=h2
  subst e
  refine uJ (Q:=λv H'=>D.nx (σ.set i (some v)) H') (RR:=λacc C=>compPost (model X.prog X.w) X.A X.xe (some (assign (.Name x pos') X.env)) (λ_ s'=>wpAny (model X.prog X.w) X.A (pure ()) (λ_ s'=>wpAny (model X.prog X.w) X.A (pure Flow.next) (SP X pins D) X.xe s') X.xe s') acc C) CS hc I2 T st2 f2 hch hw λD' C s' H' m J hn lt hall q=>?_
  show wpAny _ _ (assign (.Name x pos') X.env (.ref D')) _ _ s'
  refine wpAny_assign_Name (pQ (v:=V.ref D') J hN hx' hx rfl (λs'' J' hsb=>?_) hf)
  obtain⟨a,sb,ha⟩:=hsb
  refine⟨m,hn.sameBut sb ?_,λh' hs'=>?_⟩
  . rcases ha with z|z
    . rw[z];exact B4 (Nat.lt_trans I2.lt lt)
    . exact B4 (Nat.lt_trans (I2.cellLt z) lt)
  . exact Ad (Ad ⟨_,H',hall _ s'' h' J' hs',q⟩)
end
end L2
end
noncomputable section
namespace Hp
open PySem PySem.Spec PyProof.Rows L2
def Rr(K:Fg)(H H':Hp)(Y:Addr->Prop)(r:Rt)(u:V):Prop:=
 if r.2.1=true then ∃a xs ds,u=.ref a/\r.1=.lst ds/\H a=none/\H' a=some (.lst xs)/\Reps K H' (λb=>b=a\/Y b\/(r.2.2=false/\H b≠none)) ds xs
 else Rep K H' (λb=>Y b\/(r.2.2=false/\H b≠none)) r.1 u
def spF(K:Fg)(P:Pg)(n:Nat)(f:Nat):Sp:=λvs H Q _=>∃(ds:List D) (Y:Addr->Prop),(∀a,Y a->H a≠none)/\Reps K H Y ds vs/\RE (call P n f ds) λr=>∀u H',Tk K H'->aF H H'->Rr K H H' Y r u->Q u H'
def spL(K:Fg)(P:Pg)(n:Nat)(f:Nat):Sp:=λvs H Q _=>lR P f=true/\∃(cs ds:List D) (p:Addr) (xs us:List V) (Y:Addr->Prop),vs=.ref p::us/\(∀a,Y a->H a≠none)/\H p=some (.lst xs) /\
 Reps K H (λb=>b=p\/Y b) cs xs/\Reps K H (λb=>b=p\/Y b) ds us/\RE (call P n f (.err 0 cs::ds)) λr=>∃d cs',aBM r.1=some (d,cs')/\∀(u:V) (H':Hp) (R2:Addr->Prop) (xs':List V),Tk K H'->Kp (λb=>b=p) H H'->R2 p->(∀b,R2 b->b=p\/H b=none)->H' p=some (.lst xs') ->
  Reps K H' (λb=>R2 b\/Y b) cs' xs'->(if r.2.1=true then ∃a ys es,u=.ref a/\d=.lst es/\H a=none/\R2 a/\H' a=some (.lst ys)/\Reps K H' (λb=>R2 b\/Y b\/(r.2.2=false/\H b≠none)) es ys
   else Rep K H' (λb=>R2 b\/Y b\/(r.2.2=false/\H b≠none)) d u)->Q u H'
def spA(K:Fg)(P:Pg)(n:Nat)(f:Nat):Sp:=λvs H Q E=>spF K P n f vs H Q E\/spL K P n f vs H Q E
def bltNames:List Str:=["len", "list", "tuple", "min", "max", "abs", "int", "str", "sum", "all", "any", "sorted", "bool", "range", "zip", "enumerate", "reversed", "set", "isinstance", "dict", "repr"]
structure Md (X:Cx) (P:Pg) (Γ:Ct) (n:Nat):Prop where
 fn:∀(f:Nat) (x:Str),Γ.fns[f]? = some x->∃fa fd ps,X.mg x=some (.ref fa)/\PySem.W.keepIn X.K (.ref fa)=true/\iL X.K fd ps []/\mI X.prog X.w X.K X.mg X.base CX0 n fa fd ps (spA X.K P n f)
 blt:∀x∈bltNames,X.mg x=none
 cns:∀(x:Str) (d:D),Γ.cns.lookup x=some d->∃u v,X.mg x=some u/\aW v u/\∀H ex,Rep X.K H ex d v
 tab:∀(i:Nat) (x:Str),Γ.tbs[i]? = some x->∃a t,X.mg x=some (.ref a)/\P.tabs[i]? = some t/\qB X.prog X.w X.K a t
structure Mc (X:Cx) (P:Pg) (Γ:Ct) (n:Nat):Prop where
 md:Md X P Γ n
 N:X.N=Γ.N
 nd:X.N.Nodup
 sc:X.env.scope.names=Γ.sc
 calm:X.calm=true
 room:iT n X.A
 xe:X.xe=λ_ _=>False
 st:∀x:Str,uB Γ x=true->X.fn x=true\/X.env.scope.names.lookup x=some .local
 fk:X.env.scope.kind=.function
section
variable {X:Cx} {P:Pg} {Γ:Ct} {n:Nat}
theorem Mc.units(M:Mc X P Γ n):X.A.units+200<cLine:=by have:=M.room.un;omega
theorem Mc.vis(M:Mc X P Γ n){x:Str}(h:aBO Γ x=true):Vis X.env.scope x:=by
 unfold aBO at h
 unfold Vis
 rw[M.sc]
 cases q:Γ.sc.lookup x with
 | none=>rw[q] at h;cases h
 | some k=>rw[q] at h;cases k <;> first|exact .inl rfl|exact .inr (.inl rfl)|exact .inr (.inr rfl)|cases h
theorem Mc.loc(M:Mc X P Γ n){x:Str}(h:uB Γ x=true):L2.Loc X.env.scope x:=by
 unfold uB at h
 unfold L2.Loc
 rw[M.sc]
 cases q:Γ.sc.lookup x with
 | none=>rw[q] at h;cases h
 | some k=>rw[q] at h;cases k <;> first|exact .inl rfl|exact .inr rfl|cases h
theorem Mc.gl(M:Mc X P Γ n){x:Str}(h:bL Γ x=true):Gl X x:=by
 unfold bL at h
 unfold Gl
 show X.env.scope.names.lookup x=_
 rw[M.sc]
 cases q:Γ.sc.lookup x with
 | none=>rw[q] at h;cases h
 | some k=>rw[q] at h;cases k <;> first|rfl|cases h
theorem aH{x:Str}(h:bD x=true):(x==("__debug__" : Str))=false:=by
 unfold bD at h
 simp only[bA,Bool.not_eq_true'] at h
 exact h.1
theorem dE{x:Str}(h:bD x=true):(x==("__classdict__" : Str))=false:=by
 unfold bD at h
 simp only[bA,Bool.not_eq_true'] at h
 exact h.2
theorem aGx:∀{d d':D},eqK d d'=true->d=d':=by
 intro d d' h
 cases d <;> cases d' <;> simp[eqK] at h <;> first|rfl|(subst h;rfl)
def aG:Expr->Bool
 | .Starred _ _=>false
 | .Slice _ _ _ _=>false
 | .Set _ _ _=>false
 | _=>true
theorem uK{α:Type}{o:Option α}{f:α->Bool}(h:oB o f=true):∃a,o=some a/\f a=true:=by
 cases o with
 | none=>cases h
 | some a=>exact⟨a,rfl,h⟩
theorem aB{α:Type}{q:α->Prop}{o:Option { a:α // q a }}{f:α->Bool}(h:oS o f=true):∃a,q a/\f a=true:=by
 cases o with
 | none=>cases h
 | some a=>exact⟨a.1,a.2,h⟩
theorem aBX{ks vs:Es}{e:Expr}(h:aK Γ (.dic ks vs) e=true):∃a b,(ks=.cons a .nil/\vs=.cons b .nil)/\∃r:Expr×Expr,(∃p,e=.Dict [some r.1] [r.2] p)/\aK Γ a r.1=true/\aK Γ b r.2=true:=by
 match ks,vs,h with
 | .cons a .nil,.cons b .nil,h=>
  obtain⟨r,h1,g⟩:=aB h
  exact⟨a,b,⟨rfl,rfl⟩,r,h1,(bA _ _).mp g⟩
 | .nil,_,h=>cases h
 | .cons _ (.cons _ _),_,h=>cases h
 | .cons _ .nil,.nil,h=>cases h
 | .cons _ .nil,.cons _ (.cons _ _),h=>cases h
theorem aE{c:E}{e:Expr}(h:aK Γ c e=true):aG e=true:=by
 cases c with
 | c d=>
  rcases(Cv _ _).mp (show(oS (asC e) (eqC d)||oS (asN e) λx=>bL Γ x&&bD x&&oB (Γ.cns.lookup x) (eqK d))=true from h) with h|h
  . obtain⟨_,⟨_,_,rfl⟩,_⟩:=aB h;rfl
  . obtain⟨_,⟨_,rfl⟩,_⟩:=aB h;rfl
 | v i=>obtain⟨_,⟨_,rfl⟩,_⟩:=aB h;rfl
 | op o a b=>obtain⟨_,⟨_,rfl⟩,_⟩:=aB h;rfl
 | neg _=>cases h
 | nt a=>obtain⟨_,⟨_,rfl⟩,_⟩:=aB h;rfl
 | an a b=>obtain⟨_,rfl,_⟩:=aB h;rfl
 | orr a b=>obtain⟨_,rfl,_⟩:=aB h;rfl
 | ife t a b=>obtain⟨_,⟨_,rfl⟩,_⟩:=aB h;rfl
 | cmp o a b=>obtain⟨_,⟨_,rfl⟩,_⟩:=aB h;rfl
 | cmp2 o1 o2 a b c=>obtain⟨_,⟨_,rfl⟩,_⟩:=aB h;rfl
 | idx a b=>obtain⟨_,⟨_,rfl⟩,_⟩:=aB h;rfl
 | sli a lo hi=>obtain⟨_,⟨_,rfl⟩,_⟩:=aB h;rfl
 | tup es=>obtain⟨_,⟨_,_,rfl⟩,_⟩:=aB h;rfl
 | lst es=>obtain⟨_,⟨_,rfl⟩,_⟩:=aB h;rfl
 | call f es=>obtain⟨_,⟨_,_,rfl⟩,_⟩:=aB h;rfl
 | bi b es=>obtain⟨_,⟨_,_,rfl⟩,_⟩:=aB h;rfl
 | mth _ _ _=>cases h
 | isi a cs=>obtain⟨_,⟨_,_,rfl⟩,_⟩:=aB h;rfl
 | comp k caps t it cond elt=>obtain⟨_,⟨_,rfl⟩,_⟩:=aB h;rfl
 | numset _=>cases h
 | tget i a=>obtain⟨_,⟨_,_,rfl,_⟩,_⟩:=aB h;rfl
 | lzip _ _=>cases h
 | lix i k=>obtain⟨_,⟨_,rfl⟩,_⟩:=aB h;rfl
 | stp a k=>obtain⟨_,⟨_,rfl⟩,_⟩:=aB h;rfl
 | dic ks vs=>obtain⟨_,_,_,_,⟨_,rfl⟩,_⟩:=aBX h;rfl
 | attr _ _=>cases h
 | sset a=>obtain⟨_,⟨_,_,rfl⟩,_⟩:=aB h;rfl
 | callP f es=>obtain⟨_,⟨_,_,rfl⟩,_⟩:=aB h;rfl
 | o2 i k=>obtain⟨_,⟨_,rfl⟩,_⟩:=aB h;rfl
 | dgne i k a=>obtain⟨_,⟨_,rfl⟩,_⟩:=aB h;rfl
 | srtD i=>obtain⟨_,⟨_,_,rfl⟩,_⟩:=aB h;rfl
theorem aA{e:Expr}{es:List Expr}{env:Env}(h:aG e=true):starEach (e::es) env=(false,eval e env)::starEach es env:=by
 cases e <;> first|rfl|cases h
theorem dO:∀{cs:Es} {es:List Expr},chkEs Γ cs es=true->es.all aG=true
 | .nil,[],_=>rfl
 | .nil,_::_,h=>by cases h
 | .cons _ _,[],h=>by cases h
 | .cons c cs,e::es,h=>by
  simp only[chkEs,bA] at h
  rw[List.all_cons,aE h.1,dO h.2]
  rfl
theorem bO{pos:Pos}{env:Env}:∀{es:List Expr},es.all aG=true->(backTo pos (starEach es env)).any (·.1)=false
 | [],_=>rfl
 | e::es,h=>by
  rw[List.all_cons,bA] at h
  rw[aA h.1]
  show(false||(backTo pos (starEach es env)).any (·.1))=false
  rw[bO h.2]
  rfl
theorem fK{e:Expr}(h:aG e=true):yK e:=by
 intro o i
 cases e <;> first|rfl|cases h
theorem eT{e:Expr}{env:Env}(h:aG e=true):∀x,foldedSetIterable e env x=pure x:=by
 intro x
 cases e <;> first|rfl|cases h
theorem eU{op:CmpOp}{e:Expr}(h:aG e=true):behindInMarks op e=false:=by
 cases e <;> first|rfl|cases h
variable {RT Y old:Addr->Prop} {σ:Sg} {pos:Pos}
abbrev WE(X:Cx)(P:Pg)(n:Nat)(RT Y old:Addr->Prop)(σ:Sg)(c:E):TE:=wE X P (call P n) RT Y old σ c
abbrev WT(X:Cx)(P:Pg)(n:Nat)(RT Y old:Addr->Prop)(σ:Sg)(c:E):TT:=wT X P (call P n) RT Y old σ c
abbrev WA(X:Cx)(P:Pg)(n:Nat)(RT Y old:Addr->Prop)(σ:Sg)(c:Es):TA:=wA X P (call P n) RT Y old σ c
theorem RE.bind'{α β:Type}{x:R α}{f:α->R β}{p:β->Prop}(h:RE (x >>= f) p):RE x λa=>RE (f a) p:=by rwa [RE.bind] at h
theorem wE.one{a:E}{σV:L2.St}{H:Hp}{p:Vl->Prop}{Q:V->Hp->Prop}(S:Sx X.K RT Y old σ σV H)(h:RE (ev P (call P n) σ a) p)
 (f:∀x u H',p x->Tk X.K H'->Sx X.K RT Y old σ σV H'->Ro X.K RT Y old σ σV H H' x u->Q u H'):WE X P n RT Y old σ a σV H Q:=
 ⟨S,h.mono λx hx u H' t r=>f x u H' hx t (S.grow r.1 t) r⟩
theorem aMo{o:Operator}{a b:E}{ea eb:Expr}(ha:PE X ea (WE X P n RT Y old σ a))(hb:PE X eb (WE X P n RT Y old σ b)):PE X (.BinOp ea o eb pos) (WE X P n RT Y old σ (.op o a b)):=by
 intro pins s σV H Q I hw
 obtain⟨S,h⟩:=hw
 have h:=RE.bind' (show RE (ev P (call P n) σ a >>= λx=>ev P (call P n) σ b >>= λy=>opD o x y) _ from h)
 refine wpAny_BinOp (thn (ha pins s σV H (λux H1=>WE X P n RT Y old σ b σV H1 λuy H2=>∃x y,Sx X.K RT Y old σ σV H2/\aF H H2/\Rv X.K RT Y old σ σV H2 x ux/\Rv X.K RT Y old σ σV H2 y uy/\(x.fr=true->∃a xs,ux=.ref a/\H2 a=some (.lst xs))/\RE (opD o x y) (Wn X RT Y old σ σV H Q)) I
  (wE.one S h λx u H1 hx t1 S1 r1=>wE.one S1 (RE.bind' hx) λy u' H2 hy t2 S2 r2=>⟨x,y,S2,r1.1.trans r2.1,(r1.rv S).grow r2.1,r2.rv S1,λhf=>?_,hy⟩)) λv s1 ⟨x',H1,I1,rx,q1⟩=>thn (hb pins s1 σV H1 _ I1 q1) λu s2 ⟨y',H2,I2,ry,q2⟩=>?_)
 . have:=r1.2
   rw[if_pos hf] at this
   obtain⟨a',xs,ds,e1,_,_,e4,_⟩:=this
   exact⟨a',xs,e1,r2.1 _ _ e4⟩
 . obtain⟨x,y,S2,sm,hx,hy,hf,h⟩:=q2
   exact uE I2 S2 rx ry hx hy hf (h.mono λv hv u H' t r=>hv u H' t (r.from sm))
theorem aBY{H:Hp}{σV:L2.St}{x:Vl}{u:V}{k:Bool}(hx:Rv X.K RT Y old σ σV H x u)(h:aBG x.d=some k):aDJ X.K u H k:=by
 unfold aBG at h
 split at h
 . rename_i d;rw[hx.non d];exact(Ai h).symm
 . rename_i b d;rw[hx.bl d];exact(Ai h).symm
 . rename_i i d;rw[hx.int d];exact(Ai h).symm
 . rename_i z d
   by_cases hl:z.length<=lim
   . rw[if_pos hl] at h
     rw[hx.str d]
     refine⟨dR hl,?_⟩
     rw[<-Ai h]
     cases hz:z.length with
     | zero=>rfl
     | succ m=>simp;omega
   . rw[if_neg hl] at h;cases h
 . rename_i ds d
   obtain⟨a,xs,e,q,r⟩:=hx.tup d
   rw[e]
   refine .inr (.inl ⟨xs,q,?_⟩)
   rw[<-Ai h]
   have:=r.length
   cases ds <;> cases xs <;> first|rfl|(simp at this)
 . rename_i ds d
   obtain⟨a,xs,e,q,_,r⟩:=hx.lst d
   rw[e]
   refine .inl ⟨xs,q,?_⟩
   rw[<-Ai h]
   have:=r.length
   cases ds <;> cases xs <;> first|rfl|(simp at this)
 . cases h
theorem RE.tru{x:Vl}{p:Bool->Prop}(h:RE (dN x) p):∃k,aBG x.d=some k/\p k:=by
 unfold dN at h
 cases q:aBG x.d with
 | none=>rw[q] at h;exact h.elim
 | some k=>rw[q] at h;exact⟨k,rfl,h⟩
theorem aJD{a:E}{ea:Expr}(ha:PE X ea (WE X P n RT Y old σ a)):PE X (.UnaryOp .Not ea pos) (WE X P n RT Y old σ (.nt a)):=by
 intro pins s σV H Q I hw
 obtain⟨S,h⟩:=hw
 have h:=RE.bind' (show RE (ev P (call P n) σ a >>= λx=>dN x >>= λk=>R.ok (Vl.cl (.bl (!k)))) _ from h)
 refine UnaryOp_ (thn (ha pins s σV H (λu H1=>∃k,aDJ X.K u H1 k/\Q (.bl (!k)) H1) I (wE.one S h λx u H1 hx t1 S1 r1=>?_)) λv s1 ⟨u,H1,I1,ru,k,hk,q⟩=>?_)
 . obtain⟨k,hk,hp⟩:=RE.tru (RE.bind' hx)
   exact⟨k,aBY (r1.rv S) hk,(show Wn X RT Y old σ σV H Q (Vl.cl (.bl (!k))) from hp) _ _ t1 (Ro.cl r1.1 rfl)⟩
 . refine not_of (thn (aBw pins s1 σV H1 u v (λk' H'=>k'=k/\H'=H1) I1 ru ⟨k,hk,rfl,rfl⟩) λb s2 ⟨H2,I2,e1,e2⟩=>?_)
   subst e1 e2
   exact⟨.bl (!b),H2,I2,rfl,q⟩
theorem nY{c:E}{e:Expr}(ha:PE X e (WE X P n RT Y old σ c))(he:∀whole,isTrue e X.env whole=(do let v<-whole;standAt e.pos;holding [v] (truthy v)))
 (hc:∀p,RE (tst P (call P n) σ c) p->RE (ev P (call P n) σ c) λx=>RE (dN x) p):PT X e (WT X P n RT Y old σ c):=by
 refine(aBx ha he).imp λσV H Q t ⟨S,h⟩=>?_
 refine wE.one S (hc _ h) λx u H1 hx t1 S1 r1=>?_
 obtain⟨k,hk,hp⟩:=RE.tru hx
 exact⟨k,aBY (r1.rv S) hk,λt'=>hp _ t' r1.1⟩
theorem aJE{a b:E}{ea eb:Expr}{r:List Expr}(ha:PE X ea (WE X P n RT Y old σ a))(hb:PE X (.BoolOp .And (eb::r) pos) (WE X P n RT Y old σ b)):PE X (.BoolOp .And (ea::eb::r) pos) (WE X P n RT Y old σ (.an a b)):=by
 refine(aFT ha hb).imp λσV H Q t ⟨S,h⟩=>?_
 have h:=RE.bind' (show RE (ev P (call P n) σ a >>= λx=>(match x.d with|.bl true=>ev P (call P n) σ b|.bl false=>R.ok (Vl.cl (.bl false))|_=>.bad)) _ from h)
 refine wE.one S h λx u H1 hx t1 S1 r1=>?_
 split at hx
 . rename_i d1
   refine⟨true,(r1.rv S).bl d1,?_⟩
   rw[if_pos rfl]
   exact⟨S1,hx.mono λv hv u H' t r=>λ_=>hv u H' t (r.from r1.1)⟩
 . rename_i d1
   refine⟨false,(r1.rv S).bl d1,?_⟩
   rw[if_neg bN]
   exact λt'=>hx _ _ t' (Ro.cl r1.1 rfl)
 . exact hx.elim
theorem aFt{a b:E}{ea eb:Expr}{r:List Expr}(ha:PE X ea (WE X P n RT Y old σ a))(hb:PE X (.BoolOp .Or (eb::r) pos) (WE X P n RT Y old σ b)):PE X (.BoolOp .Or (ea::eb::r) pos) (WE X P n RT Y old σ (.orr a b)):=by
 refine(aIJ ha hb).imp λσV H Q t ⟨S,h⟩=>?_
 have h:=RE.bind' (show RE (ev P (call P n) σ a >>= λx=>(match x.d with|.bl true=>R.ok (Vl.cl (.bl true))|.bl false=>ev P (call P n) σ b|_=>.bad)) _ from h)
 refine wE.one S h λx u H1 hx t1 S1 r1=>?_
 split at hx
 . rename_i d1
   refine⟨true,(r1.rv S).bl d1,?_⟩
   rw[if_pos rfl]
   exact λt'=>hx _ _ t' (Ro.cl r1.1 rfl)
 . rename_i d1
   refine⟨false,(r1.rv S).bl d1,?_⟩
   rw[if_neg bN]
   exact⟨S1,hx.mono λv hv u H' t r=>λ_=>hv u H' t (r.from r1.1)⟩
 . exact hx.elim
theorem aJF{t a b:E}{et ea eb:Expr}(ht:PT X et (WT X P n RT Y old σ t))(ha:PE X ea (WE X P n RT Y old σ a))(hb:PE X eb (WE X P n RT Y old σ b)):PE X (.IfExp et ea eb pos) (WE X P n RT Y old σ (.ife t a b)):=by
 refine(aBn ht ha hb).imp λσV H Q t0 ⟨S,h⟩=>?_
 have h:=RE.bind' (show RE (tst P (call P n) σ t >>= λx=>if x=true then ev P (call P n) σ a else ev P (call P n) σ b) _ from h)
 refine⟨S,h.mono λk hk H1 t1 s1=>?_⟩
 cases k with
 | true=>rw[if_pos rfl] at hk ⊢;exact⟨S.grow s1 t1,hk.mono λv hv u H' t r=>λ_=>hv u H' t (r.from s1)⟩
 | false=>rw[if_neg bN] at hk ⊢;exact⟨S.grow s1 t1,hk.mono λv hv u H' t r=>λ_=>hv u H' t (r.from s1)⟩
def w2(X:Cx)(P:Pg)(n:Nat)(RT Y old:Addr->Prop)(σ:Sg)(σV:L2.St)(H:Hp)(p:Vl->Vl->Prop)(ux uy:V)(H2:Hp):Prop:=
 ∃x y,Sx X.K RT Y old σ σV H2/\aF H H2/\Rv X.K RT Y old σ σV H2 x ux/\Rv X.K RT Y old σ σV H2 y uy/\p x y
theorem dU(M:Mc X P Γ n)(o:CmpOp):OpR X (compareOp o) (λux uy H Q=>∃(σ:Sg) (σV:L2.St) (x y:Vl) (k:Bool),Rv X.K RT Y old σ σV H x ux/\Rv X.K RT Y old σ σV H y uy/\bG o x.d y.d=some k/\Q (.bl k) H):=by
 intro pins s σV H ux uy v u Q I rx ry h
 obtain⟨σ',σV',x,y,k,hx,hy,hk,q⟩:=h
 exact aAC I M.units rx ry hx hy hk q
theorem aJG(M:Mc X P Γ n){o:CmpOp}{a b:E}{ea eb:Expr}(ha:PE X ea (WE X P n RT Y old σ a))(hb:PE X eb (WE X P n RT Y old σ b))(hp:aG eb=true):PE X (.Compare ea [o] [eb] pos) (WE X P n RT Y old σ (.cmp o a b)):=by
 refine(yH (dU (RT:=RT) (Y:=Y) (old:=old) M o) ha hb (eU hp)).imp λσV H Q t ⟨S,h⟩=>?_
 have h:=RE.bind' (show RE (ev P (call P n) σ a >>= λx=>ev P (call P n) σ b >>= λy=>(match bG o x.d y.d with|some k=>R.ok (Vl.cl (.bl k))|none=>.bad)) _ from h)
 refine wE.two S (h.mono λx hx=>RE.bind' hx) λx y ux uy H2 hp t2 s2 S2 hx hy=>?_
 split at hp
 . rename_i k hk
   exact⟨σ,σV,x,y,k,hx,hy,hk,λt'=>hp _ _ t' (Ro.cl s2 rfl)⟩
 . exact hp.elim
theorem uL(M:Mc X P Γ n){o:CmpOp}{a b:E}{ea eb:Expr}(ha:PE X ea (WE X P n RT Y old σ a))(hb:PE X eb (WE X P n RT Y old σ b))(hp:aG eb=true):PT X (.Compare ea [o] [eb] pos) (WT X P n RT Y old σ (.cmp o a b)):=by
 refine(rC (dU (RT:=RT) (Y:=Y) (old:=old) M o) ha hb (eU hp)).imp λσV H Q t ⟨S,h⟩=>?_
 have h:=RE.bind' (show RE (ev P (call P n) σ a >>= λx=>ev P (call P n) σ b >>= λy=>(match bG o x.d y.d with|some k=>R.ok k|none=>.bad)) _ from h)
 refine wE.two S (h.mono λx hx=>RE.bind' hx) λx y ux uy H2 hp t2 s2 S2 hx hy=>?_
 split at hp
 . rename_i k hk
   exact⟨σ,σV,x,y,k,hx,hy,hk,k,rfl,λt'=>hp _ t' s2⟩
 . exact hp.elim
theorem aJH{a b:E}{ea eb:Expr}(ha:PE X ea (WE X P n RT Y old σ a))(hb:PE X eb (WE X P n RT Y old σ b))(hp:aG eb=true):PE X (.Subscript ea eb pos) (WE X P n RT Y old σ (.idx a b)):=by
 refine(yL rF ha hb (fK hp)).imp λσV H Q t ⟨S,h⟩=>?_
 have h:=RE.bind' (show RE (ev P (call P n) σ a >>= λx=>ev P (call P n) σ b >>= λy=>bT x y) _ from h)
 refine wE.two S (h.mono λx hx=>RE.bind' hx) λx y ux uy H2 hp t2 s2 S2 hx hy=>?_
 exact qC t2 hx hy (hp.mono λv hv u H' t r=>hv u H' t (r.from s2))
theorem uM:PA X [] (WA X P n RT Y old σ .nil):=cT.imp λσV H Q t ⟨S,h⟩ t'=>h [] H t' (aF.refl H) rfl
theorem iZ{c:E}{cs:Es}{e:Expr}{es:List Expr}(ha:PE X e (WE X P n RT Y old σ c))(hr:PA X es (WA X P n RT Y old σ cs))(hp:aG e=true):PA X (e::es) (WA X P n RT Y old σ (.cons c cs)):=by
 refine(bQ ha hr (aA hp)).imp λσV H Q t ⟨S,h⟩=>?_
 have h:=RE.bind' (show RE (ev P (call P n) σ c >>= λx=>evs P (call P n) σ cs >>= λxs=>R.ok (x::xs)) _ from h)
 refine wE.one S h λx u H1 hx t1 S1 r1=>⟨S1,(RE.bind' hx).mono λvs hv us H2 t2 s2 r2 t'=>?_⟩
 exact hv (u::us) H2 t' (r1.1.trans s2) ⟨u,us,rfl,(r1.rv S).grow s2,r2⟩
theorem rT:∀{cs:Es} {es:List Expr} {vs:List Vl},chkEs Γ cs es=true->evs P (call P n) σ cs=.ok vs->vs.length=es.length
 | .nil,[],vs,_,h=>by cases(show R.ok []=R.ok vs from h);rfl
 | .nil,_::_,_,h,_=>by cases h
 | .cons _ _,[],_,h,_=>by cases h
 | .cons c cs,e::es,vs,hc,h=>by
  simp only[chkEs,bA] at hc
  have h:(ev P (call P n) σ c >>= λx=>evs P (call P n) σ cs >>= λxs=>R.ok (x::xs))=R.ok vs:=h
  cases q1:ev P (call P n) σ c with
  | ok x=>
   cases q2:evs P (call P n) σ cs with
   | ok xs=>
    rw[q1] at h
    have h:(evs P (call P n) σ cs >>= λxs=>R.ok (x::xs))=R.ok vs:=h
    rw[q2] at h
    cases(show R.ok (x::xs)=R.ok vs from h)
    rw[lC,lC,rT hc.2 q2]
   | exc z=>rw[q1] at h;have h:(evs P (call P n) σ cs >>= λxs=>R.ok (x::xs))=R.ok vs:=h;rw[q2] at h;cases h
   | bad=>rw[q1] at h;have h:(evs P (call P n) σ cs >>= λxs=>R.ok (x::xs))=R.ok vs:=h;rw[q2] at h;cases h
  | exc z=>rw[q1] at h;cases h
  | bad=>rw[q1] at h;cases h
theorem RE.eq{α:Type}{x:R α}{p:α->Prop}(h:RE x p):∃a,x=.ok a/\p a:=by
 cases x with
 | ok a=>exact⟨a,rfl,h⟩
 | exc e=>exact h.elim
 | bad=>exact h.elim
theorem aJI{cs:Es}{es:List Expr}{k:Nat}(ha:PA X es (WA X P n RT Y old σ cs))(hc:chkEs Γ cs es=true)(hl:es.length<=1000):PE X (.Tuple es k pos) (WE X P n RT Y old σ (.tup cs)):=by
 refine(aBy ha).imp λσV H Q t ⟨S,h⟩=>?_
 have h:=RE.bind' (show RE (evs P (call P n) σ cs >>= λvs=>R.ok (pY vs)) _ from h)
 obtain⟨vs,e,hv⟩:=h.eq
 refine⟨S,?_⟩
 show RE (evs P (call P n) σ cs) _
 rw[e]
 intro us H1 t1 s1 r1
 have hn:us.length<=sizeLine:=by rw[<-r1.length,rT hc e,Be];omega
 exact⟨hn,λp hp t'=>(show Wn X RT Y old σ σV H Q (pY vs) from hv) _ _ t' ((Ro.tup hp rfl rfl r1.all).from s1)⟩
theorem aJJ{cs:Es}{es:List Expr}(ha:PA X es (WA X P n RT Y old σ cs))(hc:chkEs Γ cs es=true)(hl:es.length<=1000):PE X (.List es pos) (WE X P n RT Y old σ (.lst cs)):=by
 refine(wP ha).imp λσV H Q t ⟨S,h⟩=>?_
 have h:=RE.bind' (show RE (evs P (call P n) σ cs >>= λvs=>R.ok (nQ vs)) _ from h)
 obtain⟨vs,e,hv⟩:=h.eq
 refine⟨S,?_⟩
 show RE (evs P (call P n) σ cs) _
 rw[e]
 intro us H1 t1 s1 r1
 have hn:us.length<=sizeLine:=by rw[<-r1.length,rT hc e,Be];omega
 exact⟨hn,λp hp t'=>(show Wn X RT Y old σ σV H Q (nQ vs) from hv) _ _ t' ((Ro.fresh hp t' rfl rfl (S.grow s1 t1) r1.all).from s1)⟩
theorem yU:∀b:Bi,aBP b=true->bootBuiltins (iV b)=some (aFs b):=by
 intro b hb
 cases b <;> first|kernel_rfl|cases hb
theorem cW:∀b:Bi,iV b∈bltNames:=by
 intro b
 cases b <;> decide +kernel
theorem dF:∀b:Bi,iV b ≠ "__name__" := by
 intro b
 cases b <;> decide +kernel
theorem aMp(M:Mc X P Γ n){b:Bi}{cs:Es}{x:Str}{p:Pos}{e:Expr}{es:List Expr}(hb:aBP b=true)(hx:iV b=x)(hg:bL Γ x=true)(ho:bD x=true)(ha:PA X (e::es) (WA X P n RT Y old σ cs))(hp:(e::es).all aG=true) :
 PE X (.Call (.Name x p) (e::es) [] pos) (WE X P n RT Y old σ (.bi b cs)):=by
 subst hx
 have hp':aG e=true/\es.all aG=true:=by simpa using hp
 have body:∀(f:PE X (.Call (.Name (iV b) p) (e::es) [] pos) (tCB (rBi X b) (WA X P n RT Y old σ cs))),PE X (.Call (.Name (iV b) p) (e::es) [] pos) (WE X P n RT Y old σ (.bi b cs)):=λf=>f.imp λσV H Q t ⟨S,h⟩=>by
  have h:=RE.bind' (show RE (evs P (call P n) σ cs >>= λvs=>biD b vs) _ from h)
  refine⟨S,h.mono λvs hv us H1 t1 s1 r1=>?_⟩
  exact uH hb (S.grow s1 t1) r1 (hv.mono λv hv u H' t r=>hv u H' t (r.from s1))
 refine body ?_
 have r:=yS M.calm M.room.gd M.units b hb
 have bo:=yU b hb
 cases b with
 | len=>exact nO r (M.gl hg) (M.md.blt _ (cW _)) bo ha (dF _) (aH ho) (aA hp'.1) (bO hp'.2)
 | min=>exact nO r (M.gl hg) (M.md.blt _ (cW _)) bo ha (dF _) (aH ho) (aA hp'.1) (bO hp'.2)
 | any=>exact nO r (M.gl hg) (M.md.blt _ (cW _)) bo ha (dF _) (aH ho) (aA hp'.1) (bO hp'.2)
 | list=>exact hZ r (M.gl hg) (M.md.blt _ (cW _)) bo ha (dF _) (aH ho) (aA hp'.1) (bO hp'.2)
 | tuple=>exact hZ r (M.gl hg) (M.md.blt _ (cW _)) bo ha (dF _) (aH ho) (aA hp'.1) (bO hp'.2)
 | int=>exact hZ r (M.gl hg) (M.md.blt _ (cW _)) bo ha (dF _) (aH ho) (aA hp'.1) (bO hp'.2)
 | _=>cases hb
theorem aEh{σV:L2.St}{H H1 H':Hp}{vs:List Vl}{r:Rt}{u:V}(S1:Sx X.K RT Y old σ σV H1)(s1:aF H H1)(s':aF H1 H')(h:Rr X.K H1 H' (λb=>H1 b≠none/\exV RT Y old σ σV (aQ vs) (bR vs) b) r u) :
 Ro X.K RT Y old σ σV H H' (eS vs r) u:=by
 obtain⟨d,fr,pa⟩:=r
 have key:∀b,exV RT Y old σ σV (eS vs (d,fr,pa)).pa (eS vs (d,fr,pa)).al b->(H1 b≠none/\exV RT Y old σ σV (aQ vs) (bR vs) b)\/(pa=false/\H1 b≠none):=by
  intro b z
  have tk:=exV.trk S1 z
  cases pa with
  | true=>exact .inl ⟨tk,z⟩
  | false=>exact .inr ⟨rfl,tk⟩
 have efr:(eS vs (d,fr,pa)).fr=fr:=by unfold eS;split <;> rfl
 have ed:(eS vs (d,fr,pa)).d=d:=by unfold eS;split <;> rfl
 refine⟨s1.trans s',?_⟩
 rw[efr]
 unfold Rr at h
 cases fr with
 | true=>
  rw[if_pos rfl] at h ⊢
  obtain⟨a,xs,ds,e1,e2,e3,e4,rr⟩:=h
  exact⟨a,xs,ds,e1,by rw[ed];exact e2,s1.free e3,e4,rr.weak λb z=>z.elim (λz=>.inl z) λz=>.inr (key b z)⟩
 | false=>
  rw[if_neg bN] at h ⊢
  unfold Rv
  rw[ed]
  exact Rep.weak h key
theorem aBZ{f:Nat}{cs:Es}{σV:L2.St}{H:Hp}{Q:VK}(S:Sx X.K RT Y old σ σV H)(h:RE (ev P (call P n) σ (.call f cs)) (Wn X RT Y old σ σV H Q)) :
 WA X P n RT Y old σ cs σV H λus H1=>spA X.K P n f (us++[]) H1 (λv H'=>Tk X.K H'->Q v H') E0:=by
 have h:=RE.bind' (show RE (evs P (call P n) σ cs >>= λvs=>call P n f (vs.map (·.d)) >>= λr=>R.ok (eS vs r)) _ from h)
 refine⟨S,h.mono λvs hv us H1 t1 s1 r1=>?_⟩
 have S1:=S.grow s1 t1
 refine .inl ⟨vs.map (·.d),λb=>H1 b≠none/\exV RT Y old σ σV (aQ vs) (bR vs) b,λa z=>z.1,by rw[Bt];exact r1.all.weak λa z=>z.2,(RE.bind' hv).mono λr hr u H' t' s' rr _=>?_⟩
 exact(show Wn X RT Y old σ σV H Q (eS vs r) from hr) u H' t' (aEh S1 s1 s' rr)
theorem aGy(M:Mc X P Γ n){f:Nat}{cs:Es}{x:Str}{p:Pos}{es:List Expr}(hf:Γ.fns[f]? = some x)(hg:bL Γ x=true)(ho:bD x=true)(ha:PA X es (WA X P n RT Y old σ cs))(hp:es.all aG=true)(hc:chkEs Γ cs es=true) :
 PE X (.Call (.Name x p) es [] pos) (WE X P n RT Y old σ (.call f cs)):=by
 obtain⟨fa,fd,ps,h1,h2,h3,h4⟩:=M.md.fn f x hf
 cases es with
 | cons e es=>
  have hp':aG e=true/\es.all aG=true:=by simpa using hp
  exact(mU h4 M.room (M.gl hg) h1 h2 h3 .nil tX ha (aH ho) (aA hp'.1) (bO hp'.2)).imp λσV H Q t ⟨S,h⟩=>aBZ S h
 | nil=>
  cases cs with
  | cons _ _=>cases hc
  | nil=>
   refine(aBA h4 M.room (M.gl hg) h1 h2 h3 .nil tX (aH ho)).imp λσV H Q t ⟨S,h⟩=>?_
   exact(aBZ S h).2 [] H t (aF.refl H) rfl
theorem yV{i:Nat}{dss:List (List D)}(h:pL σ i=some dss):σ[i]? = some (.own2 dss):=by
 unfold pL at h
 split at h
 . rename_i e
   cases h
   exact e
 . cases h
theorem aGz(M:Mc X P Γ n){i:Nat}{a:E}{m x:Str}{p ap:Pos}{ea:Expr}(hm:m=("get" : Str))(hx:Γ.tbs[i]? = some x)(hg:bL Γ x=true)(ho:bD x=true)(hl:(ap.endLine==pos.line)=true)
 (ha:PE X ea (WE X P n RT Y old σ a)) (hp:aG ea=true):PE X (.Call (.Attribute (.Name x p) m ap) [ea] [] pos) (WE X P n RT Y old σ (.tget i a)):=by
 subst hm
 obtain⟨b,t,h1,h2,h3⟩:=M.md.tab i x hx
 refine(aEa h3 (M.gl hg) h1 (aH ho) ha hl (aA hp)).imp λσV H Q tk ⟨S,h⟩=>?_
 have h:=RE.bind' (show RE (ev P (call P n) σ a >>= λx=>(match x.d,P.tabs[i]? with|.str k,some t=>R.ok (Vl.cl ((t.lookup k).getD .non))|_,_=>.bad)) _ from h)
 refine wE.one S h λy u H1 hy t1 S1 r1=>?_
 rw[h2] at hy
 cases hd:y.d with
 | str k=>
  rw[hd] at hy
  have hu:u=.str k:=by
   have z:=r1.rv S
   unfold Rv at z
   rw[hd] at z
   exact z
  exact⟨k,hu,λv hv t'=>(show Wn X RT Y old σ σV H Q (Vl.cl ((t.lookup k).getD .non)) from hy) v H1 t' (Ro.val r1.1 (hv H1))⟩
 | _=>rw[hd] at hy;exact hy.elim
theorem aAI{c:Cl}{cv:Value}{x:Str}(hc:uI c=some cv)(hx:xA Γ c=some x):bootBuiltins x=some cv/\x∈bltNames/\x ≠ "__name__" := by
 cases c <;> cases hc <;> cases hx <;> exact⟨by kernel_rfl,by decide +kernel,by decide +kernel⟩
theorem aJK(M:Mc X P Γ n){a:E}{c:Cl}{cv:Value}{f x:Str}{pf py:Pos}{ea:Expr}(hf:f=("isinstance" : Str))(hg:bL Γ f=true)(hc:uI c=some cv)(hx:xA Γ c=some x)(hgx:bL Γ x=true)(hox:bD x=true)
 (ha:PE X ea (WE X P n RT Y old σ a)) (hp:aG ea=true):PE X (.Call (.Name f pf) [ea,.Name x py] [] pos) (WE X P n RT Y old σ (.isi a [c])):=by
 subst hf
 intro pins s σV H Q I hw
 obtain⟨S,h⟩:=hw
 have h:=RE.bind' (show RE (ev P (call P n) σ a >>= λx=>(match isI [c] P x.d with|some k=>R.ok (Vl.cl (.bl k))|none=>.bad)) _ from h)
 obtain⟨b1,b2,b3⟩:=aAI hc hx
 refine B5 (eA I (M.gl hg) (M.md.blt _ (by decide +kernel)) (show bootBuiltins "isinstance" = some (.builtin "isinstance") by kernel_rfl) ?_ (by decide +kernel) (by decide +kernel))
 refine Ce ?_ (aA hp) rfl
 rw[aA hp]
 show wpAny _ _ (spliced ((false,eval ea X.env)::backTo pos (starEach [.Name x py] X.env))) _ _ s
 refine C9 (thn (ha pins s σV H (λu H1=>∃y k,Rv X.K RT Y old σ σV H1 y u/\isI [c] P y.d=some k/\Q (.bl k) H1) I (wE.one S h λy u H1 hy t1 S1 r1=>?_)) λv s1 ⟨u,H1,I1,ru,y,k,hy,hk,q⟩=>?_)
 . split at hy
   . rename_i k hk
     exact⟨y,k,r1.rv S,hk,(show Wn X RT Y old σ σV H Q (Vl.cl (.bl k)) from hy) _ _ t1 (Ro.cl r1.1 rfl)⟩
   . exact hy.elim
 . show wpAny _ _ (spliced ((false,eval (.Name x py) X.env)::backTo pos (starEach [] X.env))) _ _ s1
   refine C9 (eA I1 (M.gl hgx) (M.md.blt _ b2) b1 (Ec ?_) b3 (aH hox))
   exact aAH P I1 ru hy hc hk q
end
section
variable {X:Cx} {P:Pg} {n:Nat} {RT Y old:Addr->Prop} {σ:Sg} {pos:Pos}
theorem aGA{pins:List (Addr×Obj)}{σV:L2.St}{H:Hp}{s:Shared}(I:L2.Inv X pins σV H s):sysModules<s.heap.objs.size:=by
 have h:mainGlobals<s.heap.objs.size:=(I.mod.glob.keeps I.bk).lt
 exact Nat.lt_trans (by decide) h
def imV:D->V->Prop
 | .int v,u=>u=.int v
 | .bl v,u=>u=.bl v
 | _,_=>False
theorem aAJ{a b:E}{p:Vl->Prop}(h:RE (ev P (call P n) σ (.dic (.cons a .nil) (.cons b .nil))) p) :
 RE (ev P (call P n) σ a) λx=>RE (ev P (call P n) σ b) λy=>∃k v,x.d=.int k/\imV y.d v/\p (.cl (.dic [(.int k,y.d)])):=by
 have h:RE ((ev P (call P n) σ a >>= λx=>R.ok [x]) >>= λks=>(ev P (call P n) σ b >>= λy=>R.ok [y]) >>= λvs=>
  (match (ks.map (λ(v:Vl)=>v.d):List D),(vs.map (λ(v:Vl)=>v.d):List D) with
   | [.int k],[.int v]=>R.ok (Vl.cl (.dic [(.int k,.int v)]))
   | [.int k],[.bl v]=>R.ok (Vl.cl (.dic [(.int k,.bl v)]))
   | _,_=>R.bad)) p:=h
 cases q1:ev P (call P n) σ a with
 | exc z=>rw[q1] at h;exact h.elim
 | bad=>rw[q1] at h;exact h.elim
 | ok x=>
  rw[q1] at h
  cases q2:ev P (call P n) σ b with
  | exc z=>rw[q2] at h;exact h.elim
  | bad=>rw[q2] at h;exact h.elim
  | ok y=>
   rw[q2] at h
   have h:RE (match [x.d],[y.d] with
    | [.int k],[.int v]=>R.ok (Vl.cl (.dic [(.int k,.int v)]))
    | [.int k],[.bl v]=>R.ok (Vl.cl (.dic [(.int k,.bl v)]))
    | _,_=>R.bad) p:=h
   show ∃k v,x.d=.int k/\imV y.d v/\p (.cl (.dic [(.int k,y.d)]))
   cases dx:x.d with
   | int k=>
    rw[dx] at h
    cases dy:y.d with
    | int v=>rw[dy] at h;exact⟨k,.int v,rfl,rfl,h⟩
    | bl v=>rw[dy] at h;exact⟨k,.bl v,rfl,rfl,h⟩
    | _=>rw[dy] at h;exact h.elim
   | _=>rw[dx] at h;exact h.elim
theorem aEi{K:Fg}{H:Hp}{ex:Addr->Prop}{d:D}{v:V}(h:imV d v):Rep K H ex d v:=by
 cases d <;> first|exact h|exact h.elim
theorem aEj{K:Fg}{H:Hp}{ex:Addr->Prop}{d:D}{v u:V}(h:imV d v)(r:Rep K H ex d u):u=v:=by
 cases d with
 | int i=>exact(show u=.int i from r).trans (show v=.int i from h).symm
 | bl i=>exact(show u=.bl i from r).trans (show v=.bl i from h).symm
 | _=>exact h.elim
theorem aJL{a b:E}{ea eb:Expr}(ha:PE X ea (WE X P n RT Y old σ a))(hb:PE X eb (WE X P n RT Y old σ b)) :
 PE X (.Dict [some ea] [eb] pos) (WE X P n RT Y old σ (.dic (.cons a .nil) (.cons b .nil))):=by
 intro pins s σV H Q I hw
 obtain⟨S,h⟩:=hw
 have h1:=aAJ h
 have hp:H s.heap.objs.size=none:=I.fresh
 have I1:L2.Inv X pins σV (upd H s.heap.objs.size (.dK [])) { s with heap:=s.heap.push { cls:=.type "dict",data:=.dict #[] } }:=
  I.laid (a:=s.heap.objs.size) (o:=.dK []) (h':=s.heap.push { cls:=.type "dict",data:=.dict #[] }) (t':=s.toks) (λ_ _ q=>Ab _ q) (Ag _)
   ⟨Bj _,A1.mpr (Ne.symm (Ao (aGA I))),[],.nil,Heap.DictOf.new s.heap⟩
 have sm:aF H (upd H s.heap.objs.size (.dK [])):=aF.new hp
 have S1:=S.grow sm I1.tk
 refine wpAny_Dict_walk (knd:=bS X.prog X.w) rfl rfl (λz=>nomatch z) (by decide:1<=15) (pairTrees_cons_walk ?_)
 refine thn (ha pins _ σV _ (λux H1=>WE X P n RT Y old σ b σV H1 λuy H2=>∃k d v,ux=.int k/\uy=v/\imV d v/\aF (upd H s.heap.objs.size (.dK [])) H2/\Wn X RT Y old σ σV H Q (.cl (.dic [(.int k,d)]))) I1
  (wE.one S1 h1 λx u H1 hx t1 S2 r1=>wE.one S2 hx λy u' H2 hy t2 S3 r2=>?_)) λkv s1 ⟨ux,H1,I2,rx,q1⟩=>thn (hb pins s1 σV H1 _ I2 q1) λvv s2 ⟨uy,H2,I3,ry,q2⟩=>pairTrees_nil_walk ?_
 . obtain⟨k,v,dx,dy,hW⟩:=hy
   exact⟨k,y.d,v,(r1.rv S1).int dx,aEj dy (r2.rv S2),dy,r1.1.trans r2.1,hW⟩
 . obtain⟨k,d,v,e1,e2,hi,sm2,hW⟩:=q2
   subst e1 e2
   obtain⟨t1,rfl⟩:=rx
   have e0:H2 s.heap.objs.size=some (.dK []):=sm2 _ _ aL
   obtain⟨_,hs,vs0,r0,d0⟩:=(show dA X.prog X.w H2 s2.heap s.heap.objs.size (.dK []) from I3.hok _ _ e0)
   cases r0
   refine⟨[(.inl k,vv)],⟨aAj k t1,rfl,True.intro⟩,d0,λh' hd hsb=>?_⟩
   have I4:L2.Inv X pins σV (upd H2 s.heap.objs.size (.dK [(.inl k,uy)])) { s2 with heap:=h',toks:=s2.toks+1 }:=
    I3.write (x:=s.heap.objs.size) (e:=s.heap.objs.size) (by rw[e0];exact True.intro) (.inl rfl) (λb u hb e=>(hsb.2 b hb).trans e) (let ⟨o,_,_,ho,_⟩:=hd;⟨o,ho⟩)
     ⟨by rw[Be];exact(by decide:1<=16777216),hs,[(.inl k,vv)],.cons ⟨rfl,ry⟩ .nil,hd⟩
   refine⟨.ref s.heap.objs.size,_,I4,rfl,hW _ _ I4.tk (Ro.cl (λb o e=>?_) ⟨s.heap.objs.size,_,rfl,aL,λz=>exV.trk S z hp,.inl k,uy,[],rfl,rfl,aEi hi,rfl⟩)⟩
   have hb:b≠s.heap.objs.size:=λz=>by rw[z,hp] at e;cases e
   rw[upd_ne hb]
   exact sm2 b o (sm b o e)
end
section
variable {X:Cx} {P:Pg} {Γ:Ct} {n:Nat} {RT Y old:Addr->Prop} {σ:Sg} {pos:Pos}
theorem nZ{o o':CmpOp}{eb ec:Expr}(hq:aG ec=true):lastMarks [o,o'] [eb,ec]=false:=eU hq
theorem aGB(M:Mc X P Γ n){o o':CmpOp}{a b c:E}{ea eb ec:Expr}(ha:PE X ea (WE X P n RT Y old σ a))(hb:PE X eb (WE X P n RT Y old σ b))(hc:PE X ec (WE X P n RT Y old σ c))(hq:aG ec=true) :
 PE X (.Compare ea [o,o'] [eb,ec] pos) (WE X P n RT Y old σ (.cmp2 o o' a b c)):=by
 refine(aBu (dU (RT:=RT) (Y:=Y) (old:=old) M o) (dU (RT:=RT) (Y:=Y) (old:=old) M o') ha hb hc (nZ hq)).imp λσV H Q t ⟨S,h⟩=>?_
 have h:=RE.bind' (show RE (ev P (call P n) σ a >>= λx=>ev P (call P n) σ b >>= λy=>(match bG o x.d y.d with
  | some true=>ev P (call P n) σ c >>= λz=>(match bG o' y.d z.d with|some k=>R.ok (Vl.cl (.bl k))|none=>.bad)
  | some false=>R.ok (Vl.cl (.bl false))
  | none=>.bad)) _ from h)
 refine wE.two S (h.mono λx hx=>RE.bind' hx) λx y ux uy H2 hp t2 s2 S2 hx hy=>?_
 split at hp
 . rename_i hk
   refine⟨σ,σV,x,y,true,hx,hy,hk,true,rfl,?_⟩
   rw[if_pos rfl]
   refine wE.one S2 (RE.bind' hp) λz u H3 hz t3 S3 r3=>?_
   split at hz
   . rename_i k' hk'
     exact⟨σ,σV,y,z,k',hy.grow r3.1,r3.rv S2,hk',λt'=>hz _ _ t' (Ro.cl (s2.trans r3.1) rfl)⟩
   . exact hz.elim
 . rename_i hk
   refine⟨σ,σV,x,y,false,hx,hy,hk,false,rfl,?_⟩
   rw[if_neg bN]
   exact λt'=>hp _ _ t' (Ro.cl s2 rfl)
 . exact hp.elim
theorem aGC(M:Mc X P Γ n){o o':CmpOp}{a b c:E}{ea eb ec:Expr}(ha:PE X ea (WE X P n RT Y old σ a))(hb:PE X eb (WE X P n RT Y old σ b))(hc:PE X ec (WE X P n RT Y old σ c))(hq:aG ec=true) :
 PT X (.Compare ea [o,o'] [eb,ec] pos) (WT X P n RT Y old σ (.cmp2 o o' a b c)):=by
 refine(aBv (dU (RT:=RT) (Y:=Y) (old:=old) M o) (dU (RT:=RT) (Y:=Y) (old:=old) M o') ha hb hc (nZ hq)).imp λσV H Q t ⟨S,h⟩=>?_
 have h:=RE.bind' (show RE (ev P (call P n) σ a >>= λx=>ev P (call P n) σ b >>= λy=>(match bG o x.d y.d with
  | some true=>ev P (call P n) σ c >>= λz=>(match bG o' y.d z.d with|some k=>R.ok k|none=>.bad)
  | some false=>R.ok false
  | none=>.bad)) _ from h)
 refine wE.two S (h.mono λx hx=>RE.bind' hx) λx y ux uy H2 hp t2 s2 S2 hx hy=>?_
 split at hp
 . rename_i hk
   refine⟨σ,σV,x,y,true,hx,hy,hk,true,rfl,?_⟩
   rw[if_pos rfl]
   refine wE.one S2 (RE.bind' hp) λz u H3 hz t3 S3 r3=>?_
   split at hz
   . rename_i k' hk'
     exact⟨σ,σV,y,z,k',hy.grow r3.1,r3.rv S2,hk',k',rfl,λt'=>hz _ t' (s2.trans r3.1)⟩
   . exact hz.elim
 . rename_i hk
   refine⟨σ,σV,x,y,false,hx,hy,hk,false,rfl,?_⟩
   rw[if_neg bN]
   exact⟨false,rfl,λt'=>hp _ t' s2⟩
 . exact hp.elim
theorem rU{a:E}{ea:Expr}(ha:PT X ea (WT X P n RT Y old σ a)):PT X (.UnaryOp .Not ea pos) (WT X P n RT Y old σ (.nt a)):=by
 refine(aFS ha).imp λσV H Q t ⟨S,h⟩=>?_
 have h:=RE.bind' (show RE (tst P (call P n) σ a >>= λx=>R.ok (!x)) _ from h)
 exact⟨S,h.mono λk hk H1 t1 s1 t'=>(show ∀H',Tk X.K H'->aF H H'->Q (!k) H' from hk) _ t' s1⟩
theorem aCa{e:Expr}{t t':TT}(h:PW X e t)(f:∀σV H Q,Tk X.K H->t' σV H Q->t σV H λv H'=>Tk X.K H'->Q v H'):PW X e t':=λwh pins s σV H Q I hw=>
 thn (h wh pins s σV H _ I (f σV H Q I.tk hw)) λk s' ⟨H',I',q⟩=>⟨H',I',q I'.tk⟩
theorem aJM{a b:E}{ea eb:Expr}{r:List Expr}(ha:PT X ea (WT X P n RT Y old σ a))(hb:PW X (.BoolOp .And (eb::r) pos) (WT X P n RT Y old σ b)):PW X (.BoolOp .And (ea::eb::r) pos) (WT X P n RT Y old σ (.an a b)):=by
 refine aCa (aFR ha hb) λσV H Q t ⟨S,h⟩=>?_
 have h:=RE.bind' (show RE (tst P (call P n) σ a >>= λx=>if x=true then tst P (call P n) σ b else R.ok false) _ from h)
 refine⟨S,h.mono λk hk H1 t1 s1=>?_⟩
 cases k with
 | true=>rw[if_pos rfl] at hk ⊢;exact⟨S.grow s1 t1,hk.mono λv hv H' t s' _=>hv H' t (s1.trans s')⟩
 | false=>rw[if_neg bN] at hk ⊢;exact λt'=>(show ∀H',Tk X.K H'->aF H H'->Q false H' from hk) _ t' s1
theorem aFu{a b:E}{ea eb:Expr}{r:List Expr}(ha:PT X ea (WT X P n RT Y old σ a))(hb:PW X (.BoolOp .Or (eb::r) pos) (WT X P n RT Y old σ b)):PW X (.BoolOp .Or (ea::eb::r) pos) (WT X P n RT Y old σ (.orr a b)):=by
 refine aCa (aIH ha hb) λσV H Q t ⟨S,h⟩=>?_
 have h:=RE.bind' (show RE (tst P (call P n) σ a >>= λx=>if x=true then R.ok true else tst P (call P n) σ b) _ from h)
 refine⟨S,h.mono λk hk H1 t1 s1=>?_⟩
 cases k with
 | true=>rw[if_pos rfl] at hk ⊢;exact λt'=>(show ∀H',Tk X.K H'->aF H H'->Q true H' from hk) _ t' s1
 | false=>rw[if_neg bN] at hk ⊢;exact⟨S.grow s1 t1,hk.mono λv hv H' t s' _=>hv H' t (s1.trans s')⟩
def wO(X:Cx)(P:Pg)(n:Nat)(RT Y old:Addr->Prop)(σ:Sg)(cs:Es):TO:=λσV H Q=>Sx X.K RT Y old σ σV H/\RE (evs P (call P n) σ cs) λvs=>
 (vs=[]/\∀H',Tk X.K H'->aF H H'->Q none H')\/∃v i,vs=[v]/\v.d=.int i/\∀H',Tk X.K H'->aF H H'->Q (some i) H'
theorem aCb{e:Option Expr}{t t':TO}(h:PO X e t)(f:∀σV H Q,Tk X.K H->t' σV H Q->t σV H λv H'=>Tk X.K H'->Q v H'):PO X e t':=λpins s σV H Q I hw=>
 thn (h pins s σV H _ I (f σV H Q I.tk hw)) λu s' ⟨o,H',I',r,q⟩=>⟨o,H',I',r,q I'.tk⟩
theorem aJN:PO X none (wO X P n RT Y old σ .nil):=aCb aDM λσV H Q t ⟨S,h⟩ t'=>by
 rcases(show([]:List Vl)=[]/\_\/_ from h) with⟨_,q⟩|⟨v,i,e,_⟩
 . exact q H t' (aF.refl H)
 . cases e
theorem aJO{c:E}{e:Expr}(ha:PE X e (WE X P n RT Y old σ c)):PO X (some e) (wO X P n RT Y old σ (.cons c .nil)):=by
 refine aCb (aDN ha) λσV H Q t ⟨S,h⟩=>?_
 have h:=RE.bind' (show RE (ev P (call P n) σ c >>= λx=>evs P (call P n) σ .nil >>= λxs=>R.ok (x::xs)) _ from h)
 refine wE.one S h λx u H1 hx t1 S1 r1=>?_
 rcases(show([x]:List Vl)=[]/\_\/∃v i,([x]:List Vl)=[v]/\_/\_ from hx) with⟨e,_⟩|⟨v,i,e,hd,q⟩
 . cases e
 . cases e
   exact⟨i,(r1.rv S).int hd,λt'=>q _ t' r1.1⟩
theorem aJP{a:E}{lo hi:Es}{ea:Expr}{el eh:Option Expr}{p2:Pos}(ha:PE X ea (WE X P n RT Y old σ a))(hl:PO X el (wO X P n RT Y old σ lo))(hh:PO X eh (wO X P n RT Y old σ hi)) :
 PE X (.Subscript ea (.Slice el eh none p2) pos) (WE X P n RT Y old σ (.sli a lo hi)):=by
 refine(aBC (aGw (X:=X)) ha hl hh).imp λσV H Q t ⟨S,h⟩=>?_
 have h:=RE.bind' (show RE (ev P (call P n) σ a >>= λx=>evs P (call P n) σ lo >>= λl=>evs P (call P n) σ hi >>= λh=>(match l,h with
  | [],[]=>eC x none none
  | [l],[]=>(match l.d with|.int l=>R.iff (aI l) (eC x (some l) none)|_=>.bad)
  | [],[h]=>(match h.d with|.int h=>R.iff (aI h) (eC x none (some h))|_=>.bad)
  | [l],[h]=>(match l.d,h.d with|.int l,.int h=>R.iff (aI l&&aI h) (eC x (some l) (some h))|_,_=>.bad)
  | _,_=>.bad)) _ from h)
 refine wE.one S h λx u H1 hx t1 S1 r1=>?_
 have hx:=RE.bind' hx
 refine⟨S1,hx.mono λl hl=>?_⟩
 have hl:=RE.bind' hl
 have up:∀(L:Option Int) (H2:Hp),Tk X.K H2->aF H1 H2->(RE (evs P (call P n) σ hi) λh=>(h=[]/\RE (eC x L none) (Wn X RT Y old σ σV H Q))\/∃v i,h=[v]/\v.d=.int i/\RE (eC x L (some i)) (Wn X RT Y old σ σV H Q)) ->
  wO X P n RT Y old σ hi σV H2 λhv H3=>aBE X.K u L hv H3 (λv H'=>Tk X.K H'->Q v H')\/aBD X.K u L hv H3 (λv H'=>Tk X.K H'->Q v H')\/uG X.K u L hv H3 (λv H'=>Tk X.K H'->Q v H')\/aBS u L hv H3 (λv H'=>Tk X.K H'->Q v H'):=by
  intro L H2 t2 s2 hh
  refine⟨S1.grow s2 t2,hh.mono λhv hq=>?_⟩
  have fin:∀(U:Option Int) (H3:Hp),Tk X.K H3->aF H2 H3->RE (eC x L U) (Wn X RT Y old σ σV H Q) ->
   aBE X.K u L U H3 (λv H'=>Tk X.K H'->Q v H')\/aBD X.K u L U H3 (λv H'=>Tk X.K H'->Q v H')\/uG X.K u L U H3 (λv H'=>Tk X.K H'->Q v H')\/aBS u L U H3 (λv H'=>Tk X.K H'->Q v H'):=λU H3 t3 s3 hs=>
   aAE (S1.grow (s2.trans s3) t3) t3 ((r1.rv S).grow (s2.trans s3)) (hs.mono λv hv u H' t r=>hv u H' t (r.from (r1.1.trans (s2.trans s3))))
  rcases hq with⟨e,hs⟩|⟨v,i,e,hd,hs⟩
  . exact .inl ⟨e,λH3 t3 s3=>fin none H3 t3 s3 hs⟩
  . exact .inr ⟨v,i,e,hd,λH3 t3 s3=>fin (some i) H3 t3 s3 hs⟩
 match l,hl with
 | [],hl=>
  refine .inl ⟨rfl,λH2 t2 s2=>up none H2 t2 s2 (hl.mono λh hh=>?_)⟩
  match h,hh with
  | [],hh=>exact .inl ⟨rfl,hh⟩
  | [h],hh=>
   have hh:RE (match h.d with|.int h=>R.iff (aI h) (eC x none (some h))|_=>.bad) _:=hh
   split at hh
   . rename_i i hd
     exact .inr ⟨h,i,rfl,hd,hh.iff.2⟩
   . exact hh.elim
  | _::_::_,hh=>exact hh.elim
 | [l],hl=>
  have hd:∃i,l.d=.int i:=by
   obtain⟨h,_,hh⟩:=hl.eq
   match h,hh with
   | [],hh=>
    have hh:RE (match l.d with|.int l=>R.iff (aI l) (eC x (some l) none)|_=>.bad) _:=hh
    split at hh
    . rename_i i hd;exact⟨i,hd⟩
    . exact hh.elim
   | [h],hh=>
    have hh:RE (match l.d,h.d with|.int l,.int h=>R.iff (aI l&&aI h) (eC x (some l) (some h))|_,_=>.bad) _:=hh
    split at hh
    . rename_i i j hd _;exact⟨i,hd⟩
    . exact hh.elim
   | _::_::_,hh=>exact hh.elim
  obtain⟨i,hd⟩:=hd
  refine .inr ⟨l,i,rfl,hd,λH2 t2 s2=>up (some i) H2 t2 s2 (hl.mono λh hh=>?_)⟩
  match h,hh with
  | [],hh=>
   have hh:RE (match l.d with|.int l=>R.iff (aI l) (eC x (some l) none)|_=>.bad) _:=hh
   rw[hd] at hh
   exact .inl ⟨rfl,hh.iff.2⟩
  | [h],hh=>
   have hh:RE (match l.d,h.d with|.int l,.int h=>R.iff (aI l&&aI h) (eC x (some l) (some h))|_,_=>.bad) _:=hh
   rw[hd] at hh
   split at hh
   . rename_i i' j e1 e2
     cases e1
     exact .inr ⟨h,j,rfl,e2,hh.iff.2⟩
   . exact hh.elim
  | _::_::_,hh=>exact hh.elim
 | _::_::_,hl=>exact(by
     obtain⟨h,_,hh⟩:=hl.eq
     match h,hh with
     | [],hh=>exact hh.elim
     | [_],hh=>exact hh.elim
     | _::_::_,hh=>exact hh.elim)
end
end Hp
end
noncomputable section
namespace L2
open PySem PySem.Spec PyProof.Rows
set_option maxRecDepth 100000
instance:LawfulBEq Key where
 eq_of_beq:=λ{a b} h=>by
  cases a with
  | inl x=>cases b with
   | inl y=>exact congrArg Sum.inl (eq_of_beq (show(x==y)=true from h))
   | inr y=>cases h
  | inr x=>cases b with
   | inl y=>cases h
   | inr y=>exact congrArg Sum.inr (eq_of_beq (show(x==y)=true from h))
 rfl:=λ{a}=>by
  cases a with
  | inl x=>exact(C3 x:(x==x)=true)
  | inr x=>exact(C3 x:(x==x)=true)
def aGD(prog:Program)(w:World)(vs:List Value)(ks:List Key):Prop:=Paired (λv k=>(bS prog w).is k v=true) vs ks
theorem aGD.get{prog:Program}{w:World}:∀{vs:List Value} {ks:List Key},aGD prog w vs ks->∀{i:Nat} {v:Value},vs[i]? = some v->∃k,ks[i]? = some k/\(bS prog w).is k v=true
 | _,_,.nil,_,_,h=>by simp at h
 | _,_,.cons r _,0,_,h=>by simp at h;subst h;exact⟨_,rfl,r⟩
 | _,_,.cons _ t,i+1,v,h=>by
  obtain⟨k,h1,h2⟩:=aGD.get t (i:=i) (v:=v) (by simpa using h)
  exact⟨k,by simpa using h1,h2⟩
section
variable {prog:Program} {w:World} {A:Around} {R:Result->Shared->Prop} {I:Addr} {fp wr:List Addr} {G:Array GenState->Array GenState->Prop} {n:Nat} {P:Nat->Value->Prop} {St:Nat->Shared->Prop}
end
section
variable {prog:Program} {w:World} {A:Around} {E:Value->Shared->Prop} {s:Shared}
end
end L2
end
noncomputable section
namespace Hp
open PySem PySem.Spec PyProof.Rows L2
section
variable {X:Cx} {P:Pg} {Γ:Ct} {n:Nat} {RT Y old:Addr->Prop} {σ:Sg} {pos:Pos} {K:Fg} {H:Hp}
end
end Hp
end
noncomputable section
namespace L2
open PySem PySem.Spec PyProof.Rows
section
variable {X:Cx} {pins:List (Addr×Obj)} {σ:St} {H:Hp} {s:Shared} {h':Heap}
theorem Inv.turnsNew{its:List Addr}{T:Addr}{o:HO}{t':Nat}(I:Inv X pins σ H s)(f:∀b∈its,jK X pins H b)(k:∀b o,b∉its->s.heap.get? b=some o->h'.get? b=some o)(there:∀b∈its,∃o,h'.get? b=some o)
 (hT:s.heap.objs.size<=T) (new:dA X.prog X.w (upd H T o) h' T o):Inv X pins σ (upd H T o) { s with heap:=h',toks:=t' }:=by
 have nit:∀b u,H b=some u->b∉its:=λb u e z=>by rw[(f b z).1] at e;cases e
 have hn:H T=none:=I.hok.fresh hT
 have neT:∀b o,s.heap.get? b=some o->b≠T:=λb o e=>Ao (Ar (Aj e) hT)
 refine I.step (g':=s.gens) (d':=s.drawn) (ch:=its) (λb hb=>?_) (λb o _ _ hc e _=>k b o hc e) (λb o _ _ hc e _=>⟨o.slots,k b o hc e⟩) (λb o _ e n=>by rw[upd_ne (neT b o e)];exact n)
  (λb o hc e=>⟨o,k b o hc e⟩) (λb xs e=>by rw[upd_ne (aU e hn)];exact e) (λb o u e=>by rw[upd_ne (aU e hn)];exact e) (λb ps e=>⟨#[],by rw[upd_ne (aU e hn),e];simp⟩) (λm hm=>?_) (λb u e=>?_) I.bare
 . obtain⟨_,f1,f2,f3,f4,f5⟩:=f b hb
   exact⟨f3,f1,f4,f5⟩
 . obtain⟨o,es,ep,ho,r⟩:=hm
   exact⟨o,es,ep,k _ o (λz=>(f _ z).2.1 rfl) ho,r⟩
 . by_cases hb:b=T
   . subst hb
     rw[aL] at e
     cases e
     exact new
   . rw[upd_ne hb] at e
     refine(I.hok b u e).stay (λc v hc q=>k c v ?_ q) (λc q=>by rw[upd_ne (aU q hn)];exact q) λc xs q=>by rw[upd_ne (aU q hn)];exact q
     rcases hc with z|z
     . rw[z];exact nit b u e
     . exact nit c _ z
theorem Inv.turns{its:List Addr}{t':Nat}(I:Inv X pins σ H s)(f:∀b∈its,jK X pins H b)(k:∀b o,b∉its->s.heap.get? b=some o->h'.get? b=some o):Inv X pins σ H { s with heap:=h',toks:=t' }:=by
 have nit:∀b u,H b=some u->b∉its:=λb u e z=>by rw[(f b z).1] at e;cases e
 refine I.step (g':=s.gens) (d':=s.drawn) (ch:=its) (λb hb=>?_) (λb o _ _ hc e _=>k b o hc e) (λb o _ _ hc e _=>⟨o.slots,k b o hc e⟩) (λb o _ e n=>n)
  (λb o hc e=>⟨o,k b o hc e⟩) (λb xs e=>e) (λb o u e=>e) (λb ps e=>⟨#[],by rw[e];simp⟩) (λm hm=>?_) (λb u e=>?_) I.bare
 . obtain⟨_,f1,f2,f3,f4,f5⟩:=f b hb
   exact⟨f3,f1,f4,f5⟩
 . obtain⟨o,es,ep,ho,r⟩:=hm
   exact⟨o,es,ep,k _ o (λz=>(f _ z).2.1 rfl) ho,r⟩
 . refine(I.hok b u e).stay (λc v hc q=>k c v ?_ q) (λc q=>q) λc xs q=>q
   rcases hc with z|z
   . rw[z];exact nit b u e
   . exact nit c _ z
theorem Inv.newK(I:Inv X pins σ H s):X.K.lookup s.heap.objs.size=none:=by
 cases q:X.K.lookup s.heap.objs.size with
 | none=>rfl
 | some o=>exact absurd (Aj (I.bk _ o (I.ok.mod.kin _ o q))) (A8 _)
def Sq(k:Bool)(K:PySem.W.Frag)(H:Hp)(a:Addr)(xs:List V):Prop:=match k with
 | true=>SqL K H a xs
 | false=>SqT K H a xs
def cX(k:Bool)(h:Heap)(a:Addr)(its:Array Value):Prop:=match k with
 | true=>h.IsList a its
 | false=>h.IsTuple a its
def bV(k:Bool)(h:Heap)(it a:Addr)(i:Nat):Prop:=match k with
 | true=>h.IsListIter it a i
 | false=>h.IsTupleIter it a i
theorem cX.at{k:Bool}{h:Heap}{a:Addr}{its:Array Value}(q:cX k h a its)(e:∀o,h.get? a=some o->h'.get? a=some o):cX k h' a its:=by
 cases k with
 | true=>exact Heap.IsList.at q e
 | false=>exact Heap.IsTuple.at q e
theorem bV.at{k:Bool}{h:Heap}{a it:Addr}{i:Nat}(q:bV k h it a i)(e:∀o,h.get? it=some o->h'.get? it=some o):bV k h' it a i:=by
 cases k with
 | true=>exact Heap.IsListIter.at q e
 | false=>exact Heap.IsTupleIter.at q e
theorem bV.obj{k:Bool}{h:Heap}{a it:Addr}{i:Nat}(q:bV k h it a i):∃o,h.get? it=some o/\∀v,o.data≠.cell v:=by
 cases k with
 | true=>obtain⟨o,e,c,d⟩:=q;exact⟨o,e,λv z=>by rw[d] at z;cases z⟩
 | false=>obtain⟨o,e,c,d⟩:=q;exact⟨o,e,λv z=>by rw[d] at z;cases z⟩
theorem Inv.sq{k:Bool}{a:Addr}{xs:List V}(I:Inv X pins σ H s)(h:Sq k X.K H a xs):∃its:List Value,aM xs its/\cX k s.heap a its.toArray/\xs.length<=sizeLine:=by
 cases k with
 | true=>obtain⟨its,r,p,z⟩:=I.list h;exact⟨its,r,p.isList,z⟩
 | false=>obtain⟨its,r,p,z⟩:=I.tuple h;exact⟨its,r,p,z⟩
theorem Inv.sq_inj{k:Bool}{a:Addr}{xs ys:List V}(I:Inv X pins σ H s)(h:Sq k X.K H a xs)(h':Sq k X.K H a ys):xs=ys:=by
 cases k with
 | true=>exact I.list_inj h h'
 | false=>exact I.tuple_inj h h'
theorem Sq.there{k:Bool}{K:PySem.W.Frag}{a:Addr}{xs:List V}(h:Sq k K H a xs):H a≠none\/∃o,K.lookup a=some o:=by
 cases k with
 | true=>
  rcases h with(h|⟨o,h⟩)|⟨o,its,n,q,_⟩
  . exact .inl (by rw[h];simp)
  . exact .inl (by rw[h];simp)
  . exact .inr ⟨_,q⟩
 | false=>
  rcases h with(h|⟨o,h⟩)|⟨o,its,n,q,_⟩
  . exact .inl (by rw[h];simp)
  . exact .inl (by rw[h];simp)
  . exact .inr ⟨_,q⟩
theorem Inv.sqNe{k:Bool}{a b:Addr}{xs:List V}(I:Inv X pins σ H s)(h:Sq k X.K H a xs)(f:jK X pins H b):a≠b:=by
 intro e
 subst e
 rcases h.there with z|⟨o,z⟩
 . exact z f.1
 . have hb:=I.ok.mod.kin a o z
   rcases f.2.2.2.1 with q|q
   . exact I.ok.noex a o hb q
   . exact absurd (Ar (Aj hb) (Av I.ok.bsz q)) (A8 _)
end
section
variable {prog:Program} {w:World} {A:Around} {E:Value->Shared->Prop} {s:Shared}
theorem jS{it l:Addr}{i:Nat}{items}{x:Value}{Q:Value->Shared->Prop}(hit:s.heap.IsTupleIter it l i)
 (hl:s.heap.IsTuple l items) (hx:items[i]? = some x)
 (hQ:∀h',h'.IsTupleIter it l (i+1)->Heap.SameBut it s.heap h'->Q x { s with heap:=h' }) :
 wpAny (model prog w) A (Builtin.SmallTypes.nextOf (.ref it)) Q E s:=by
 obtain⟨o,ho,hc,hd⟩:=id hit
 obtain⟨ol,hol,_,nl,hdl⟩:=hl
 unfold Builtin.SmallTypes.nextOf
 refine Aa (A6 (name:=Str.ofString "__next__") hit.typeIs Cp
  (Bb Cp hit.typeIs F.entry_tuple_iterator_next ?_ (F.args_tuple_iterator_next_1 _)))
 show wpAny _ _ (field (.ref it) 0 >>= _) _ _ s
 refine Aa (Bd ho hd (x:=.ref l) rfl ?_)
 show wpAny _ _ (if (Value.ref l==Value.none)=true then _ else _) _ _ s
 rw[if_neg (show ¬ ((Value.ref l==Value.none)=true) from bN)]
 show wpAny _ _ (field (.ref it) 1 >>= _) _ _ s
 refine Aa (Bd ho hd (x:=.int i 0) rfl ?_)
 show wpAny _ _ (seqItems? (.ref l) >>= _) _ _ s
 refine Aa (Cq hol hdl ?_)
 simp only[Bg,hx]
 refine Aa (wpAny_setField ho hd (by simp) (Ad ⟨x,rfl,Ad (hQ _ ?_ (Heap.SameBut.update ..))⟩))
 exact⟨_,Heap.get?_update_self _ ho (Obj.isFreed_of_fields (Obj.data_mapFields hd _)),(Obj.cls_mapFields ..).trans hc,by
  rw[Obj.data_mapFields hd];simp[rawInt]⟩
theorem kZ{it l:Addr}{i:Nat}{items}{Q:Value->Shared->Prop}(hh:A.handled=none)
 (hit:s.heap.IsTupleIter it l i) (hl:s.heap.IsTuple l items) (hx:items[i]? = none)
 (hE:∀h' e,Heap.ExtBut it s.heap h'->(∃o,h'.get? e=some o/\o.cls=.type "StopIteration")->E (.ref e) { s with heap:=h' }) :
 wpAny (model prog w) A (Builtin.SmallTypes.nextOf (.ref it)) Q E s:=by
 obtain⟨o,ho,hc,hd⟩:=id hit
 obtain⟨ol,hol,_,nl,hdl⟩:=hl
 unfold Builtin.SmallTypes.nextOf
 refine Aa (A6 (name:=Str.ofString "__next__") hit.typeIs Cp
  (Bb Cp hit.typeIs F.entry_tuple_iterator_next ?_ (F.args_tuple_iterator_next_1 _)))
 show wpAny _ _ (field (.ref it) 0 >>= _) _ _ s
 refine Aa (Bd ho hd (x:=.ref l) rfl ?_)
 show wpAny _ _ (if (Value.ref l==Value.none)=true then _ else _) _ _ s
 rw[if_neg (show ¬ ((Value.ref l==Value.none)=true) from bN)]
 show wpAny _ _ (field (.ref it) 1 >>= _) _ _ s
 refine Aa (Bd ho hd (x:=.int i 0) rfl ?_)
 show wpAny _ _ (seqItems? (.ref l) >>= _) _ _ s
 refine Aa (Cq hol hdl ?_)
 simp only[Bg,hx]
 refine Aa (D8 (Aa (wpAny_setField ho hd (by simp) ?_)))
 show wpAny _ _ (newExc (.type "StopIteration") [] >>= _) _ _ _
 refine Aa ?_
 simp only[newExc,newTuple]
 refine Aa (Bf ?_ (by size_fits))
 refine Aa (m:=firstArgMember _ _) (wpAny_of_eq (a:=Value.none) (by first|rfl|(simp only[firstArgMember];rfl)) ?_)
 refine Bf ?_ (by size_fits)
 simp only[raiseNew]
 refine Aa (wpAny_handled ?_)
 first|rw[show A.in1.handled=none from hh]|rw[hh]
 refine Aa (Ad (wpAny_throw ?_))
 exact hE _ _ (((Heap.SameBut.update ..).extBut.push _).push _) ⟨_,Ah _ rfl,rfl⟩
theorem eL{k:Bool}{it l:Addr}{i:Nat}{items:Array Value}{x:Value}{Q:Value->Shared->Prop}(hit:bV k s.heap it l i)(hl:cX k s.heap l items)(hx:items[i]? = some x)
 (hQ:∀h',bV k h' it l (i+1)->Heap.SameBut it s.heap h'->Q x { s with heap:=h' }):wpAny (model prog w) A (Builtin.SmallTypes.nextOf (.ref it)) Q E s:=by
 cases k with
 | true=>exact wpAny_nextOf_list_item hit hl hx hQ
 | false=>exact jS hit hl hx hQ
theorem jA{k:Bool}{it l:Addr}{i:Nat}{items:Array Value}{Q:Value->Shared->Prop}(hh:A.handled=none)(hit:bV k s.heap it l i)(hl:cX k s.heap l items)(hx:items[i]? = none)
 (hE:∀h' e,Heap.ExtBut it s.heap h'->(∃o,h'.get? e=some o/\o.cls=.type "StopIteration")->E (.ref e) { s with heap:=h' }):wpAny (model prog w) A (Builtin.SmallTypes.nextOf (.ref it)) Q E s:=by
 cases k with
 | true=>exact wpAny_nextOf_list_end hh hit hl hx hE
 | false=>exact kZ hh hit hl hx hE
theorem aAK{ka kb:Bool}{z TI TO i1 i2 l1 l2:Addr}{k1 k2:Nat}{xs ys:Array Value}{x y a b:Value}{Q:Value->Shared->Prop}(D:ZipApart z TI TO i1 i2 l1 l2)
 (hz:IsZip s.heap z TI TO .none) (hTI:IsPair s.heap TI (.ref i1) (.ref i2)) (hTO:IsPair s.heap TO a b)
 (h1:bV ka s.heap i1 l1 k1) (h2:bV kb s.heap i2 l2 k2) (hl1:cX ka s.heap l1 xs) (hl2:cX kb s.heap l2 ys) (hx:xs[k1]? = some x) (hy:ys[k2]? = some y)
 (hQ:∀h',IsZip h' z TI TO (rawInt s.heap.objs.size)->IsPair h' TO x y->bV ka h' i1 l1 (k1+1)->bV kb h' i2 l2 (k2+1)->IsPair h' s.heap.objs.size x y->h'.objs.size=s.heap.objs.size+1 ->
  (∀c o,c≠z->c≠TO->c≠i1->c≠i2->s.heap.get? c=some o->h'.get? c=some o)->Q (.ref s.heap.objs.size) { s with heap:=h' }) :
 wpAny (model prog w) A (Builtin.«zip.__next__» ⟨[.ref z],[]⟩) (λfin s'=>∃v,fin=.done (.ret v)/\Q v s') E s:=by
 show wpAny _ _ (field (.ref z) 2 >>= _) _ _ _
 refine Aa (Bd hz rfl (x:=.bool false) rfl ?_)
 show wpAny _ _ (field (.ref z) 3 >>= _) _ _ _
 refine Aa (Bd hz rfl (x:=.ref TI) rfl ?_)
 refine Aa (Cq hTI rfl ?_)
 show wpAny _ _ (Builtin.SmallTypes.ownedTupleIsFree (.ref z) >>= _) _ _ _
 refine Aa ?_
 unfold Builtin.SmallTypes.ownedTupleIsFree
 refine Aa (Bd hz rfl (x:=.none) rfl (Ad ?_))
 simp only[if_true]
 refine Aa (D8 ?_)
 refine Aa (Bd hz rfl (x:=.ref TO) rfl ?_)
 refine Aa (A5 hz (by simp) λh₁ hz₁ hs₁=>?_)
 replace hz₁:IsZip h₁ z TI TO .ellipsis:=hz₁
 refine Aa ?_
 simp only[List.zipIdx_cons,List.zipIdx_nil,List.forIn_cons,List.forIn_nil]
 refine Aa (Aa (wpAny_onRaise ?_))
 show wpAny _ _ (Builtin.SmallTypes.nextOf (.ref i1) >>= _) _ _ _
 refine Aa (eL (h1.at λo e=>hs₁.extBut _ _ D.i1z e) (hl1.at λo e=>hs₁.extBut _ _ D.l1z e) hx λh₂ h1₂ hs₂=>Ad ?_)
 have hTO₂:IsPair h₂ TO a b:=hs₂.extBut _ _ D.TOi1 (hs₁.extBut _ _ D.TOz hTO)
 refine Aa (Cq hTO₂ rfl ?_)
 refine Aa (wpAny_updateSeq_pair hTO₂ λh₃ hTO₃ hs₃=>?_)
 replace hTO₃:IsPair h₃ TO x b:=hTO₃
 refine Aa (wpAny_letGo (Ad ?_))
 refine Aa (Aa (wpAny_onRaise ?_))
 show wpAny _ _ (Builtin.SmallTypes.nextOf (.ref i2) >>= _) _ _ _
 refine Aa (eL (h2.at λo e=>hs₃.extBut _ _ D.TOi2.symm (hs₂.extBut _ _ D.i12.symm (hs₁.extBut _ _ D.i2z e)))
  (hl2.at λo e=>hs₃.extBut _ _ D.l2TO (hs₂.extBut _ _ D.l2i1 (hs₁.extBut _ _ D.l2z e))) hy λh₄ h2₄ hs₄=>Ad ?_)
 have hTO₄:IsPair h₄ TO x b:=hs₄.extBut _ _ D.TOi2 hTO₃
 refine Aa (Cq hTO₄ rfl ?_)
 refine Aa (wpAny_updateSeq_pair hTO₄ λh₅ hTO₅ hs₅=>?_)
 replace hTO₅:IsPair h₅ TO x y:=hTO₅
 refine Aa (wpAny_letGo (Ad (Ad ?_)))
 refine Aa (Cq hTO₅ rfl ?_)
 refine Aa (wpAny_newTuple ?_)
 have hsz:h₅.objs.size=s.heap.objs.size:=by rw[hs₅.1,hs₄.1,hs₃.1,hs₂.1,hs₁.1]
 have hz₅:IsZip h₅ z TI TO .ellipsis:=hs₅.extBut _ _ D.TOz.symm (hs₄.extBut _ _ D.i2z.symm (hs₃.extBut _ _ D.TOz.symm (hs₂.extBut _ _ D.i1z.symm hz₁)))
 have hk₅:∀c o,c≠z->c≠TO->c≠i1->c≠i2->s.heap.get? c=some o->h₅.get? c=some o:=λc o c1 c2 c3 c4 e=>
  hs₅.extBut _ _ c2 (hs₄.extBut _ _ c4 (hs₃.extBut _ _ c2 (hs₂.extBut _ _ c3 (hs₁.extBut _ _ c1 e))))
 have h1₅:bV ka h₅ i1 l1 (k1+1):=h1₂.at λo e=>hs₅.extBut _ _ D.TOi1.symm (hs₄.extBut _ _ D.i12 (hs₃.extBut _ _ D.TOi1.symm e))
 have h2₅:bV kb h₅ i2 l2 (k2+1):=h2₄.at λo e=>hs₅.extBut _ _ D.TOi2.symm e
 have hzlt:z<h₅.objs.size:=Aj hz₅
 have hTOlt:TO<h₅.objs.size:=Aj hTO₅
 show wpAny _ _ (Builtin.SmallTypes.ownedTupleHandOut (.ref z) (.ref h₅.objs.size) >>= _) _ _ _
 refine Aa ?_
 unfold Builtin.SmallTypes.ownedTupleHandOut
 have hz₆:IsZip (h₅.push { cls:=.type "tuple",data:=.seq #[x,y] }) z TI TO .ellipsis:=Ab _ hz₅
 refine Aa (A5 hz₆ (by simp) λh₇ hz₇ hs₇=>?_)
 replace hz₇:IsZip h₇ z TI TO (rawInt h₅.objs.size):=hz₇
 refine A5 hz₇ (by simp) λh₈ hz₈ hs₈=>?_
 replace hz₈:IsZip h₈ z TI TO (rawInt h₅.objs.size):=hz₈
 have up:∀c o,c≠z->h₅.get? c=some o->h₈.get? c=some o:=λc o c1 e=>hs₈.extBut _ _ c1 (hs₇.extBut _ _ c1 (Ab _ e))
 have hT₈:IsPair h₈ h₅.objs.size x y:=hs₈.extBut _ _ (B4 hzlt) (hs₇.extBut _ _ (B4 hzlt) (Ah _ rfl))
 have hz8:h₈.objs.size=h₅.objs.size+1:=by rw[hs₈.1,hs₇.1,Bs]
 rw[hsz] at hz₈ hT₈ hz8
 refine Ad ⟨_,rfl,?_⟩
 show Q (.ref h₅.objs.size) _
 rw[hsz]
 exact hQ h₈ hz₈ (up _ _ D.TOz hTO₅) (h1₅.at λo e=>up _ o D.i1z e) (h2₅.at λo e=>up _ o D.i2z e) hT₈ hz8 λc o c1 c2 c3 c4 e=>up c o c1 (hk₅ c o c1 c2 c3 c4 e)
theorem aCc{ka kb:Bool}{z TI TO i1 i2 l1 l2:Addr}{k1 k2:Nat}{xs ys:Array Value}{a b:Value}{Q:Fin->Shared->Prop}(hh:A.handled=none)(D:ZipApart z TI TO i1 i2 l1 l2)
 (hz:IsZip s.heap z TI TO .none) (hTI:IsPair s.heap TI (.ref i1) (.ref i2)) (hTO:IsPair s.heap TO a b)
 (h1:bV ka s.heap i1 l1 k1) (h2:bV kb s.heap i2 l2 k2) (hl1:cX ka s.heap l1 xs) (hl2:cX kb s.heap l2 ys) (hend:xs[k1]? = none\/ys[k2]? = none)
 (hE:∀h' e,(∀c o,c≠z->c≠TO->c≠i1->c≠i2->s.heap.get? c=some o->h'.get? c=some o)->(∃o,h'.get? e=some o/\o.cls=.type "StopIteration")->E (.ref e) { s with heap:=h' }) :
 wpAny (model prog w) A (Builtin.«zip.__next__» ⟨[.ref z],[]⟩) Q E s:=by
 show wpAny _ _ (field (.ref z) 2 >>= _) _ _ _
 refine Aa (Bd hz rfl (x:=.bool false) rfl ?_)
 show wpAny _ _ (field (.ref z) 3 >>= _) _ _ _
 refine Aa (Bd hz rfl (x:=.ref TI) rfl ?_)
 refine Aa (Cq hTI rfl ?_)
 show wpAny _ _ (Builtin.SmallTypes.ownedTupleIsFree (.ref z) >>= _) _ _ _
 refine Aa ?_
 unfold Builtin.SmallTypes.ownedTupleIsFree
 refine Aa (Bd hz rfl (x:=.none) rfl (Ad ?_))
 simp only[if_true]
 refine Aa (D8 ?_)
 refine Aa (Bd hz rfl (x:=.ref TO) rfl ?_)
 refine Aa (A5 hz (by simp) λh₁ hz₁ hs₁=>?_)
 replace hz₁:IsZip h₁ z TI TO .ellipsis:=hz₁
 refine Aa ?_
 simp only[List.zipIdx_cons,List.zipIdx_nil,List.forIn_cons,List.forIn_nil]
 refine Aa (Aa (wpAny_onRaise ?_))
 show wpAny _ _ (Builtin.SmallTypes.nextOf (.ref i1) >>= _) _ _ _
 cases hx:xs[k1]? with
 | none=>
  refine Aa (jA hh (h1.at λo e=>hs₁.extBut _ _ D.i1z e) (hl1.at λo e=>hs₁.extBut _ _ D.l1z e) hx λh₂ e hs₂ he=>?_)
  obtain⟨oe,hoe,hce⟩:=he
  have hz₂:IsZip h₂ z TI TO .ellipsis:=hs₂ _ _ D.i1z.symm hz₁
  have hez:e≠z:=λx=>by subst x;rw[hz₂] at hoe;cases hoe;simp at hce
  refine A5 hz₂ (by simp) λh₃ _ hs₃=>hE h₃ e (λc o c1 _ c3 _ x=>hs₃.extBut _ _ c1 (hs₂ _ _ c3 (hs₁.extBut _ _ c1 x))) ⟨oe,hs₃.extBut _ _ hez hoe,hce⟩
 | some x=>
  have hy:ys[k2]? = none:=by rcases hend with h|h;rw[hx] at h;cases h;exact h
  refine Aa (eL (h1.at λo e=>hs₁.extBut _ _ D.i1z e) (hl1.at λo e=>hs₁.extBut _ _ D.l1z e) hx λh₂ h1₂ hs₂=>Ad ?_)
  have hTO₂:IsPair h₂ TO a b:=hs₂.extBut _ _ D.TOi1 (hs₁.extBut _ _ D.TOz hTO)
  refine Aa (Cq hTO₂ rfl ?_)
  refine Aa (wpAny_updateSeq_pair hTO₂ λh₃ hTO₃ hs₃=>?_)
  refine Aa (wpAny_letGo (Ad ?_))
  refine Aa (Aa (wpAny_onRaise ?_))
  show wpAny _ _ (Builtin.SmallTypes.nextOf (.ref i2) >>= _) _ _ _
  refine Aa (jA hh (h2.at λo e=>hs₃.extBut _ _ D.TOi2.symm (hs₂.extBut _ _ D.i12.symm (hs₁.extBut _ _ D.i2z e)))
   (hl2.at λo e=>hs₃.extBut _ _ D.l2TO (hs₂.extBut _ _ D.l2i1 (hs₁.extBut _ _ D.l2z e))) hy λh₄ e hs₄ he=>?_)
  obtain⟨oe,hoe,hce⟩:=he
  have hz₄:IsZip h₄ z TI TO .ellipsis:=hs₄ _ _ D.i2z.symm (hs₃.extBut _ _ D.TOz.symm (hs₂.extBut _ _ D.i1z.symm hz₁))
  have hez:e≠z:=λx=>by subst x;rw[hz₄] at hoe;cases hoe;simp at hce
  refine A5 hz₄ (by simp) λh₅ _ hs₅=>hE h₅ e (λc o c1 c2 c3 c4 x=>hs₅.extBut _ _ c1 (hs₄ _ _ c4 (hs₃.extBut _ _ c2 (hs₂.extBut _ _ c3 (hs₁.extBut _ _ c1 x))))) ⟨oe,hs₅.extBut _ _ hez hoe,hce⟩
theorem mO{ka kb:Bool}{z TI TO i1 i2 l1 l2:Addr}{k1 k2:Nat}{xs ys:Array Value}{x y a b:Value}{Q:Option Value->Shared->Prop}(D:ZipApart z TI TO i1 i2 l1 l2)
 (hz:IsZip s.heap z TI TO .none) (hTI:IsPair s.heap TI (.ref i1) (.ref i2)) (hTO:IsPair s.heap TO a b)
 (h1:bV ka s.heap i1 l1 k1) (h2:bV kb s.heap i2 l2 k2) (hl1:cX ka s.heap l1 xs) (hl2:cX kb s.heap l2 ys) (hx:xs[k1]? = some x) (hy:ys[k2]? = some y)
 (hQ:∀h',IsZip h' z TI TO (rawInt s.heap.objs.size)->IsPair h' TO x y->bV ka h' i1 l1 (k1+1)->bV kb h' i2 l2 (k2+1)->IsPair h' s.heap.objs.size x y->h'.objs.size=s.heap.objs.size+1 ->
  (∀c o,c≠z->c≠TO->c≠i1->c≠i2->s.heap.get? c=some o->h'.get? c=some o)->Q (some (.ref s.heap.objs.size)) { s with heap:=h' }) :
 wpAny (model prog w) A (pyNext (.ref z)) Q E s:=by
 have hT:s.TypeIs (.ref z) "zip" := ⟨_,hz,rfl⟩
 unfold pyNext
 exact Aa (D2 (A6 (name:=Str.ofString "__next__") hT F.slot_zip_next
  (Bb F.slot_zip_next hT F.entry_zip_next
   (aAK D hz hTI hTO h1 h2 hl1 hl2 hx hy λh' a1 a2 a3 a4 a5 a6 a7=>Ad (hQ h' a1 a2 a3 a4 a5 a6 a7)) (F.args_zip_next_1 _))))
theorem oA{ka kb:Bool}{z TI TO i1 i2 l1 l2:Addr}{k1 k2:Nat}{xs ys:Array Value}{a b:Value}{Q:Option Value->Shared->Prop}(hh:A.handled=none)(D:ZipApart z TI TO i1 i2 l1 l2)
 (hz:IsZip s.heap z TI TO .none) (hTI:IsPair s.heap TI (.ref i1) (.ref i2)) (hTO:IsPair s.heap TO a b)
 (h1:bV ka s.heap i1 l1 k1) (h2:bV kb s.heap i2 l2 k2) (hl1:cX ka s.heap l1 xs) (hl2:cX kb s.heap l2 ys) (hend:xs[k1]? = none\/ys[k2]? = none)
 (hQ:∀h',(∀c o,c≠z->c≠TO->c≠i1->c≠i2->s.heap.get? c=some o->h'.get? c=some o)->Q none { s with heap:=h' }):wpAny (model prog w) A (pyNext (.ref z)) Q E s:=by
 have hT:s.TypeIs (.ref z) "zip" := ⟨_,hz,rfl⟩
 unfold pyNext
 refine Aa (D2 (A6 (name:=Str.ofString "__next__") hT F.slot_zip_next
  (Bb F.slot_zip_next hT F.entry_zip_next (aCc hh D hz hTI hTO h1 h2 hl1 hl2 hend λh' e hk he=>?_) (F.args_zip_next_1 _))))
 obtain⟨o,ho,hc⟩:=he
 refine Aa (Dq (T:= "StopIteration") (b:=true) ⟨o,ho,hc⟩ isSubtype_stop ?_)
 exact Ad (hQ _ hk)
end
def gB(k:Bool)(l:Addr):Obj:=match k with
 | true=>{ cls:=.type "list_iterator",data:=.fields #[.ref l,.int 0 0] }
 | false=>{ cls:=.type "tuple_iterator",data:=.fields #[.ref l,.int 0 0] }
abbrev zH1(k:Bool)(h:Heap)(l1:Addr):Heap:=h.push (gB k l1)
abbrev zH2(ka kb:Bool)(h:Heap)(l1 l2:Addr):Heap:=(zH1 ka h l1).push (gB kb l2)
abbrev zH3(ka kb:Bool)(h:Heap)(l1 l2:Addr):Heap:=(zH2 ka kb h l1 l2).push { cls:=.type "tuple",data:=.seq #[.ref h.objs.size,.ref (zH1 ka h l1).objs.size] }
abbrev zH4(ka kb:Bool)(h:Heap)(l1 l2:Addr):Heap:=(zH3 ka kb h l1 l2).push { cls:=.type "tuple",data:=.seq #[.none,.none] }
abbrev zH5(ka kb:Bool)(h:Heap)(l1 l2:Addr):Heap:=(zH4 ka kb h l1 l2).push { cls:=.type "zip",data:=.fields #[.none,.bool false,.bool false,.ref (zH2 ka kb h l1 l2).objs.size,.ref (zH3 ka kb h l1 l2).objs.size] }
theorem iC{prog:Program}{w:World}{A:Around}{E:Value->Shared->Prop}{s:Shared}{k:Bool}{l:Addr}{items:Array Value}{Q:Value->Shared->Prop}(hl:cX k s.heap l items)
 (hQ:Q (.ref s.heap.objs.size) { s with heap:=s.heap.push (gB k l) }):wpAny (model prog w) A (pyIter (.ref l)) Q E s:=by
 cases k with
 | true=>exact Eg hl hQ
 | false=>exact wpAny_pyIter_tuple hl hQ
theorem xG(ka kb:Bool)(l1 l2:Addr)(xs ys:Array Value) :
 Meets (Builtin.«zip.__new__» ⟨[.type "zip",.ref l1,.ref l2],[]⟩) (λ_ R s=>cX ka s.heap l1 xs/\cX kb s.heap l2 ys /\
  R (.ok (.ret (.ref (zH4 ka kb s.heap l1 l2).objs.size))) { s with heap:=zH5 ka kb s.heap l1 l2 }):=
 .of_wp λprog w A R s h=>by
  obtain⟨hp,g,d,tk,os⟩:=s;obtain⟨hl1,hl2,h⟩:=h
  have hsub:=sub_zip
  have hL1:cX ka (Shared.heap ⟨hp,g,d,tk,os⟩) l1 xs:=hl1
  have hL2:cX kb (Shared.heap ⟨hp.push (gB ka l1),g,d,tk,os⟩) l2 ys:=hl2.at λo e=>Ab _ e
  wp_walk using iC hL1,iC hL2
  exact⟨_,rfl,h⟩
theorem oC{k:Bool}{h:Heap}{it a:Addr}(e:h.get? it=some (gB k a)):bV k h it a 0:=by
 cases k with
 | true=>exact⟨_,e,rfl,rfl⟩
 | false=>exact⟨_,e,rfl,rfl⟩
theorem aAL{prog:Program}{w:World}{A:Around}{E:Value->Shared->Prop}{s:Shared}{ka kb:Bool}{l1 l2:Addr}{xs ys:Array Value}{Q:Value->Shared->Prop}(hl1:cX ka s.heap l1 xs)(hl2:cX kb s.heap l2 ys)
 (h:∀h',IsZip h' (s.heap.objs.size+4) (s.heap.objs.size+2) (s.heap.objs.size+3) .none->IsPair h' (s.heap.objs.size+2) (.ref s.heap.objs.size) (.ref (s.heap.objs.size+1)) ->
  IsPair h' (s.heap.objs.size+3) .none .none->bV ka h' s.heap.objs.size l1 0->bV kb h' (s.heap.objs.size+1) l2 0->h'.objs.size=s.heap.objs.size+5 ->
  (∀c o,s.heap.get? c=some o->h'.get? c=some o)->Q (.ref (s.heap.objs.size+4)) { s with heap:=h' }) :
 wpAny (model prog w) A (call (.type "zip") [.ref l1,.ref l2]) Q E s:=by
 refine callType_new F.called_zip (by decide) (F.typeCall_zip_2 _ _) (F.newCall_zip_2 _ _) (λobj=>F.args_object_init_3 obj _ _) F.entry_zip_new
  (xG ka kb l1 l2 xs ys) ⟨hl1,hl2,?_⟩
 have z1:(zH1 ka s.heap l1).objs.size=s.heap.objs.size+1:=Bs ..
 have z2:(zH2 ka kb s.heap l1 l2).objs.size=s.heap.objs.size+2:=by rw[Bs,z1]
 have z3:(zH3 ka kb s.heap l1 l2).objs.size=s.heap.objs.size+3:=by rw[Bs,z2]
 have z4:(zH4 ka kb s.heap l1 l2).objs.size=s.heap.objs.size+4:=by rw[Bs,z3]
 have z5:(zH5 ka kb s.heap l1 l2).objs.size=s.heap.objs.size+5:=by rw[Bs,z4]
 have nf:∀k l,(gB k l).isFreed=false:=by intro k l;cases k <;> rfl
 have g5:(zH5 ka kb s.heap l1 l2).get? (zH4 ka kb s.heap l1 l2).objs.size=some _:=Ah _ rfl
 have g4:(zH5 ka kb s.heap l1 l2).get? (zH3 ka kb s.heap l1 l2).objs.size=some _:=Ab _ (Ah _ rfl)
 have g3:(zH5 ka kb s.heap l1 l2).get? (zH2 ka kb s.heap l1 l2).objs.size=some _:=Ab _ (Ab _ (Ah _ rfl))
 have g2:(zH5 ka kb s.heap l1 l2).get? (zH1 ka s.heap l1).objs.size=some _:=Ab _ (Ab _ (Ab _ (Ah _ (nf _ _))))
 have g1:(zH5 ka kb s.heap l1 l2).get? s.heap.objs.size=some _:=Ab _ (Ab _ (Ab _ (Ab _ (Ah _ (nf _ _)))))
 show _/\_
 rw[z2,z3,z4] at g5
 rw[z1,z2] at g3
 rw[z3] at g4
 rw[z1] at g2
 rw[z4]
 exact⟨⟨_,g5,rfl⟩,h _ g5 g3 g4 (oC g1) (oC g2) z5 λc o x=>
  Ab _ (Ab _ (Ab _ (Ab _ (Ab _ x))))⟩
def Itz(K:PySem.W.Frag)(ka kb:Bool)(a b:Addr):It:=
 ⟨λi H=>∃xs ys x y,Sq ka K H a xs/\Sq kb K H b ys/\xs[i]? = some x/\ys[i]? = some y,
  λi H v H'=>∃p x y,v=.ref p/\H p=none/\K.lookup p=none/\H'=upd H p (.tup [x,y])/\∀xs ys,Sq ka K H a xs->Sq kb K H b ys->xs[i]? = some x/\ys[i]? = some y,
  λi H=>∃xs ys,Sq ka K H a xs/\Sq kb K H b ys/\(xs.length<=i\/ys.length<=i)⟩
structure aEk (z TI TO i1 i2:Addr):Prop where
 TIz:TI≠z
 TOz:TO≠z
 i1z:i1≠z
 i2z:i2≠z
 TITO:TI≠TO
 TIi1:TI≠i1
 TIi2:TI≠i2
 TOi1:TO≠i1
 TOi2:TO≠i2
 i12:i1≠i2
theorem aEk.apart{X:Cx}{pins:List (Addr×Obj)}{σ:St}{H:Hp}{s:Shared}{ka kb:Bool}{a b z TI TO i1 i2:Addr}{xs ys:List V}(F:aEk z TI TO i1 i2)(I:Inv X pins σ H s)(f:∀c∈[z,TI,TO,i1,i2],jK X pins H c)
 (ha:Sq ka X.K H a xs) (hb:Sq kb X.K H b ys):ZipApart z TI TO i1 i2 a b:=
 ⟨F.TIz,F.TOz,F.i1z,F.i2z,F.TITO,F.TIi1,F.TIi2,F.TOi1,F.TOi2,F.i12,I.sqNe ha (f z (by simp)),I.sqNe ha (f TO (by simp)),I.sqNe ha (f i1 (by simp)),I.sqNe ha (f i2 (by simp)),
  I.sqNe hb (f z (by simp)),I.sqNe hb (f TO (by simp)),I.sqNe hb (f i1 (by simp)),I.sqNe hb (f i2 (by simp))⟩
theorem aCd{P:Program}{w:World}{K:PySem.W.Frag}{ka kb:Bool}{elts:List Expr}{tk:Nat}{tp:Pos}{z TI TO i1 i2 a b:Addr}(F:aEk z TI TO i1 i2) :
 tQ P w K (.Tuple elts tk tp) (Itz K ka kb a b) [z,TI,TO,i1,i2] z (λi h=>IsZip h z TI TO .none/\IsPair h TI (.ref i1) (.ref i2)/\(∃u v,IsPair h TO u v)/\bV ka h i1 a i/\bV kb h i2 b i) where
 mem:=by simp
 obj:=λi h st c hc=>by
  obtain⟨hz,hTI,⟨u,v,hTO⟩,h1,h2⟩:=st
  have hc':c=z\/c=TI\/c=TO\/c=i1\/c=i2:=by simpa using hc
  rcases hc' with rfl|rfl|rfl|rfl|rfl
  . exact⟨_,hz,λv z=>by cases(show Data.fields _=Data.cell v from z)⟩
  . exact⟨_,hTI,λv z=>by cases(show Data.seq _ _=Data.cell v from z)⟩
  . exact⟨_,hTO,λv z=>by cases(show Data.seq _ _=Data.cell v from z)⟩
  . exact h1.obj
  . exact h2.obj
 keep:=λi h h' st k=>by
  obtain⟨hz,hTI,⟨u,v,hTO⟩,h1,h2⟩:=st
  exact⟨k z (by simp) _ hz,k TI (by simp) _ hTI,⟨u,v,k TO (by simp) _ hTO⟩,h1.at λo e=>k i1 (by simp) o e,h2.at λo e=>k i2 (by simp) o e⟩
 item:=by
  intro X hP hw hK hc i pins s σ H E I hf st hg
  subst hP hw hK
  obtain⟨hz,hTI,⟨u,v,hTO⟩,h1,h2⟩:=st
  obtain⟨xs,ys,x,y,ha,hb,hx,hy⟩:=hg
  obtain⟨as,ra,pa,_⟩:=I.sq ha
  obtain⟨bs,rb,pb,_⟩:=I.sq hb
  obtain⟨ux,hux,rx⟩:=ra.get hx
  obtain⟨uy,huy,ry⟩:=rb.get hy
  have D:=F.apart I hf ha hb
  refine mO D hz hTI hTO h1 h2 pa pb (x:=ux) (y:=uy) (by simpa using hux) (by simpa using huy) λh' a1 a2 a3 a4 a5 a6 hk=>?_
  refine⟨_,rfl,wpAny_letOwnedTupleGo_zip (s:={ s with heap:=h' }) a1 λh'' hz' hs'=>?_⟩
  have hTne:s.heap.objs.size≠z:=B4 (Aj hz)
  have hk2:∀c o,c∉[z,TI,TO,i1,i2]->s.heap.get? c=some o->h''.get? c=some o:=λc o hc e=>by
   have hc':c≠z/\c≠TI/\c≠TO/\c≠i1/\c≠i2:=by simpa using hc
   exact hs'.extBut _ _ hc'.1 (hk c o hc'.1 hc'.2.2.1 hc'.2.2.2.1 hc'.2.2.2.2 e)
  have tI:IsPair h'' TI (.ref i1) (.ref i2):=hs'.extBut _ _ F.TIz (hk _ _ F.TIz F.TITO F.TIi1 F.TIi2 hTI)
  have tO:IsPair h'' TO ux uy:=hs'.extBut _ _ F.TOz a2
  have t1:bV ka h'' i1 a (i+1):=a3.at λo e=>hs'.extBut _ _ F.i1z e
  have t2:bV kb h'' i2 b (i+1):=a4.at λo e=>hs'.extBut _ _ F.i2z e
  have tT:IsPair h'' s.heap.objs.size ux uy:=hs'.extBut _ _ hTne a5
  have hn:H s.heap.objs.size=none:=I.fresh
  have I1:Inv X pins σ (upd H s.heap.objs.size (.tup [x,y])) { s with heap:=h'' }:=by
   refine I.turnsNew (t':=s.toks) hf hk2 (λc hc=>?_) (Ag _) ⟨by show 2<=sizeLine;rw[Be];decide,[ux,uy],.cons rx (.cons ry .nil),_,tT,rfl,_,rfl⟩
   have hc':c=z\/c=TI\/c=TO\/c=i1\/c=i2:=by simpa using hc
   rcases hc' with rfl|rfl|rfl|rfl|rfl
   . exact⟨_,hz'⟩
   . exact⟨_,tI⟩
   . exact⟨_,tO⟩
   . obtain⟨o,e,_⟩:=t1.obj;exact⟨o,e⟩
   . obtain⟨o,e,_⟩:=t2.obj;exact⟨o,e⟩
  refine⟨.ref s.heap.objs.size,_,I1,rfl,⟨_,x,y,rfl,hn,I.newK,rfl,λxs' ys' ha' hb'=>?_⟩,⟨hz',tI,⟨_,_,tO⟩,t1,t2⟩,λc hc=>?_⟩
  . rw[I.sq_inj ha' ha,I.sq_inj hb' hb]
    exact⟨hx,hy⟩
  . rw[upd_ne (Ao ?_)]
    . exact(hf c hc).1
    . obtain⟨o,e,_⟩:∃o,s.heap.get? c=some o/\True:=by
       have hc':c=z\/c=TI\/c=TO\/c=i1\/c=i2:=by simpa using hc
       rcases hc' with rfl|rfl|rfl|rfl|rfl
       . exact⟨_,hz,trivial⟩
       . exact⟨_,hTI,trivial⟩
       . exact⟨_,hTO,trivial⟩
       . obtain⟨o,e,_⟩:=h1.obj;exact⟨o,e,trivial⟩
       . obtain⟨o,e,_⟩:=h2.obj;exact⟨o,e,trivial⟩
      exact Aj e
 done:=by
  intro X hP hw hK hc i pins s σ H E I hf st hg
  subst hP hw hK
  obtain⟨hz,hTI,⟨u,v,hTO⟩,h1,h2⟩:=st
  obtain⟨xs,ys,ha,hb,hend⟩:=hg
  obtain⟨as,ra,pa,_⟩:=I.sq ha
  obtain⟨bs,rb,pb,_⟩:=I.sq hb
  have la:=ra.length
  have lb:=rb.length
  refine oA (I.ok.hd hc) (F.apart I hf ha hb) hz hTI hTO h1 h2 pa pb ?_ λh' hk=>⟨rfl,I.turns (t':=s.toks) hf λc o hc e=>?_⟩
  . rcases hend with q|q
    . exact .inl (by simp;omega)
    . exact .inr (by simp;omega)
  . have hc':c≠z/\c≠TI/\c≠TO/\c≠i1/\c≠i2:=by simpa using hc
    exact hk c o hc'.1 hc'.2.2.1 hc'.2.2.2.1 hc'.2.2.2.2 e
 self:=λ_ _ _ _ _ st h=>wpAny_pyIter_zip st.1 h
def aMq(K:PySem.W.Frag)(ta:TA):TI:=λσ H R=>ta σ H λvs H1=>∃(ka kb:Bool) (a b:Addr) (xs ys:List V),vs=[.ref a,.ref b]/\Sq ka K H1 a xs/\Sq kb K H1 b ys/\R (Itz K ka kb a b) H1
theorem aCe:bootBuiltins "zip" = some (.type "zip"):=by kernel_rfl
theorem aCf(n:Nat):aEk (n+4) (n+2) (n+3) n (n+1) where
 TIz:=by simp
 TOz:=by simp
 i1z:=by simp
 i2z:=by simp
 TITO:=by simp
 TIi1:=by simp
 TIi2:=by simp
 TOi1:=by simp
 TOi2:=by simp
 i12:=by simp
theorem aGE{X:Cx}{a b:Expr}{ta:TA}{p pos:Pos}{elts:List Expr}{tk:Nat}{tp:Pos}(hg:Gl X "zip")(hm:X.mg "zip" = none)(ha:PA X [a,b] ta)(hs:starEach [a,b] X.env=[(false,eval a X.env),(false,eval b X.env)])(hs2:starEach [b] X.env=[(false,eval b X.env)]) :
 PI X (.Tuple elts tk tp) (.Call (.Name "zip" p) [a,b] [] pos) (aMq X.K ta):=by
 intro pins s σ H R I h
 refine Call_ (eA I hg hm aCe (Br (thn (ha pos pins s σ H _ I h) λus s1 ⟨vs,H1,I1,r1,q1⟩=>?_) (by rw[hs,hs2]) (by rw[hs2];rfl)))
 obtain⟨ka,kb,a1,b1,xs,ys,e,q1,q2,q⟩:=q1
 subst e
 cases r1 with
 | cons r rr=>
  cases rr with
  | cons r' rr=>
   cases rr
   cases r
   cases r'
   obtain⟨as,ra,pa,_⟩:=I1.sq q1
   obtain⟨bs,rb,pb,_⟩:=I1.sq q2
   refine aAL pa pb λh' hz hTI hTO h1 h2 hsz hk=>wpAny_pyIter_zip (s:={ s1 with heap:=h' }) hz ?_
   refine⟨s1.heap.objs.size+4,_,_,_,H1,rfl,I1.kept (t':=s1.toks) hk,aCd (aCf _),⟨hz,hTI,⟨_,_,hTO⟩,h1,h2⟩,λc hc=>?_,q⟩
   have hc':c=s1.heap.objs.size+4\/c=s1.heap.objs.size+2\/c=s1.heap.objs.size+3\/c=s1.heap.objs.size\/c=s1.heap.objs.size+1:=by simpa using hc
   have hle:s1.heap.objs.size<=c:=by rcases hc' with rfl|rfl|rfl|rfl|rfl <;> omega
   exact I1.fpOk hle (I1.hok.fresh hle)
def Its(x:Str):It:=⟨λi _=>i<x.cps.size,λi H v H'=>H'=H/\∃c,x.cps[i]? = some c/\v=.str ⟨#[c]⟩,λi _=>x.cps.size<=i⟩
theorem uN{P:Program}{w:World}{K:PySem.W.Frag}{tg:Expr}{it:Addr}{x:Str}{t:Tok}{ty:String}(hn:["enumerate", "zip", "dict_itemiterator", "dict_reverseitemiterator", "odict_iterator", "itertools.zip_longest", "itertools.pairwise"].contains ty=false)
 (W:∀A':Around,A'.handled=none->Walks P w A' it [it] [it] x.cps.size (SignAt x) (λi h=>h.IsStrIter it ty x t i))
 (S:∀(A:Around) (i:Nat) (s:Shared) (Q:Value->Shared->Prop) (E:Value->Shared->Prop),s.heap.IsStrIter it ty x t i->Q (.ref it) s->wpAny (model P w) A (pyIter (.ref it)) Q E s):tQ P w K tg (Its x) [it] it (λi h=>i<=x.cps.size/\h.IsStrIter it ty x t i) where
 mem:=by simp
 obj:=λi h st b hb=>by
  have e:b=it:=by simpa using hb
  subst e
  obtain⟨_,o,e,c,d⟩:=st
  exact⟨o,e,λv z=>by rw[d] at z;cases z⟩
 keep:=λi h h' st k=>by
  obtain⟨hi,o,e,c,d⟩:=st
  exact⟨hi,o,k it (by simp) o e,c,d⟩
 item:=by
  intro X hP hw hK hc i pins s σ H E I hf st hg
  subst hP hw hK
  obtain⟨f0,f1,f2,f3,f4,f5⟩:=hf it (by simp)
  refine(W X.A (I.ok.hd hc)).item i s _ _ hg st.2 λv h' tk hv st' kk=>?_
  obtain⟨c,u,hcc,rfl⟩:=hv
  have I1:Inv X pins σ H { s with heap:=h',toks:=tk }:=I.turned (λb o hb e=>kk b o (by simpa using hb) e) f0 f1 f3 f4 f5
  obtain⟨o,e,oc,od⟩:=id st'
  exact⟨_,rfl,nK (s:={ s with heap:=h',toks:=tk }) e oc od hn ⟨.str ⟨#[c]⟩,H,I1,⟨u,rfl⟩,⟨rfl,c,hcc,rfl⟩,⟨hg,st'⟩,λb hb=>(hf b hb).1⟩⟩
 done:=by
  intro X hP hw hK hc i pins s σ H E I hf st hg
  subst hP hw hK
  obtain⟨f0,f1,f2,f3,f4,f5⟩:=hf it (by simp)
  have e:i=x.cps.size:=Nat.le_antisymm st.1 hg
  subst e
  exact(W X.A (I.ok.hd hc)).done s _ _ st.2 λh' tk eb=>⟨rfl,I.turned (λb o hb e=>eb b o (by simpa using hb) e) f0 f1 f3 f4 f5⟩
 self:=λA i s Q E st h=>S A i s Q E st.2 h
theorem aGF{X:Cx}{tg l:Expr}{tl:TE}(hl:PE X l tl):PI X tg l (λσ H R=>tl σ H λx H1=>(∃a,x=.ref a/\(((∃xs,SqL X.K H1 a xs)/\R (Itl X.K a) H1)\/((∃xs,SqT X.K H1 a xs)/\R (Itt X.K a) H1)))\/∃z,x=.str z/\R (Its z) H1):=by
 intro pins s σ H R I h
 refine thn (hl pins s σ H _ I h) λv s1 ⟨x,H1,I1,r1,q1⟩=>?_
 rcases q1 with⟨a,e,q⟩|⟨z,e,q⟩
 . subst e
   cases r1
   rcases q with⟨⟨xs,hq⟩,q⟩|⟨⟨xs,hq⟩,q⟩
   . obtain⟨its,rv,p,hz⟩:=I1.list hq
     refine Eg p.isList ?_
     refine⟨s1.heap.objs.size,[s1.heap.objs.size],_,_,H1,rfl,I1.kept (t':=s1.toks) λb o e=>Ab _ e,aAl a _,⟨_,Ah _ rfl,rfl,rfl⟩,λb hb=>?_,q⟩
     have e:b=s1.heap.objs.size:=by simpa using hb
     subst e
     exact I1.fpOk (Ag _) (I1.hok.fresh (Ag _))
   . obtain⟨its,rv,p,hz⟩:=I1.tuple hq
     refine wpAny_pyIter_tuple (show s1.heap.IsTuple a its.toArray from p) ?_
     refine⟨s1.heap.objs.size,[s1.heap.objs.size],_,_,H1,rfl,I1.kept (t':=s1.toks) λb o e=>Ab _ e,wJ a _,⟨_,Ah _ rfl,rfl,rfl⟩,λb hb=>?_,q⟩
     have e:b=s1.heap.objs.size:=by simpa using hb
     subst e
     exact I1.fpOk (Ag _) (I1.hok.fresh (Ag _))
 . subst e
   obtain⟨t,rfl⟩:=r1
   cases ha:z.cps.all (·<128) with
   | false=>
    refine wpAny_pyIter_wide ha ⟨s1.heap.objs.size,[s1.heap.objs.size],_,_,H1,rfl,I1.kept (t':=s1.toks) λb o e=>Ab _ e,uN (ty:= "str_iterator") (x:=z) (t:=t) (by decide) (λA' hA=>Walks.strWide hA _ z t) (λA i s Q E st h=>wpAny_pyIter_striter_wide st h),⟨Bj _,_,Ah _ rfl,rfl,rfl⟩,λb hb=>?_,q⟩
    have e:b=s1.heap.objs.size:=by simpa using hb
    subst e
    exact I1.fpOk (Ag _) (I1.hok.fresh (Ag _))
   | true=>
    refine wpAny_pyIter_ascii ha ⟨s1.heap.objs.size,[s1.heap.objs.size],_,_,H1,rfl,I1.kept (t':=s1.toks) λb o e=>Ab _ e,uN (ty:= "str_ascii_iterator") (x:=z) (t:=t) (by decide) (λA' hA=>Walks.strAscii hA _ z t) (λA i s Q E st h=>wpAny_pyIter_striter_ascii st h),⟨Bj _,_,Ah _ rfl,rfl,rfl⟩,λb hb=>?_,q⟩
    have e:b=s1.heap.objs.size:=by simpa using hb
    subst e
    exact I1.fpOk (Ag _) (I1.hok.fresh (Ag _))
section
variable {prog:Program} {w:World} {A:Around} {E:Value->Shared->Prop} {s:Shared}
theorem aCg{k:Bool}{e it l:Addr}{i:Nat}{xs:Array Value}{x old:Value}{Q:Value->Shared->Prop}(he:IsEnum s.heap e it i old)(hit:bV k s.heap it l i)(hl:cX k s.heap l xs)(hx:xs[i]? = some x)(hne:e≠it)
 (hQ:∀h',IsEnumOut h' e it ((i:Int)+1) x s.heap.objs.size->bV k h' it l (i+1)->h'.get? s.heap.objs.size=some { cls:=.type "tuple",data:=.seq #[.int i s.toks,x] }->h'.objs.size=s.heap.objs.size+1 ->
  (∀b o,b≠e->b≠it->s.heap.get? b=some o->h'.get? b=some o)->Q (.ref s.heap.objs.size) { s with heap:=h',toks:=s.toks+1 }) :
 wpAny (model prog w) A (Builtin.«enumerate.__next__» ⟨[.ref e],[]⟩) (λfin s'=>∃v,fin=.done (.ret v)/\Q v s') E s:=by
 obtain⟨hp,g,d,tk,os⟩:=s
 refine Aa (m:=field (.ref e) 2) (Bd he rfl (x:=.ref it) rfl (Aa (eL hit hl hx λh1 i1 s1=>?_)))
 have s1:Heap.SameBut it hp h1:=s1
 have e1:IsEnum h1 e it i old:=(s1.2 e hne).trans he
 refine Aa (m:=field (.ref e) 3) (Bd e1 rfl (x:=rawInt i) rfl (Aa (m:=field (.ref e) 4) (Bd e1 rfl (x:=.none) rfl (Aa (m:=mkInt i) (wpAny_mkInt ?_)))))
 refine Aa (m:=setField (.ref e) 3 (rawInt ((i:Int)+1))) (s:=⟨h1,g,d,tk+1,os⟩) (A5 e1 (by simp) λh2 e2 s2=>?_)
 have s2:Heap.SameBut e h1 h2:=s2
 have e2:IsEnum h2 e it ((i:Int)+1) old:=e2
 refine Aa (m:=setField (.ref e) 4 .none) (s:=⟨h2,g,d,tk+1,os⟩) (A5 e2 (by simp) λh3 e3 s3=>?_)
 have s3:Heap.SameBut e h2 h3:=s3
 have e3:IsEnum h3 e it ((i:Int)+1) old:=e3
 refine Aa (m:=newTuple [.int i tk,x]) (s:=⟨h3,g,d,tk+1,os⟩) (wpAny_newTuple ?_)
 have e4:IsEnum (h3.push { cls:=.type "tuple",data:=.seq #[.int i tk,x] }) e it ((i:Int)+1) old:=Ab _ e3
 generalize q4:h3.push { cls:=.type "tuple",data:=.seq #[.int i tk,x] }=h4 at e4
 have z3:h3.objs.size=hp.objs.size:=by rw[s3.1,s2.1,s1.1]
 have lt:e<hp.objs.size:=Aj he
 have t4:h4.get? hp.objs.size=some { cls:=.type "tuple",data:=.seq #[.int i tk,x] }:=by rw[<-q4,<-z3];exact Ah _ rfl
 have z4:h4.objs.size=hp.objs.size+1:=by rw[<-q4,Bs,z3]
 have k4:∀b o,b≠e->b≠it->hp.get? b=some o->h4.get? b=some o:=λb o n1 n2 hb=>by
  rw[<-q4];exact Ab _ (s3.extBut b o n1 (s2.extBut b o n1 (s1.extBut b o n2 hb)))
 have i4:bV k h4 it l (i+1):=i1.at λo ho=>by rw[<-q4];exact Ab _ (s3.extBut _ _ hne.symm (s2.extBut _ _ hne.symm ho))
 rw[z3]
 refine Aa (m:=Builtin.SmallTypes.ownedTupleIsFree (.ref e)) (s:=⟨h4,g,d,tk+1,os⟩) ?_
 unfold Builtin.SmallTypes.ownedTupleIsFree
 refine Aa (Bd e4 rfl (x:=.none) rfl (Ad ?_))
 simp only[if_true]
 refine Aa (D8 (Aa (Bd e4 rfl (x:=old) rfl (Aa (A5 e4 (by simp) λh5 e5 s5=>?_)))))
 have s5:Heap.SameBut e h4 h5:=s5
 have e5:IsEnum h5 e it ((i:Int)+1) x:=e5
 refine Aa (m:=Builtin.SmallTypes.ownedTupleHandOut (.ref e) (.ref hp.objs.size)) (s:=⟨h5,g,d,tk+1,os⟩) ?_
 unfold Builtin.SmallTypes.ownedTupleHandOut
 refine Aa (A5 e5 (by simp) λh6 e6 s6=>?_)
 have s6:Heap.SameBut e h5 h6:=s6
 have e6:IsEnumOut h6 e it ((i:Int)+1) x hp.objs.size:=e6
 refine A5 e6 (by simp) λh7 e7 s7=>?_
 have s7:Heap.SameBut e h6 h7:=s7
 have e7:IsEnumOut h7 e it ((i:Int)+1) x hp.objs.size:=e7
 have up:∀b o,b≠e->h4.get? b=some o->h7.get? b=some o:=λb o n hb=>s7.extBut _ _ n (s6.extBut _ _ n (s5.extBut _ _ n hb))
 exact Aa (wpAny_letGo (Ad ⟨_,rfl,hQ h7 e7 (i4.at λo ho=>up _ _ hne.symm ho) (up _ _ (B4 lt) t4) (by rw[s7.1,s6.1,s5.1,z4]) λb o n1 n2 hb=>up b o n1 (k4 b o n1 n2 hb)⟩))
theorem uO{k:Bool}{e it l:Addr}{i:Nat}{xs:Array Value}{x old:Value}{Q:Option Value->Shared->Prop}(he:IsEnum s.heap e it i old)(hit:bV k s.heap it l i)(hl:cX k s.heap l xs)(hx:xs[i]? = some x)(hne:e≠it)
 (hQ:∀h',IsEnumOut h' e it ((i:Int)+1) x s.heap.objs.size->bV k h' it l (i+1)->h'.get? s.heap.objs.size=some { cls:=.type "tuple",data:=.seq #[.int i s.toks,x] }->h'.objs.size=s.heap.objs.size+1 ->
  (∀b o,b≠e->b≠it->s.heap.get? b=some o->h'.get? b=some o)->Q (some (.ref s.heap.objs.size)) { s with heap:=h',toks:=s.toks+1 }):wpAny (model prog w) A (pyNext (.ref e)) Q E s:=by
 have T:s.TypeIs (.ref e) "enumerate" := ⟨_,he,rfl⟩
 unfold pyNext
 exact Aa (D2 (A6 (name:=Str.ofString "__next__") T Dh (Bb Dh T F.entry_enumerate_next (aCg he hit hl hx hne λh' a b c d k=>Ad (hQ h' a b c d k)) (F.args_enumerate_next_1 _))))
theorem xH{k:Bool}{e it l:Addr}{i:Nat}{xs:Array Value}{old:Value}{Q:Option Value->Shared->Prop}(hh:A.handled=none)(he:IsEnum s.heap e it i old)(hit:bV k s.heap it l i)(hl:cX k s.heap l xs)(hx:xs[i]? = none)
 (hQ:∀h',Heap.ExtBut it s.heap h'->Q none { s with heap:=h' }):wpAny (model prog w) A (pyNext (.ref e)) Q E s:=by
 have T:s.TypeIs (.ref e) "enumerate" := ⟨_,he,rfl⟩
 unfold pyNext
 refine Aa (D2 (A6 (name:=Str.ofString "__next__") T Dh (Bb Dh T F.entry_enumerate_next ?_ (F.args_enumerate_next_1 _))))
 refine Aa (m:=field (.ref e) 2) (Bd he rfl (x:=.ref it) rfl (Aa (jA hh hit hl hx λh' x g ⟨o,ho,hc⟩=>?_)))
 exact Aa (Dq (T:= "StopIteration") (b:=true) ⟨o,ho,hc⟩ isSubtype_stop (Ad (hQ _ g)))
end
def aCh(it:Addr):Obj:={ cls:=.type "enumerate",data:=.fields #[.none,.bool false,.ref it,rawInt 0,.none,.none] }
theorem aAM(k:Bool)(l:Addr)(xs:Array Value)(ol:Obj):Meets (Builtin.«enumerate.__new__» ⟨[.type "enumerate",.ref l],[]⟩) (λ_ R s=>s.heap.get? l=some ol/\cX k s.heap l xs /\
 R (.ok (.ret (.ref (s.heap.push (gB k l)).objs.size))) { s with heap:=(s.heap.push (gB k l)).push (aCh s.heap.objs.size) }):=
 .of_wp λprog w A R s h=>by
  obtain⟨hp,g,d,tk,os⟩:=s;obtain⟨ho,hl,h⟩:=h
  have hsub:=sub_enumerate
  have hL:cX k (Shared.heap ⟨hp,g,d,tk,os⟩) l xs:=hl
  wp_walk using C4 ho
  refine wpAny_stack_any λst=>Ad ?_
  split
  . rename_i c _ _ _ _ _
    cases(c==Value.type "enumerate") <;> (wp_walk using C4 ho,iC hL;exact⟨_,rfl,h⟩)
  . wp_walk using C4 ho,iC hL
    exact⟨_,rfl,h⟩
theorem aCi{prog:Program}{w:World}{A:Around}{E:Value->Shared->Prop}{s:Shared}{k:Bool}{l:Addr}{xs:Array Value}{Q:Value->Shared->Prop}(hl:cX k s.heap l xs)
 (h:∀h',IsEnum h' (s.heap.objs.size+1) s.heap.objs.size 0 .none->bV k h' s.heap.objs.size l 0->(∀b o,s.heap.get? b=some o->h'.get? b=some o)->Q (.ref (s.heap.objs.size+1)) { s with heap:=h' }) :
 wpAny (model prog w) A (call (.type "enumerate") [.ref l]) Q E s:=by
 obtain⟨ol,ho⟩:∃ol,s.heap.get? l=some ol:=by
  cases k with
  | true=>obtain⟨o,e,_⟩:=hl;exact⟨o,e⟩
  | false=>obtain⟨o,e,_⟩:=hl;exact⟨o,e⟩
 refine callType_new F.called_enumerate (by decide) (F.typeCall_enumerate_1 _) (F.newCall_enumerate_1 _) (λobj=>F.args_object_init_2 obj _) F.entry_enumerate_new (aAM k l xs ol) ⟨ho,hl,?_⟩
 have z:(s.heap.push (gB k l)).objs.size=s.heap.objs.size+1:=Bs ..
 have nf:(gB k l).isFreed=false:=by cases k <;> rfl
 have g2:((s.heap.push (gB k l)).push (aCh s.heap.objs.size)).get? (s.heap.push (gB k l)).objs.size=some (aCh s.heap.objs.size):=Ah _ rfl
 show _/\_
 rw[z] at g2 ⊢
 exact⟨⟨_,g2,rfl⟩,h _ g2 (oC (Ab _ (Ah _ nf))) λb o x=>Ab _ (Ab _ x)⟩
def Ite(K:PySem.W.Frag)(k:Bool)(a:Addr):It:=
 ⟨λi H=>∃xs x,Sq k K H a xs/\xs[i]? = some x,
  λi H v H'=>∃p x,v=.ref p/\H p=none/\K.lookup p=none/\H'=upd H p (.tup [.int i,x])/\∀xs,Sq k K H a xs->xs[i]? = some x,
  λi H=>∃xs,Sq k K H a xs/\xs.length<=i⟩
theorem aEl{P:Program}{w:World}{K:PySem.W.Frag}{k:Bool}{elts:List Expr}{tk:Nat}{tp:Pos}{e it a:Addr}(ne:e≠it) :
 tQ P w K (.Tuple elts tk tp) (Ite K k a) [e,it] e (λi h=>(∃old,IsEnum h e it i old)/\bV k h it a i) where
 mem:=by simp
 obj:=λi h st c hc=>by
  obtain⟨⟨old,he⟩,h1⟩:=st
  have hc':c=e\/c=it:=by simpa using hc
  rcases hc' with rfl|rfl
  . exact⟨_,he,λv z=>by cases(show Data.fields _=Data.cell v from z)⟩
  . exact h1.obj
 keep:=λi h h' st kp=>by
  obtain⟨⟨old,he⟩,h1⟩:=st
  exact⟨⟨old,kp e (by simp) _ he⟩,h1.at λo q=>kp it (by simp) o q⟩
 item:=by
  intro X hP hw hK hc i pins s σ H E I hf st hg
  subst hP hw hK
  obtain⟨⟨old,he⟩,h1⟩:=st
  obtain⟨xs,x,ha,hx⟩:=hg
  obtain⟨as,ra,pa,_⟩:=I.sq ha
  obtain⟨ux,hux,rx⟩:=ra.get hx
  refine uO he h1 pa (x:=ux) (by simpa using hux) ne λh' a1 a2 a3 a4 hk=>?_
  refine⟨_,rfl,wpAny_letOwnedTupleGo_enum (s:={ s with heap:=h',toks:=s.toks+1 }) a1 λh'' e' hs'=>?_⟩
  have lt:s.heap.objs.size≠e:=B4 (Aj he)
  have hk2:∀c o,c∉[e,it]->s.heap.get? c=some o->h''.get? c=some o:=λc o hc q=>by
   have hc':c≠e/\c≠it:=by simpa using hc
   exact hs'.extBut _ _ hc'.1 (hk c o hc'.1 hc'.2 q)
  have t1:bV k h'' it a (i+1):=a2.at λo q=>hs'.extBut _ _ ne.symm q
  have tT:h''.get? s.heap.objs.size=some { cls:=.type "tuple",data:=.seq #[.int i s.toks,ux] }:=hs'.extBut _ _ lt a3
  have hn:H s.heap.objs.size=none:=I.fresh
  have I1:Inv X pins σ (upd H s.heap.objs.size (.tup [.int i,x])) { s with heap:=h'',toks:=s.toks+1 }:=by
   refine I.turnsNew (t':=s.toks+1) hf hk2 (λc hc=>?_) (Ag _) ⟨by show 2<=sizeLine;rw[Be];decide,[.int i s.toks,ux],.cons ⟨_,rfl⟩ (.cons rx .nil),_,tT,rfl,_,rfl⟩
   have hc':c=e\/c=it:=by simpa using hc
   rcases hc' with rfl|rfl
   . exact⟨_,e'⟩
   . obtain⟨o,q,_⟩:=t1.obj;exact⟨o,q⟩
  refine⟨.ref s.heap.objs.size,_,I1,rfl,⟨_,x,rfl,hn,I.newK,rfl,λxs' ha'=>?_⟩,⟨⟨_,e'⟩,t1⟩,λc hc=>?_⟩
  . rw[I.sq_inj ha' ha]
    exact hx
  . rw[upd_ne (Ao ?_)]
    . exact(hf c hc).1
    . have hc':c=e\/c=it:=by simpa using hc
      rcases hc' with rfl|rfl
      . exact Aj he
      . obtain⟨o,q,_⟩:=h1.obj;exact Aj q
 done:=by
  intro X hP hw hK hc i pins s σ H E I hf st hg
  subst hP hw hK
  obtain⟨⟨old,he⟩,h1⟩:=st
  obtain⟨xs,ha,hend⟩:=hg
  obtain⟨as,ra,pa,_⟩:=I.sq ha
  have la:=ra.length
  refine xH (I.ok.hd hc) he h1 pa (by simp;omega) λh' hk=>⟨rfl,I.turns (t':=s.toks) hf λc o hc q=>hk c o ?_ q⟩
  have hc':c≠e/\c≠it:=by simpa using hc
  exact hc'.2
 self:=λ_ _ _ _ _ st h=>let ⟨_,q⟩:=st.1;wpAny_pyIter_enum q h
def iEn(K:PySem.W.Frag)(ta:TA):TI:=λσ H R=>ta σ H λvs H1=>∃(k:Bool) (a:Addr) (xs:List V),vs=[.ref a]/\Sq k K H1 a xs/\R (Ite K k a) H1
theorem aAN:bootBuiltins "enumerate" = some (.type "enumerate"):=by kernel_rfl
theorem aEm{X:Cx}{a:Expr}{ta:TA}{p pos:Pos}{elts:List Expr}{tk:Nat}{tp:Pos}(hg:Gl X "enumerate")(hm:X.mg "enumerate" = none)(ha:PA X [a] ta)(hs:starEach [a] X.env=[(false,eval a X.env)]) :
 PI X (.Tuple elts tk tp) (.Call (.Name "enumerate" p) [a] [] pos) (iEn X.K ta):=by
 intro pins s σ H R I h
 refine Call_ (eA I hg hm aAN (Br (thn (ha pos pins s σ H _ I h) λus s1 ⟨vs,H1,I1,r1,q1⟩=>?_) (by rw[hs];rfl) rfl))
 obtain⟨k,a1,xs,e,q1,q⟩:=q1
 subst e
 cases r1 with
 | cons r rr=>
  cases rr
  cases r
  obtain⟨as,ra,pa,_⟩:=I1.sq q1
  refine aCi pa λh' he h1 hk=>wpAny_pyIter_enum (s:={ s1 with heap:=h' }) he ?_
  refine⟨s1.heap.objs.size+1,_,_,_,H1,rfl,I1.kept (t':=s1.toks) hk,aEl (Nat.succ_ne_self _),⟨⟨_,he⟩,h1⟩,λc hc=>?_,q⟩
  have hc':c=s1.heap.objs.size+1\/c=s1.heap.objs.size:=by simpa using hc
  have hle:s1.heap.objs.size<=c:=by rcases hc' with rfl|rfl <;> omega
  exact I1.fpOk hle (I1.hok.fresh hle)
abbrev aGG(h:Heap)(z TI TO:Addr)(f0:Value)(f1:Bool):Prop:=
 h.get? z=some { cls:=.type "zip",dict:=none,data:=.fields #[f0,.bool f1,.bool false,.ref TI,.ref TO],slots:=#[] }
section
variable {prog:Program} {w:World} {A:Around} {E:Value->Shared->Prop} {s:Shared}
end
structure aNv (ka kb:Bool) (z TI TO i1 i2 l1 l2 S:Nat) (xs ys:Array Value) (i:Nat) (h:Heap) (acc:Array Value) (c:Nat):Prop where
 zip:(i=0/\IsZip h z TI TO .none/\∃u v,IsPair h TO u v)\/∃(t:Nat) (f:Bool) (ot:Obj),aGG h z TI TO (rawInt t) f/\h.get? t=some ot/\t≠z/\t≠i1/\t≠i2/\t≠S
 TI:IsPair h TI (.ref i1) (.ref i2)
 i1:bV ka h i1 l1 i
 i2:bV kb h i2 l2 i
 l1:cX ka h l1 xs
 l2:cX kb h l2 ys
 lst:h.get? S=some { cls:=.type "list",dict:=none,data:=.seq acc c,slots:=#[] }
 size:h.objs.size=S+1+i
 acc:acc=((List.range i).map λj=>Value.ref (S+1+j)).toArray
 pair:∀j,j<i->∃x y,xs[j]? = some x/\ys[j]? = some y/\IsPair h (S+1+j) x y
section
variable {prog:Program} {w:World} {A:Around} {s:Shared} {R:Result->Shared->Prop}
variable {ka kb:Bool} {z TI TO i1 i2 l1 l2 S:Nat} {xs ys:Array Value}
end
section
variable {prog:Program} {w:World} {A:Around} {E:Value->Shared->Prop} {s:Shared} {R:Result->Shared->Prop}
variable {ka kb:Bool} {z TI TO i1 i2 l1 l2:Nat} {xs ys:Array Value}
structure xI (ka kb:Bool) (z TI TO i1 i2 l1 l2:Nat) (xs ys:Array Value) (h:Heap):Prop where
 zip:IsZip h z TI TO .none
 TI:IsPair h TI (.ref i1) (.ref i2)
 TO:∃u v,IsPair h TO u v
 i1:bV ka h i1 l1 0
 i2:bV kb h i2 l2 0
 l1:cX ka h l1 xs
 l2:cX kb h l2 ys
theorem xI.at{h h':Heap}(Z:xI ka kb z TI TO i1 i2 l1 l2 xs ys h)(k:∀b o,b=z\/b=TI\/b=TO\/b=i1\/b=i2\/b=l1\/b=l2->h.get? b=some o->h'.get? b=some o):xI ka kb z TI TO i1 i2 l1 l2 xs ys h' where
 zip:=k _ _ (by simp) Z.zip
 TI:=k _ _ (by simp) Z.TI
 TO:=let ⟨u,v,q⟩:=Z.TO;⟨u,v,k _ _ (by simp) q⟩
 i1:=Z.i1.at λo e=>k _ _ (by simp) e
 i2:=Z.i2.at λo e=>k _ _ (by simp) e
 l1:=Z.l1.at λo e=>k _ _ (by simp) e
 l2:=Z.l2.at λo e=>k _ _ (by simp) e
end
section
variable {X:Cx} {pins:List (Addr×Obj)} {σ:St} {H H':Hp} {s:Shared} {h':Heap}
structure Lz (H H':Hp) (l:Nat) (xs ys:List V):Prop where
 same:∀b u,H b=some u->H' b=some u
 free:H l=none
 lst:H' l=some (.lst ((List.range (min xs.length ys.length)).map λj=>.ref (l+1+j)))
 pair:∀(j:Nat) (x y:V),xs[j]? = some x->ys[j]? = some y->H' (l+1+j)=some (.tup [x,y])
end
end L2
end
noncomputable section
namespace Hp
open PySem PySem.Spec PyProof.Rows L2
theorem Kp.refl(R:Addr->Prop)(H:Hp):Kp R H H:=λ_ _ h _=>h
theorem Kp.same{R:Addr->Prop}{H H':Hp}(s:aF H H'):Kp R H H':=λa o h _=>s a o h
theorem Kp.trans{R:Addr->Prop}{H H1 H2:Hp}(a:Kp R H H1)(b:Kp R H1 H2):Kp R H H2:=λc o h n=>b c o (a c o h n) n
section
variable {K:Fg} {RT Y old R:Addr->Prop} {σ:Sg} {σV:L2.St} {H H':Hp}
theorem Kp.seqL(k:Kp R H H'){a:Addr}{xs:List V}(n:¬ R a)(h:SqL K H a xs):SqL K H' a xs:=by
 rcases h with(h|⟨o,h⟩)|h
 . exact .inl (.inl (k _ _ h n))
 . exact .inl (.inr ⟨o,k _ _ h n⟩)
 . exact .inr h
theorem Kp.seqT(k:Kp R H H')(hR:∀a,R a->RtO H a){a:Addr}{xs:List V}(h:SqT K H a xs):SqT K H' a xs:=by
 rcases h with(h|⟨o,h⟩)|h
 . refine .inl (.inl (k _ _ h λz=>?_))
   obtain⟨o',e,m⟩:=hR a z
   rw[h] at e;cases e;exact lU m
 . refine .inl (.inr ⟨o,k _ _ h λz=>?_⟩)
   obtain⟨o',e,m⟩:=hR a z
   rw[h] at e;cases e;exact lU m
 . exact .inr h
theorem Reps.kp{ex:Addr->Prop}{ds:List D}{xs:List V}(r:Reps K H ex ds xs)(k:Kp R H H')(hR:∀a,R a->RtO H a)(hx:∀a,R a->ex a):Reps K H' ex ds xs:=
 r.keep λa o e hl=>k a o e λz=>by
  obtain⟨o',e',m⟩:=hR a z
  rw[e] at e'
  cases e'
  exact hl m (hx a z)
theorem Rep.kp{ex:Addr->Prop}{d:D}{x:V}(r:Rep K H ex d x)(k:Kp R H H')(hR:∀a,R a->RtO H a)(hx:∀a,R a->ex a):Rep K H' ex d x:=
 r.keep λa o e hl=>k a o e λz=>by
  obtain⟨o',e',m⟩:=hR a z
  rw[e] at e'
  cases e'
  exact hl m (hx a z)
def rtF(RT:Addr->Prop)(σ:Sg)(σV:L2.St)(al:List Nat)(a:Addr):Prop:=RT a/\¬ alR σ σV al a
theorem cY:∀(al:List Nat) (σ:Sg) (i:Nat),(freeze σ al)[i]? = (σ[i]?).map λs=>if i∈al then s.freeze else s
 | [],σ,i=>by cases q:σ[i]? <;> simp[freeze,q]
 | j::al,σ,i=>by
  rw[freeze,cY al]
  cases qj:σ[j]? with
  | none=>
   simp only
   cases q:σ[i]? with
   | none=>rfl
   | some s=>
    have hne:i≠j:=λe=>by subst e;rw[q] at qj;cases qj
    simp[hne]
  | some sj=>
   simp only
   by_cases hij:i=j
   . subst hij
     have hl:i<σ.length:=(Ay.mp qj).1
     rw[Am hl,qj]
     simp only[Option.map_some,Al,true_or,if_true]
     split
     . cases sj <;> rfl
     . rfl
   . rw[Ac (Ne.symm hij)]
     simp[hij]
theorem oD:∀(al:List Nat) (σ:Sg),(freeze σ al).length=σ.length
 | [],σ=>rfl
 | j::al,σ=>by
  rw[freeze,oD al]
  split
  . rw[Ap]
  . rfl
theorem freeze_sh{al:List Nat}{i:Nat}{pa:Bool}{d:D}(h:(freeze σ al)[i]? = some (.sh pa d)):σ[i]? = some (.sh pa d)\/∃ds,i∈al/\σ[i]? = some (.own pa ds)/\d=.lst ds:=by
 rw[cY] at h
 cases q:σ[i]? with
 | none=>rw[q] at h;cases h
 | some s=>
  rw[q] at h
  have h:(if i∈al then s.freeze else s)=.sh pa d:=Ai h
  split at h
  . rename_i hi
    cases s with
    | dead=>cases h
    | sh pa' d'=>cases h;exact .inl rfl
    | own pa' ds'=>cases h;exact .inr ⟨ds',hi,rfl,rfl⟩
    | lent _=>cases h
    | own2 _=>cases h
    | dct _=>cases h
  . exact .inl (by rw[h])
theorem dG{al:List Nat}{i:Nat}{pa:Bool}{ds:List D}(h:(freeze σ al)[i]? = some (.own pa ds)):σ[i]? = some (.own pa ds)/\i∉al:=by
 rw[cY] at h
 cases q:σ[i]? with
 | none=>rw[q] at h;cases h
 | some s=>
  rw[q] at h
  have h:(if i∈al then s.freeze else s)=.own pa ds:=Ai h
  split at h
  . cases s <;> cases h
  . rename_i hi
    exact⟨by rw[h],hi⟩
theorem uP{al:List Nat}{i:Nat}{ds:List D}(h:(freeze σ al)[i]? = some (.lent ds)):σ[i]? = some (.lent ds):=by
 rw[cY] at h
 cases q:σ[i]? with
 | none=>rw[q] at h;cases h
 | some s=>
  rw[q] at h
  have h:(if i∈al then s.freeze else s)=.lent ds:=Ai h
  split at h
  . cases s with
    | lent d=>exact congrArg some h
    | _=>cases h
  . rw[h]
theorem xJ{al:List Nat}{i:Nat}{ds:DT}(h:(freeze σ al)[i]? = some (.dct ds)):σ[i]? = some (.dct ds):=by
 rw[cY] at h
 cases q:σ[i]? with
 | none=>rw[q] at h;cases h
 | some s=>
  rw[q] at h
  have h:(if i∈al then s.freeze else s)=.dct ds:=Ai h
  split at h
  . cases s with
    | dct d=>exact congrArg some h
    | _=>cases h
  . rw[h]
theorem uQ{al:List Nat}{i:Nat}{ds:List (List D)}(h:(freeze σ al)[i]? = some (.own2 ds)):σ[i]? = some (.own2 ds):=by
 rw[cY] at h
 cases q:σ[i]? with
 | none=>rw[q] at h;cases h
 | some s=>
  rw[q] at h
  have h:(if i∈al then s.freeze else s)=.own2 ds:=Ai h
  split at h
  . cases s with
    | own2 d=>exact congrArg some h
    | _=>cases h
  . rw[h]
theorem Sx.frz(S:Sx K RT Y old σ σV H)(al:List Nat):Sx K (rtF RT σ σV al) Y old (freeze σ al) σV H where
 sh:=λi pa d h=>by
  rcases freeze_sh h with h|⟨ds,hi,ho,e⟩
  . obtain⟨v,h1,h2⟩:=S.sh i pa d h
    exact⟨v,h1,h2.weak λa z=>z.elim (λz=>.inl z.1) .inr⟩
  . subst e
    obtain⟨a,xs,h1,h2,h3,h4,h5⟩:=S.own i pa ds ho
    refine⟨.ref a,h1,a,xs,rfl,SqL.of h2,?_,h5.weak λa z=>z.elim (λz=>.inl z.1) .inr⟩
    rintro (z|z|⟨_,z⟩)
    . exact z.2 ⟨i,hi,⟨pa,ds,ho⟩,h1⟩
    . exact h4 (S.yo a z)
    . exact h4 z
 own:=λi pa ds h=>by
  obtain⟨h,hi⟩:=dG h
  obtain⟨a,xs,h1,h2,h3,h4,h5⟩:=S.own i pa ds h
  refine⟨a,xs,h1,h2,⟨h3,?_⟩,h4,h5.weak λa z=>z.elim (λz=>.inl z.1) .inr⟩
  rintro ⟨j,hj,⟨pa',ds',q⟩,q'⟩
  have:=S.inj i j pa pa' ds ds' a h q h1 q'
  subst this
  exact hi hj
 trk:=λa z=>S.trk a (z.elim (λz=>.inl z.1) .inr)
 yo:=S.yo
 tk:=S.tk
 rt:=λa z=>S.rt a z.1
 inj:=λi j pa pa' ds ds' a h1 h2 h3 h4=>S.inj i j pa pa' ds ds' a (dG h1).1 (dG h2).1 h3 h4
 len:=by rw[oD];exact S.len
 lx:=S.lx.imp id (λ_ _ e=>⟨uP e,rfl⟩) (λ_ _ _ _ _ _ e=>e) (λa xs e z o=>⟨e,z,λ⟨j,_,⟨pa,ds,q⟩,q'⟩=>by
  obtain⟨b,ys,h1,h2,h3,h4,h5⟩:=S.own j pa ds q
  rw[q'] at h1
  cases h1
  exact h4 o⟩) (λ_ _ r=>r.weak λa z=>z.imp (·.1) id) (λ_ _ e=>⟨uQ e,rfl⟩) (λ_ _ _ _ _ _ e=>e) (λp xs e z=>⟨e,⟨z.1,λ⟨j,_,⟨pa,ds,q⟩,q'⟩=>z.2.2 j pa ds q q'⟩,z.2.1,λk pa ds q=>z.2.2 k pa ds (dG q).1⟩) λ_ _ r=>r
 dx:=S.dx.imp id (λ_ _ e=>⟨xJ e,rfl⟩) (λ_ _ _ _ _ _ e=>e) (λa o e n z _=>⟨e,z,λ⟨j,_,⟨pa,ds,q⟩,q'⟩=>by
  obtain⟨b,ys,h1,h2,h3,h4,h5⟩:=S.own j pa ds q
  rw[q'] at h1
  cases h1
  rw[e] at h2
  cases h2
  exact n _ rfl⟩) (λ_ _ r=>r.weak λa z=>z.imp (·.1) id) λ_ _ r=>r
theorem Tk.new{p:Addr}{o:HO}(t:Tk K H)(h:K.lookup p=none):Tk K (upd H p o):=λb hb=>by
 by_cases e:b=p
 . rw[e];exact h
 . rw[upd_ne e] at hb;exact t b hb
def Nw(K:Fg)(H:Hp)(a:Addr):Prop:=H a=none/\K.lookup a=none
theorem yW{a:Addr}{xs:List V}(q:SqL K H a xs):¬ Nw K H a:=by
 rintro ⟨n,k⟩
 rcases q with(q|⟨o,q⟩)|⟨o,its,m,q,_⟩
 . rw[n] at q;cases q
 . rw[n] at q;cases q
 . rw[k] at q;cases q
theorem Reps.outN{ex:Addr->Prop}{d:List D}{v:List V}(h:Reps K H ex d v):Reps K H (λb=>ex b\/Nw K H b) d v:=
 Reps.imp (λ_ _ q=>q) (λb xs nb q=>⟨λz=>z.elim nb (yW q),q⟩) (λb ks nb q=>⟨λz=>z.elim nb λz=>(by rw[z.1] at q;cases q),q⟩) d v h
theorem RvN.sub{ex:Addr->Prop}{v:Vl}{d:D}{x:V}(h:Rep K H' (λa=>exV RT Y old σ σV v.pa v.al a\/ex a) d x):Rep K H' (λa=>exV RT Y old σ σV (v.sub d).pa (v.sub d).al a\/ex a) (v.sub d).d x:=by
 unfold Vl.sub
 by_cases hn:noL d=true
 . rw[if_pos hn]
   exact Rep.free d x hn h
 . rw[if_neg hn]
   exact h
structure pN (K:Fg) (RT Y old:Addr->Prop) (σ:Sg) (σV:L2.St) (H1:Hp) (J:L2.It) (xs:List Vl) (al:List Nat):Prop where
 sub:∀v∈xs,∀j∈v.al,j∈al
 nofr:∀v∈xs,v.fr=false
 ok:∀(R:Addr->Prop),(∀b,R b->rtF RT σ σV al b)->∀(i:Nat) (H:Hp),Kp R H1 H->(i<xs.length->J.go i H)/\(xs.length<=i->J.stop i H)/\∀x H',J.yld i H x H'->∀v,xs[i]? = some v->aF H H'/\(Tk K H->Tk K H')/\Rep K H' (λa=>exV RT Y old σ σV v.pa v.al a\/Nw K H1 a) v.d x
theorem rV{v:Vl}{d:D}:∀j∈(v.sub d).al,j∈v.al:=by
 unfold Vl.sub Vl.cl
 split
 . intro j hj;cases hj
 . intro j hj;exact hj
theorem oE{v:Vl}{d:D}:(v.sub d).fr=false:=by
 unfold Vl.sub Vl.cl
 split <;> rfl
theorem iD{x:Vl}{ds:List D}{i:Nat}{v:Vl}(h:(items x ds)[i]? = some v):∃d,ds[i]? = some d/\v=x.sub d:=by
 unfold items at h
 rw[Ax] at h
 cases q:ds[i]? with
 | none=>rw[q] at h;cases h
 | some d=>rw[q] at h;exact⟨d,rfl,(Ai h).symm⟩
theorem gL{al:List Nat}{pa:Bool}{b:Addr}(h:rtF RT σ σV al b):exV RT Y old σ σV pa al b:=.inl h
theorem lW:∀(as bs:List D),(jL as bs).length=min as.length bs.length
 | [],_=>by simp[jL]
 | _::_,[]=>by simp[jL]
 | _::as,_::bs=>by
  rw[jL,lC,lW as bs,lC,lC]
  omega
theorem uR:∀{as bs:List D} {i:Nat} {a b:D},as[i]? = some a->bs[i]? = some b->(jL as bs)[i]? = some (.tup [a,b])
 | [],_,_,_,_,h,_=>by simp at h
 | _::_,[],_,_,_,_,h=>by simp at h
 | _::_,_::_,0,_,_,h,h'=>by
  simp at h h'
  subst h h'
  rfl
 | _::as,_::bs,i+1,a,b,h,h'=>by
  have:=uR (as:=as) (bs:=bs) (i:=i) (a:=a) (b:=b) (by simpa using h) (by simpa using h')
  simpa[jL] using this
theorem aEn(S:Sx K RT Y old σ σV H){x:Vl}{ds:List D}{a:Addr}{xs:List V}(q:SqL K H a xs)(n:¬ exV RT Y old σ σV x.pa x.al a)(r:Reps K H (exV RT Y old σ σV x.pa x.al) ds xs) :
 pN K RT Y old σ σV H (Itl K a) (items x ds) x.al where
 sub:=λv hv j hj=>by
  obtain⟨d,_,e⟩:=A2.mp hv
  subst e
  exact rV j hj
 nofr:=λv hv=>by
  obtain⟨d,_,e⟩:=A2.mp hv
  subst e
  exact oE
 ok:=λR hR i H1 k=>by
  have q1:SqL K H1 a xs:=k.seqL (λz=>n (gL (hR a z))) q
  have r1:Reps K H1 (λa=>exV RT Y old σ σV x.pa x.al a\/Nw K H a) ds xs:=r.outN.kp k (λb z=>S.rt b (hR b z).1) λb z=>.inl (gL (hR b z))
  have hl:(items x ds).length=xs.length:=by unfold items;rw[lM,r.length]
  refine⟨λhi=>⟨xs,xs[i]'(by omega),q1,An (by omega)⟩,λhi=>⟨xs,q1,by omega⟩,λy H' hy v hv=>?_⟩
  obtain⟨e,hy⟩:=hy
  subst e
  obtain⟨d,hd,e⟩:=iD hv
  subst e
  obtain⟨y',hy',ry⟩:=r1.get hd
  rw[hy xs q1] at hy'
  cases hy'
  exact⟨aF.refl _,id,RvN.sub ry⟩
theorem aGH(S:Sx K RT Y old σ σV H){x:Vl}{ds:List D}{a:Addr}{xs:List V}(q:SqT K H a xs)(r:Reps K H (exV RT Y old σ σV x.pa x.al) ds xs) :
 pN K RT Y old σ σV H (Itt K a) (items x ds) x.al where
 sub:=λv hv j hj=>by
  obtain⟨d,_,e⟩:=A2.mp hv
  subst e
  exact rV j hj
 nofr:=λv hv=>by
  obtain⟨d,_,e⟩:=A2.mp hv
  subst e
  exact oE
 ok:=λR hR i H1 k=>by
  have q1:SqT K H1 a xs:=k.seqT (λb z=>S.rt b (hR b z).1) q
  have r1:Reps K H1 (λa=>exV RT Y old σ σV x.pa x.al a\/Nw K H a) ds xs:=r.outN.kp k (λb z=>S.rt b (hR b z).1) λb z=>.inl (gL (hR b z))
  have hl:(items x ds).length=xs.length:=by unfold items;rw[lM,r.length]
  refine⟨λhi=>⟨xs,xs[i]'(by omega),q1,An (by omega)⟩,λhi=>⟨xs,q1,by omega⟩,λy H' hy v hv=>?_⟩
  obtain⟨e,hy⟩:=hy
  subst e
  obtain⟨d,hd,e⟩:=iD hv
  subst e
  obtain⟨y',hy',ry⟩:=r1.get hd
  rw[hy xs q1] at hy'
  cases hy'
  exact⟨aF.refl _,id,RvN.sub ry⟩
theorem rW{lo:Int}{m:Nat}{xs:List Vl}(hx:xs=((List.range m).map λ(k:Nat)=>Vl.cl (.int (lo+(k:Int))))):pN K RT Y old σ σV H (Itr lo m) xs [] where
 sub:=λv hv j hj=>by
  subst hx
  obtain⟨d,_,e⟩:=A2.mp hv
  subst e
  exact hj
 nofr:=λv hv=>by
  subst hx
  obtain⟨d,_,e⟩:=A2.mp hv
  subst e
  rfl
 ok:=λR hR i H1 k=>by
  have hl:xs.length=m:=by rw[hx,lM,List.length_range]
  refine⟨λhi=>(show i<m by omega),λhi=>(show m<=i by omega),λy H' hy v hv=>?_⟩
  obtain⟨e,hy⟩:=hy
  subst e hy
  subst hx
  rw[Ax] at hv
  have hi:i<m:=by
   have:=(Ay.mp (show((List.range m).map λ(k:Nat)=>Vl.cl (.int (lo+(k:Int))))[i]? = some v by rw[Ax];exact hv)).1
   simpa using this
  rw[List.getElem?_range hi] at hv
  cases hv
  exact⟨aF.refl _,id,rfl⟩
theorem aGI{z:Str}{xs:List Vl}(hx:xs=(z.cps.toList.map λn=>Vl.cl (.str ⟨#[n]⟩))):pN K RT Y old σ σV H (Its z) xs [] where
 sub:=λv hv j hj=>by
  subst hx
  obtain⟨d,_,e⟩:=A2.mp hv
  subst e
  exact hj
 nofr:=λv hv=>by
  subst hx
  obtain⟨d,_,e⟩:=A2.mp hv
  subst e
  rfl
 ok:=λR hR i H1 k=>by
  have hl:xs.length=z.cps.size:=by rw[hx,lM,A7]
  refine⟨λhi=>(show i<z.cps.size by omega),λhi=>(show z.cps.size<=i by omega),λy H' hy v hv=>?_⟩
  obtain⟨e,c,hc,hy⟩:=hy
  subst e hy
  subst hx
  rw[Ax,Cr,hc] at hv
  cases hv
  exact⟨aF.refl _,id,rfl⟩
theorem aGJ(S:Sx K RT Y old σ σV H){ka kb:Bool}{as bs:List D}{a b:Addr}{xs ys:List V}{pa:Bool}{al:List Nat}(qa:Sq ka K H a xs)(qb:Sq kb K H b ys)(na:ka=true->¬ exV RT Y old σ σV pa al a)(nb:kb=true->¬ exV RT Y old σ σV pa al b)
 (ra:Reps K H (exV RT Y old σ σV pa al) as xs) (rb:Reps K H (exV RT Y old σ σV pa al) bs ys):pN K RT Y old σ σV H (Itz K ka kb a b) (items ⟨.non,false,pa,al⟩ (jL as bs)) al where
 sub:=λv hv j hj=>by
  obtain⟨d,_,e⟩:=A2.mp hv
  subst e
  exact rV j hj
 nofr:=λv hv=>by
  obtain⟨d,_,e⟩:=A2.mp hv
  subst e
  exact oE
 ok:=λR hR i H1 k=>by
  have keep:∀{kk:Bool} {c:Addr} {zs:List V},(kk=true->¬ exV RT Y old σ σV pa al c)->Sq kk K H c zs->Sq kk K H1 c zs:=by
   intro kk c zs nn q
   cases kk with
   | true=>exact k.seqL (λz=>nn rfl (gL (hR c z))) q
   | false=>exact k.seqT (λb z=>S.rt b (hR b z).1) q
  have qa1:=keep na qa
  have qb1:=keep nb qb
  have ra1:Reps K H1 (λa=>exV RT Y old σ σV pa al a\/Nw K H a) as xs:=ra.outN.kp k (λb z=>S.rt b (hR b z).1) λb z=>.inl (gL (hR b z))
  have rb1:Reps K H1 (λa=>exV RT Y old σ σV pa al a\/Nw K H a) bs ys:=rb.outN.kp k (λb z=>S.rt b (hR b z).1) λb z=>.inl (gL (hR b z))
  have hl:(items ⟨.non,false,pa,al⟩ (jL as bs)).length=min xs.length ys.length:=by unfold items;rw[lM,lW,ra.length,rb.length]
  have ge:∀(h1:i<xs.length) (h2:i<ys.length),True:=λ_ _=>trivial
  refine⟨λhi=>?_,λhi=>⟨xs,ys,qa1,qb1,by omega⟩,λy H' hy v hv=>?_⟩
  . have h1:i<xs.length:=by omega
    have h2:i<ys.length:=by omega
    exact⟨xs,ys,xs[i],ys[i],qa1,qb1,An h1,An h2⟩
  . obtain⟨p,x,y',rfl,hp,hk,rfl,hh⟩:=hy
    obtain⟨hx,hy⟩:=hh xs ys qa1 qb1
    obtain⟨d,hd,e⟩:=iD hv
    subst e
    obtain⟨d1,hd1,rd1⟩:=ra1.get' hx
    obtain⟨d2,hd2,rd2⟩:=rb1.get' hy
    rw[uR hd1 hd2] at hd
    cases hd
    have sm:aF H1 (upd H1 p (.tup [x,y'])):=aF.new hp
    refine⟨sm,λtk=>tk.new hk,RvN.sub (v:=⟨.non,false,pa,al⟩) ?_⟩
    exact⟨p,[x,y'],rfl,SqT.of aL,.cons (rd1.grow sm) (.cons (rd2.grow sm) .nil)⟩
theorem jT:∀(as:List D) (j:Int),(iM j as).length=as.length
 | [],_=>rfl
 | _::as,j=>by rw[iM,lC,jT as,lC]
theorem qD:∀{as:List D} {i:Nat} {j:Int} {a:D},as[i]? = some a->(iM j as)[i]? = some (.tup [.int (j+(i:Int)),a])
 | [],_,_,_,h=>by simp at h
 | _::_,0,j,_,h=>by
  simp at h
  subst h
  simp[iM]
 | _::as,i+1,j,a,h=>by
  have:=qD (as:=as) (i:=i) (j:=j+1) (a:=a) (by simpa using h)
  rw[iM,gS,this]
  have e:j+1+(i:Int)=j+((i+1:Nat):Int):=by omega
  rw[e]
theorem aEo(S:Sx K RT Y old σ σV H){k:Bool}{as:List D}{a:Addr}{xs:List V}{x:Vl}(qa:Sq k K H a xs)(na:k=true->¬ exV RT Y old σ σV x.pa x.al a)(ra:Reps K H (exV RT Y old σ σV x.pa x.al) as xs) :
 pN K RT Y old σ σV H (Ite K k a) (items x (iM 0 as)) x.al where
 sub:=λv hv j hj=>by
  obtain⟨d,_,e⟩:=A2.mp hv
  subst e
  exact rV j hj
 nofr:=λv hv=>by
  obtain⟨d,_,e⟩:=A2.mp hv
  subst e
  exact oE
 ok:=λR hR i H1 kp=>by
  have qa1:Sq k K H1 a xs:=by
   cases k with
   | true=>exact kp.seqL (λz=>na rfl (gL (hR a z))) qa
   | false=>exact kp.seqT (λb z=>S.rt b (hR b z).1) qa
  have ra1:Reps K H1 (λa=>exV RT Y old σ σV x.pa x.al a\/Nw K H a) as xs:=ra.outN.kp kp (λb z=>S.rt b (hR b z).1) λb z=>.inl (gL (hR b z))
  have hl:(items x (iM 0 as)).length=xs.length:=by unfold items;rw[lM,jT,ra.length]
  refine⟨λhi=>⟨xs,xs[i]'(by omega),qa1,An (by omega)⟩,λhi=>⟨xs,qa1,by omega⟩,λy H' hy v hv=>?_⟩
  obtain⟨p,z,rfl,hp,hk,rfl,hh⟩:=hy
  obtain⟨d,hd,e⟩:=iD hv
  subst e
  obtain⟨d1,hd1,rd1⟩:=ra1.get' (hh xs qa1)
  rw[qD hd1,Int.zero_add] at hd
  cases hd
  have sm:aF H1 (upd H1 p (.tup [.int i,z])):=aF.new hp
  refine⟨sm,λtk=>tk.new hk,RvN.sub (v:=x) ?_⟩
  exact⟨p,[.int i,z],rfl,SqT.of aL,.cons rfl (.cons (rd1.grow sm) .nil)⟩
end
section
variable {X:Cx} {P:Pg} {Γ:Ct} {n:Nat} {RT Y old:Addr->Prop} {σ:Sg} {tg:Expr}
def wI(X:Cx)(P:Pg)(n:Nat)(RT Y old:Addr->Prop)(σ:Sg)(it:Hp.It):TI:=λσV H R=>Sx X.K RT Y old σ σV H/\RE (walk P (call P n) σ it) λxs=>∀J H1,Tk X.K H1->aF H H1->pN X.K RT Y old σ σV H1 J xs.1 xs.2->R J H1
theorem oF{iter:Expr}{t t':TI}(h:PI X tg iter t)(f:∀σV H R,Tk X.K H->t' σV H R->t σV H λJ H'=>Tk X.K H'->R J H'):PI X tg iter t':=λpins s σV H R I hw=>
 thn (h pins s σV H _ I (f σV H R I.tk hw)) λv s1 h1=>thn h1 λitv s2 ⟨it,fp,tn,J,H',e,I',T,st,fo,q⟩=>⟨it,fp,tn,J,H',e,I',T,st,fo,q I'.tk⟩
theorem aJQ{c:E}{e:Expr}(ha:PE X e (WE X P n RT Y old σ c)):PI X tg e (wI X P n RT Y old σ (.seq c)):=by
 refine oF (aGF ha) λσV H RR t ⟨S,h⟩=>?_
 have h:=RE.bind' (show RE (ev P (call P n) σ c >>= λx=>(match x.d with
  | .lst ds=>R.ok (items x ds,x.al)
  | .tup ds=>R.ok (items x ds,x.al)
  | .str a=>R.iff (decide (a.length<=lim)) (R.ok (a.cps.toList.map λn=>Vl.cl (.str ⟨#[n]⟩),[]))
  | _=>.bad)) _ from h)
 refine wE.one S h λx u H1 hx t1 S1 r1=>?_
 have rv:=r1.rv S
 split at hx
 . rename_i ds d1
   obtain⟨a,xs,e,q,nn,r⟩:=rv.lst d1
   exact .inl ⟨a,e,.inl ⟨⟨xs,q⟩,λt'=>hx _ _ t' r1.1 (aEn S1 q nn r)⟩⟩
 . rename_i ds d1
   obtain⟨a,xs,e,q,r⟩:=rv.tup d1
   exact .inl ⟨a,e,.inr ⟨⟨xs,q⟩,λt'=>hx _ _ t' r1.1 (aGH S1 q r)⟩⟩
 . rename_i z d1
   obtain⟨c,hx⟩:=hx.iff
   exact .inr ⟨z,rv.str d1,λt'=>hx _ _ t' r1.1 (aGI rfl)⟩
 . exact hx.elim
theorem fL(i j:Int):(cD i j).map Vl.cl=(List.range (j-i).toNat).map λ(k:Nat)=>Vl.cl (.int (i+(k:Int))):=by
 unfold cD
 rw[Bv]
 rfl
theorem eV{k:Int}(h:aI k=true):-(2 ^ 62)<=k/\k<2 ^ 62:=by
 unfold aI at h
 simp only[bA,A4] at h
 exact h
theorem aGK(M:Mc X P Γ n){b:E}{e:Expr}{f:Str}{p pos:Pos}(hf:f=("range" : Str))(hg:bL Γ f=true)(ha:PE X e (WE X P n RT Y old σ b))(hp:aG e=true):PI X tg (.Call (.Name f p) [e] [] pos) (wI X P n RT Y old σ (.rng (.c (.int 0)) b)):=by
 subst hf
 refine oF (kW (M.gl hg) (M.md.blt _ (by decide +kernel)) (iZ ha uM hp) (aA hp)) λσV H RR t ⟨S,h⟩=>?_
 have h:RE (ev P (call P n) σ b) λy=>RE (match (D.int 0),y.d with|.int i,.int j=>R.iff (aI i&&aI j) (R.ok ((cD i j).map Vl.cl,[]))|_,_=>.bad) _:=
  RE.bind' (show RE (ev P (call P n) σ b >>= λy=>(match (D.int 0),y.d with|.int i,.int j=>R.iff (aI i&&aI j) (R.ok ((cD i j).map Vl.cl,[]))|_,_=>.bad)) _ from h)
 refine⟨S,?_⟩
 show RE (ev P (call P n) σ b >>= λx=>evs P (call P n) σ .nil >>= λxs=>R.ok (x::xs)) _
 rw[RE.bind]
 refine h.mono λy hy=>?_
 split at hy
 . rename_i i j e1 e2
   cases e1
   obtain⟨c,hy⟩:=hy.iff
   rw[bA] at c
   have c2:=eV c.2
   intro us H1 t1 s1 r1
   obtain⟨u,r',eu,ru,hr⟩:=r1
   rw[show r'=[] from hr] at eu
   subst eu
   refine⟨j,by rw[ru.int e2],c2.1,c2.2,λt'=>hy _ _ t' s1 (rW ?_)⟩
   rw[fL]
   simp
 . exact hy.elim
theorem aGL(M:Mc X P Γ n){a b:E}{ea eb:Expr}{f:Str}{p pos:Pos}(hf:f=("range" : Str))(hg:bL Γ f=true)(ha:PE X ea (WE X P n RT Y old σ a))(hb:PE X eb (WE X P n RT Y old σ b))(hpa:aG ea=true)(hpb:aG eb=true) :
 PI X tg (.Call (.Name f p) [ea,eb] [] pos) (wI X P n RT Y old σ (.rng a b)):=by
 subst hf
 refine oF (aAm (M.gl hg) (M.md.blt _ (by decide +kernel)) (iZ ha (iZ hb uM hpb) hpa) (by rw[aA hpa,aA hpb];rfl) (aA hpb)) λσV H RR t ⟨S,h⟩=>?_
 have h:=RE.bind' (show RE (ev P (call P n) σ a >>= λx=>ev P (call P n) σ b >>= λy=>(match x.d,y.d with|.int i,.int j=>R.iff (aI i&&aI j) (R.ok ((cD i j).map Vl.cl,[]))|_,_=>.bad)) _ from h)
 refine⟨S,?_⟩
 show RE (ev P (call P n) σ a >>= λx=>evs P (call P n) σ (.cons b .nil) >>= λxs=>R.ok (x::xs)) _
 rw[RE.bind]
 refine h.mono λx hx=>?_
 rw[RE.bind]
 show RE (ev P (call P n) σ b >>= λx=>evs P (call P n) σ .nil >>= λxs=>R.ok (x::xs)) _
 rw[RE.bind]
 refine(RE.bind' hx).mono λy hy=>?_
 split at hy
 . rename_i i j e1 e2
   obtain⟨c,hy⟩:=hy.iff
   rw[bA] at c
   have c1:=eV c.1
   have c2:=eV c.2
   intro us H1 t1 s1 r1
   obtain⟨u,r',eu,ru,u2,r2,eu2,ru2,hr⟩:=r1
   rw[show r2=[] from hr] at eu2
   subst eu2
   subst eu
   refine⟨i,j,by rw[ru.int e1,ru2.int e2],⟨c1.1,c1.2,c2.1,c2.2⟩,λt'=>hy _ _ t' s1 (rW ?_)⟩
   rw[fL]
 . exact hy.elim
theorem xK{σV:L2.St}{H:Hp}{x:Vl}{u:V}{ds:List D}(hx:Rv X.K RT Y old σ σV H x u)(h:iU x.d=some ds):∃(k:Bool) (a:Addr) (xs:List V),u=.ref a/\Sq k X.K H a xs/\(k=true->¬ exV RT Y old σ σV x.pa x.al a)/\Reps X.K H (exV RT Y old σ σV x.pa x.al) ds xs:=by
 unfold iU at h
 split at h
 . rename_i ds' d1
   cases h
   obtain⟨a,xs,e,q,nn,r⟩:=hx.lst d1
   exact⟨true,a,xs,e,q,λ_=>nn,r⟩
 . rename_i ds' d1
   cases h
   obtain⟨a,xs,e,q,r⟩:=hx.tup d1
   exact⟨false,a,xs,e,q,(λz=>absurd z bN),r⟩
 . cases h
theorem aJR(M:Mc X P Γ n){a b:E}{ea eb:Expr}{f:Str}{p pos:Pos}{elts:List Expr}{tk:Nat}{tp:Pos}(hf:f=("zip" : Str))(hg:bL Γ f=true)(ha:PE X ea (WE X P n RT Y old σ a))(hb:PE X eb (WE X P n RT Y old σ b))(hpa:aG ea=true)(hpb:aG eb=true) :
 PI X (.Tuple elts tk tp) (.Call (.Name f p) [ea,eb] [] pos) (wI X P n RT Y old σ (.zip a b)):=by
 subst hf
 refine oF (aGE (M.gl hg) (M.md.blt _ (by decide +kernel)) (iZ ha (iZ hb uM hpb) hpa) (by rw[aA hpa,aA hpb];rfl) (aA hpb)) λσV H RR t ⟨S,h⟩=>?_
 have h:=RE.bind' (show RE (ev P (call P n) σ a >>= λx=>ev P (call P n) σ b >>= λy=>(match iU x.d,iU y.d with
  | some as,some bs=>R.ok (items ⟨.non,false,x.pa||y.pa,x.al++y.al⟩ (jL as bs),x.al++y.al)
  | _,_=>.bad)) _ from h)
 refine⟨S,?_⟩
 show RE (ev P (call P n) σ a >>= λx=>evs P (call P n) σ (.cons b .nil) >>= λxs=>R.ok (x::xs)) _
 rw[RE.bind]
 refine h.mono λx hx=>?_
 rw[RE.bind]
 show RE (ev P (call P n) σ b >>= λx=>evs P (call P n) σ .nil >>= λxs=>R.ok (x::xs)) _
 rw[RE.bind]
 refine(RE.bind' hx).mono λy hy=>?_
 split at hy
 . rename_i as bs e1 e2
   intro us H1 t1 s1 r1
   obtain⟨u,r',eu,ru,u2,r2,eu2,ru2,hr⟩:=r1
   rw[show r2=[] from hr] at eu2
   subst eu2
   subst eu
   obtain⟨ka,a1,xs,rfl,qa,na,ra⟩:=xK ru e1
   obtain⟨kb,b1,ys,rfl,qb,nb,rb⟩:=xK ru2 e2
   have S1:=S.grow s1 t1
   have w1:∀c,exV RT Y old σ σV (x.pa||y.pa) (x.al++y.al) c->exV RT Y old σ σV x.pa x.al c:=λc z=>z.mono (λhp=>by rw[hp];rfl) λj hj=>A9 _ hj
   have w2:∀c,exV RT Y old σ σV (x.pa||y.pa) (x.al++y.al) c->exV RT Y old σ σV y.pa y.al c:=λc z=>z.mono (λhp=>by rw[hp,De]) λj hj=>Aq _ hj
   exact⟨ka,kb,a1,b1,xs,ys,rfl,qa,qb,λt'=>hy _ _ t' s1 (aGJ S1 qa qb (λhk z=>na hk (w1 _ z)) (λhk z=>nb hk (w2 _ z)) (ra.weak w1) (rb.weak w2))⟩
 . exact hy.elim
theorem aGM(M:Mc X P Γ n){a:E}{ea:Expr}{f:Str}{p pos:Pos}{elts:List Expr}{tk:Nat}{tp:Pos}(hf:f=("enumerate" : Str))(hg:bL Γ f=true)(ha:PE X ea (WE X P n RT Y old σ a))(hpa:aG ea=true) :
 PI X (.Tuple elts tk tp) (.Call (.Name f p) [ea] [] pos) (wI X P n RT Y old σ (.enum a)):=by
 subst hf
 refine oF (aEm (M.gl hg) (M.md.blt _ (by decide +kernel)) (iZ ha uM hpa) (aA hpa)) λσV H RR t ⟨S,h⟩=>?_
 have h:=RE.bind' (show RE (ev P (call P n) σ a >>= λx=>(match iU x.d with|some as=>R.ok (items x (iM 0 as),x.al)|none=>.bad)) _ from h)
 refine⟨S,?_⟩
 show RE (ev P (call P n) σ a >>= λx=>evs P (call P n) σ .nil >>= λxs=>R.ok (x::xs)) _
 rw[RE.bind]
 refine h.mono λx hx=>?_
 split at hx
 . rename_i as e1
   intro us H1 t1 s1 r1
   obtain⟨u,r',eu,ru,hr⟩:=r1
   rw[show r'=[] from hr] at eu
   subst eu
   obtain⟨k,a1,xs,rfl,qa,na,ra⟩:=xK ru e1
   exact⟨k,a1,xs,rfl,qa,λt'=>hx _ _ t' s1 (aEo (S.grow s1 t1) qa na ra)⟩
 . exact hx.elim
end
section
variable {X:Cx} {P:Pg} {n:Nat} {Γ:Ct} {RT Y old:Addr->Prop} {σ:Sg}
end
def gs:List Nat->TGs
 | []=>aIN
 | i::is=>aFf (pR i) (gs is)
def gT(K:Fg):T->TG
 | .n i=>pR i
 | .t is=>aIO K is.length (gs is)
section
variable {K:Fg} {RT Y old:Addr->Prop} {σ:Sg} {σV:L2.St} {H H':Hp}
theorem set_some{α:Type}{l:List α}{i j:Nat}{x y:α}(e:(l.set i x)[j]? = some y):(i=j/\x=y/\i<l.length)\/(i≠j/\l[j]? = some y):=by
 by_cases hij:i=j
 . subst hij
   have hl:i<(l.set i x).length:=(Ay.mp e).1
   rw[Ap] at hl
   rw[Am hl] at e
   cases e
   exact .inl ⟨rfl,rfl,hl⟩
 . rw[Ac hij] at e
   exact .inr ⟨hij,e⟩
theorem Sx.setSh(S:Sx K RT Y old σ σV H){i:Nat}{pa:Bool}{d:D}{u:V}(h:Rep K H (λa=>RT a\/exB Y old pa a) d u):Sx K RT Y old (σ.set i (.sh pa d)) (σV.set i (some u)) H where
 sh:=λj pa' d' e=>by
  rcases set_some e with⟨rfl,e,hl⟩|⟨hij,e⟩
  . cases e
    exact⟨u,Am (by rw[<-S.len];exact hl),h⟩
  . obtain⟨v,h1,h2⟩:=S.sh j pa' d' e
    exact⟨v,by rw[Ac hij];exact h1,h2⟩
 own:=λj pa' ds e=>by
  rcases set_some e with⟨rfl,e,hl⟩|⟨hij,e⟩
  . cases e
  . obtain⟨a,xs,h1,h2⟩:=S.own j pa' ds e
    exact⟨a,xs,by rw[Ac hij];exact h1,h2⟩
 trk:=S.trk
 yo:=S.yo
 tk:=S.tk
 rt:=S.rt
 inj:=λj j' pa' pa'' ds ds' a e1 e2 e3 e4=>by
  rcases set_some e1 with⟨_,e,_⟩|⟨n1,e1⟩
  . cases e
  rcases set_some e2 with⟨_,e,_⟩|⟨n2,e2⟩
  . cases e
  rw[Ac n1] at e3
  rw[Ac n2] at e4
  exact S.inj j j' pa' pa'' ds ds' a e1 e2 e3 e4
 len:=by rw[Ap,Ap];exact S.len
 lx:=S.lx.imp id (λj ds e=>by
  rcases set_some e with⟨_,z,_⟩|⟨hij,e⟩
  . cases z
  . exact⟨e,Ac hij⟩) (λ_ _ _ _ _ _ e=>e) (λ_ _ e z _=>⟨e,z⟩) (λ_ _ r=>r) (λj ds e=>by
  rcases set_some e with⟨_,z,_⟩|⟨hij,e⟩
  . cases z
  . exact⟨e,Ac hij⟩) (λ_ _ _ _ _ _ e=>e) (λp xs e z=>⟨e,z.1,z.2.1,λk pa' ds q=>by
  rcases set_some q with⟨_,w,_⟩|⟨hij,q⟩
  . cases w
  . rw[Ac hij];exact z.2.2 k pa' ds q⟩) λ_ _ r=>r
 dx:=S.dx.imp id (λj ds e=>by
  rcases set_some e with⟨_,z,_⟩|⟨hij,e⟩
  . cases z
  . exact⟨e,Ac hij⟩) (λ_ _ _ _ _ _ e=>e) (λ_ _ e _ z _=>⟨e,z⟩) (λ_ _ r=>r) λ_ _ r=>r
theorem Rep.out{ex:Addr->Prop}{d:D}{v:V}{a:Addr}(h:Rep K H ex d v)(n:H a=none)(k:K.lookup a=none):Rep K H (λb=>b=a\/ex b) d v:=
 Rep.imp (λ_ _ q=>q) (λb xs nb q=>⟨λz=>z.elim (λz=>by
  subst z
  rcases q with(q|⟨o,q⟩)|⟨o,its,m,q,_⟩
  . rw[n] at q;cases q
  . rw[n] at q;cases q
  . rw[k] at q;cases q) nb,q⟩) (λb ks nb q=>⟨λz=>z.elim (λz=>by rw[z,n] at q;cases q) nb,q⟩) d v h
theorem Reps.out{ex:Addr->Prop}{d:List D}{v:List V}{a:Addr}(h:Reps K H ex d v)(n:H a=none)(k:K.lookup a=none):Reps K H (λb=>b=a\/ex b) d v:=
 Reps.imp (λ_ _ q=>q) (λb xs nb q=>⟨λz=>z.elim (λz=>by
  subst z
  rcases q with(q|⟨o,q⟩)|⟨o,its,m,q,_⟩
  . rw[n] at q;cases q
  . rw[n] at q;cases q
  . rw[k] at q;cases q) nb,q⟩) (λb ks nb q=>⟨λz=>z.elim (λz=>by rw[z,n] at q;cases q) nb,q⟩) d v h
theorem Sx.storeOwn(S:Sx K RT Y old σ σV H){i:Nat}{a:Addr}{xs:List V}{ds:List D}{pa:Bool}(s:aF H H')(t:Tk K H')(hn:H a=none)(ha:H' a=some (.lst xs))(r:Reps K H' (λb=>(RT b\/b=a)\/exB Y old pa b) ds xs) :
 Sx K (λb=>RT b\/b=a) Y old (σ.set i (.own pa ds)) (σV.set i (some (.ref a))) H' where
 sh:=λj pa' d' e=>by
  rcases set_some e with⟨rfl,e,hl⟩|⟨hij,e⟩
  . cases e
  . obtain⟨v,h1,h2⟩:=S.sh j pa' d' e
    refine⟨v,by rw[Ac hij];exact h1,((h2.out hn (t a (by rw[ha];simp))).grow s).weak λb z=>?_⟩
    rcases z with(z|z)|z
    . exact .inr (.inl z)
    . exact .inl z
    . exact .inr (.inr z)
 own:=λj pa' ds' e=>by
  rcases set_some e with⟨rfl,e,hl⟩|⟨hij,e⟩
  . cases e
    exact⟨a,xs,Am (by rw[<-S.len];exact hl),ha,.inr rfl,λz=>S.trk a (.inr (.inr z)) hn,r⟩
  . obtain⟨a',xs',h1,h2,h3,h4,h5⟩:=S.own j pa' ds' e
    refine⟨a',xs',by rw[Ac hij];exact h1,s _ _ h2,.inl h3,h4,((h5.out hn (t a (by rw[ha];simp))).grow s).weak λb z=>?_⟩
    rcases z with(z|z)|z
    . exact .inr (.inl z)
    . exact .inl z
    . exact .inr (.inr z)
 trk:=λb z q=>by
  rcases z with(z|z)|z
  . exact S.trk b (.inl z) (s.free q)
  . rw[z,ha] at q;cases q
  . exact S.trk b (.inr z) (s.free q)
 yo:=S.yo
 tk:=t
 rt:=λb z=>by
  rcases z with z|z
  . exact(S.rt b z).grow s
  . rw[z];exact .lst ha
 inj:=λj j' pa' pa'' ds1 ds2 c e1 e2 e3 e4=>by
  have fr:∀{j:Nat} {pa:Bool} {ds:List D},σ[j]? = some (.own pa ds)->σV[j]? = some (some (.ref a))->False:=λ{j pa ds} e q=>by
   obtain⟨a',xs',h1,h2,_⟩:=S.own j pa ds e
   rw[q] at h1
   cases h1
   rw[hn] at h2;cases h2
  rcases set_some e1 with⟨rfl,e,hl⟩|⟨n1,e1⟩
  . rcases set_some e2 with⟨rfl,_,_⟩|⟨n2,e2⟩
    . rfl
    . rw[Am (by rw[<-S.len];exact hl)] at e3
      cases e3
      rw[Ac n2] at e4
      exact(fr e2 e4).elim
  . rw[Ac n1] at e3
    rcases set_some e2 with⟨rfl,e,hl⟩|⟨n2,e2⟩
    . rw[Am (by rw[<-S.len];exact hl)] at e4
      cases e4
      exact(fr e1 e3).elim
    . rw[Ac n2] at e4
      exact S.inj j j' pa' pa'' ds1 ds2 c e1 e2 e3 e4
 len:=by rw[Ap,Ap];exact S.len
 lx:=S.lx.imp id (λj ds e=>by
  rcases set_some e with⟨_,z,_⟩|⟨hij,e⟩
  . cases z
  . exact⟨e,Ac hij⟩) (λ_ _ _ _ _ _ e=>e) (λb ys e z _=>⟨s _ _ e,.inl z⟩) (λds ys r=>((r.out hn (t a (by rw[ha];simp))).grow s).weak λb z=>by
    rcases z with(z|z)|z
    . exact .inr (.inl z)
    . exact .inl z
    . exact .inr (.inr z)) (λj ds e=>by
  rcases set_some e with⟨_,z,_⟩|⟨hij,e⟩
  . cases z
  . exact⟨e,Ac hij⟩) (λ_ _ _ _ _ _ e=>e) (λp ys e z=>⟨s _ _ e,.inl z.1,z.2.1,λk pa' ds q v=>by
  rcases set_some q with⟨rfl,w,hl⟩|⟨hij,q⟩
  . rw[Am (by rw[<-S.len];exact hl)] at v
    cases v
    rw[hn] at e;cases e
  . rw[Ac hij] at v;exact z.2.2 k pa' ds q v⟩) λ_ _ r=>aF.seqT s r
 dx:=S.dx.imp id (λj ds e=>by
  rcases set_some e with⟨_,z,_⟩|⟨hij,e⟩
  . cases z
  . exact⟨e,Ac hij⟩) (λ_ _ _ _ _ _ e=>e) (λb o e _ z _=>⟨s _ _ e,.inl z⟩) (λds ys r=>((r.out hn (t a (by rw[ha];simp))).grow s).weak λb z=>by
    rcases z with(z|z)|z
    . exact .inr (.inl z)
    . exact .inl z
    . exact .inr (.inr z)) λ_ _ r=>aF.seqT s r
theorem eW{v:Vl}(h:v.fr=false):v.slot=.sh v.pa v.d:=by
 unfold Vl.slot
 rw[h]
theorem yX{v:Vl}{ds:List D}(h:v.fr=true)(hd:v.d=.lst ds):v.slot=.own v.pa ds:=by
 unfold Vl.slot
 rw[h,hd]
theorem Sx.store(S:Sx K RT Y old σ σV H){v:Vl}{u:V}(ro:Ro K RT Y old σ σV H H' v u)(t:Tk K H')(i:Nat) :
 ∃RT',Sx K RT' Y old ((freeze σ v.al).set i v.slot) (σV.set i (some u)) H'/\∀b,RT' b->RT b\/H b=none:=by
 by_cases hf:v.fr=true
 . obtain⟨s,h⟩:=ro
   rw[if_pos hf] at h
   obtain⟨a,xs,ds,e1,e2,e3,e4,r⟩:=h
   subst e1
   rw[yX hf e2]
   refine⟨_,(S.frz v.al).storeOwn s t e3 e4 (r.weak λb z=>?_),λb z=>z.elim (λz=>.inl z.1) λz=>.inr (by rw[z];exact e3)⟩
   rcases z with(z|z)|z
   . exact .inr (.inl z)
   . exact .inl z
   . exact .inr (.inr z)
 . rw[eW (by simpa using hf)]
   exact⟨_,((S.grow ro.1 t).frz v.al).setSh (ro.rv S),λb z=>.inl z.1⟩
theorem aFv:∀{is:List Nat} {us:List V} {σV:L2.St} {H:Hp} {Q:L2.St->Hp->Prop},is.length=us.length->Q ((is.zip us).foldl (λs p=>s.set p.1 (some p.2)) σV) H->gs is us σV H Q
 | [],[],_,_,_,_,h=>⟨rfl,h⟩
 | [],_::_,_,_,_,e,_=>by simp at e
 | _::_,[],_,_,_,e,_=>by simp at e
 | i::is,u::us,σV,H,Q,e,h=>⟨u,us,rfl,aFv (is:=is) (us:=us) (by simpa using e) h⟩
theorem uS{v:Vl}{d:D}:(v.sub d).slot=.sh (!noL d&&v.pa) d:=by
 rw[eW oE]
 unfold Vl.sub Vl.cl
 split
 . rename_i h;rw[h];rfl
 . rename_i h
   have:noL d=false:=by simpa using h
   rw[this];rfl
theorem Sx.setAll{v:Vl}:∀{is:List Nat} {ds:List D} {us:List V} {σ:Sg} {σV:L2.St},Sx K RT Y old σ σV H->Reps K H (λa=>RT a\/exB Y old v.pa a) ds us ->
 Sx K RT Y old ((is.zip ds).foldl (λσ p=>σ.set p.1 (v.sub p.2).slot) σ) ((is.zip us).foldl (λs p=>s.set p.1 (some p.2)) σV) H
 | [],_,_,_,_,S,_=>S
 | _::_,[],us,_,_,S,r=>by rw[show us=[] from r];exact S
 | i::is,d::ds,us,σ,σV,S,r=>by
  obtain⟨x,r',e,h1,h2⟩:=r
  subst e
  refine Sx.setAll (v:=v) (is:=is) (ds:=ds) (us:=r') ?_ h2
  show Sx K RT Y old (σ.set i (v.sub d).slot) (σV.set i (some x)) H
  rw[uS]
  refine S.setSh ?_
  cases hn:noL d with
  | true=>exact Rep.free d x hn h1
  | false=>exact h1
theorem lB{α:Type}{β:Type}(f:β->α):∀{is:List Nat} {bs:List β} {l:List α} {j:Nat},j∉is->((is.zip bs).foldl (λs p=>s.set p.1 (f p.2)) l)[j]? = l[j]?
 | [],_,_,_,_=>rfl
 | _::_,[],_,_,_=>rfl
 | i::is,b::bs,l,j,h=>by
  have h':i≠j/\j∉is:=by
   refine⟨λe=>h (by simp[e]),λz=>h (Ae _ z)⟩
  rw[Bn,Cb,lB f (is:=is) (bs:=bs) h'.2,Ac h'.1]
theorem uT{α:Type}{β:Type}(f:β->α):∀{is:List Nat} {bs:List β} {l:List α},((is.zip bs).foldl (λs p=>s.set p.1 (f p.2)) l).length=l.length
 | [],_,_=>rfl
 | _::_,[],_=>rfl
 | i::is,b::bs,l=>by rw[Bn,Cb,uT f (is:=is) (bs:=bs),Ap]
theorem fold_mem{α:Type}{β:Type}(f:β->α):∀{is:List Nat} {bs:List β} {l:List α} {j:Nat} {x:α},((is.zip bs).foldl (λs p=>s.set p.1 (f p.2)) l)[j]? = some x->l[j]? = some x\/∃b,x=f b
 | [],_,_,_,_,h=>.inl h
 | _::_,[],_,_,_,h=>.inl h
 | i::is,b::bs,l,j,x,h=>by
  rw[Bn,Cb] at h
  rcases fold_mem f (is:=is) (bs:=bs) h with q|q
  . rcases set_some q with⟨_,e,_⟩|⟨_,e⟩
    . exact .inr ⟨b,e.symm⟩
    . exact .inl e
  . exact .inr q
theorem oG{v:Vl}{is:List Nat}{σ2:Sg}(e:bC σ v (.t is)=.ok σ2):∃ds,v.d=.tup ds/\ds.length=is.length/\σ2=(is.zip ds).foldl (λσ p=>σ.set p.1 (v.sub p.2).slot) σ:=by
 unfold bC at e
 simp only at e
 split at e
 . rename_i ds hd
   split at e
   . rename_i hl
     cases e
     exact⟨ds,hd,hl,rfl⟩
   . cases e
 . cases e
theorem oH{v:Vl}{i:Nat}{σ2:Sg}(e:bC σ v (.n i)=.ok σ2):σ2=σ.set i v.slot:=by
 cases(show R.ok (σ.set i v.slot)=R.ok σ2 from e)
 rfl
theorem aCj{v:Vl}{t:T}{σ2:Sg}{j:Nat}(e:bC σ v t=.ok σ2)(h:j∉tIx t):σ2[j]? = σ[j]? := by
 cases t with
 | n i=>
  rw[oH e]
  exact Ac λz=>h (by simp[tIx,z])
 | t is=>
  obtain⟨ds,_,_,e⟩:=oG e
  rw[e]
  exact lB (λd=>(v.sub d).slot) h
theorem uU{v:Vl}{t:T}{σ2:Sg}(e:bC σ v t=.ok σ2):σ2.length=σ.length:=by
 cases t with
 | n i=>rw[oH e,Ap]
 | t is=>
  obtain⟨ds,_,_,e⟩:=oG e
  rw[e]
  exact uT (λd=>(v.sub d).slot)
theorem aCk{v:Vl}{t:T}{σ2:Sg}{j:Nat}{pa:Bool}{ds:List D}(hf:v.fr=false)(e:bC σ v t=.ok σ2)(h:σ2[j]? = some (.own pa ds)):σ[j]? = some (.own pa ds):=by
 cases t with
 | n i=>
  rw[oH e,eW hf] at h
  rcases set_some h with⟨_,e,_⟩|⟨_,e⟩
  . cases e
  . exact e
 | t is=>
  obtain⟨ds',_,_,e⟩:=oG e
  rw[e] at h
  rcases fold_mem (λd=>(v.sub d).slot) h with q|⟨b,q⟩
  . exact q
  . rw[uS] at q;cases q
theorem yY(S:Sx K RT Y old σ σV H){t:T}{v:Vl}{u:V}{Q:L2.St->Hp->Prop}{σ2:Sg}(hfr:v.fr=false)(h:Rep K H (λa=>RT a\/exB Y old v.pa a) v.d u)(e:bC σ v t=.ok σ2)
 (q:∀σ2V,Sx K RT Y old σ2 σ2V H->(∀j,j∉tIx t->σ2V[j]? = σV[j]?)->Q σ2V H):gT K t u σV H Q:=by
 cases t with
 | n i=>
  rw[oH e,eW hfr] at q
  exact q _ (S.setSh h) λj hj=>Ac λz=>hj (by simp[tIx,z])
 | t is=>
  obtain⟨ds,hd,hl,e⟩:=oG e
  rw[hd] at h
  obtain⟨a,xs,rfl,hq,r⟩:=h
  have l2:=r.length
  refine⟨a,xs,rfl,hq,by omega,aFv (by omega) (q _ ?_ λj hj=>?_)⟩
  . rw[e];exact S.setAll r
  . exact lB (λd=>some d) hj
end
section
variable {X:Cx} {P:Pg} {Γ:Ct} {n:Nat} {RT Y old:Addr->Prop} {σ:Sg} {tg:Expr} {pos:Pos}
theorem uV(M:Mc X P Γ n):∀{is:List Nat} {es:List Expr},is.length=es.length->((is.zip es).all λp=>match p.2 with|.Name x _=>aR Γ p.1 x|_=>false)=true ->
 PGs X es (gs is)/\(assignEach es X.env).length=is.length/\(assignEach es X.env).findIdx? (·.1)=none
 | [],[],_,_=>⟨aDF,rfl,rfl⟩
 | [],_::_,e,_=>by simp at e
 | _::_,[],e,_=>by simp at e
 | i::is,e::es,hl,h=>by
  rw[Bn,List.all_cons,bA] at h
  obtain⟨h1,h2,h3⟩:=uV M (is:=is) (es:=es) (by simpa using hl) h.2
  cases e with
  | Name x p=>
   have hs:aR Γ i x=true:=h.1
   unfold aR at hs
   simp only[bA,D9] at hs
   have e1:assignEach (.Name x p::es) X.env=(false,assign (.Name x p) X.env)::assignEach es X.env:=rfl
   refine⟨aBr (yG M.nd (by rw[M.N];exact hs.1.1) (M.loc hs.1.2) (M.st x hs.1.2)) h1 (by rw[e1];rfl),?_,?_⟩
   . rw[e1,lC,lC,h2]
   . rw[e1,List.findIdx?_cons]
     simp[h3]
  | _=>cases h.1
theorem aAO(M:Mc X P Γ n){t:T}(h:iW Γ t tg=true):PG X tg (gT X.K t):=by
 cases t with
 | n i=>
  cases tg with
  | Name x p=>
   have hs:aR Γ i x=true:=h
   unfold aR at hs
   simp only[bA,D9] at hs
   exact yG M.nd (by rw[M.N];exact hs.1.1) (M.loc hs.1.2) (M.st x hs.1.2)
  | _=>cases h
 | t is=>
  cases tg with
  | Tuple es k p=>
   have h:(is.length==es.length&&(is.zip es).all λp=>match p.2 with|.Name x _=>aR Γ p.1 x|_=>false)=true:=h
   rw[bA,D9] at h
   obtain⟨h1,h2,h3⟩:=uV M h.1 h.2
   exact aFY M.calm h1 h2 h3
  | _=>cases h
def ch0(k:Nat)(caps:List Nat)(σ:Sg):Sg:=List.replicate k .dead++caps.map λi=>(σ[i]?).getD .dead
theorem ch0_get{k:Nat}{caps:List Nat}{σ:Sg}{j:Nat}{s:Sl}(h:(ch0 k caps σ)[j]? = some s):s=.dead\/∃j' i,j=k+j'/\caps[j']? = some i/\σ[i]? = some s:=by
 unfold ch0 at h
 by_cases hj:j<k
 . rw[Bz (by simpa using hj),Ci,if_pos hj] at h
   cases h
   exact .inl rfl
 . rw[Bk (by simpa using hj),Bc,Ax] at h
   cases e:caps[j-k]? with
   | none=>rw[e] at h;cases h
   | some i=>
    rw[e] at h
    have h':(σ[i]?).getD .dead=s:=Ai h
    cases q:σ[i]? with
    | none=>rw[q] at h';exact .inl h'.symm
    | some z=>rw[q] at h';exact .inr ⟨j-k,i,by omega,e,by rw[q];exact congrArg some h'⟩
theorem uW{k:Nat}{caps:List Nat}{σ:Sg}{j:Nat}{s:Sl}(hj:j<k)(h:(ch0 k caps σ)[j]? = some s):s=.dead:=by
 unfold ch0 at h
 rw[Bz (by simpa using hj),Ci,if_pos hj] at h
 cases h
 rfl
theorem jU{k:Nat}{caps:List Nat}{σV:L2.St}{j i:Nat}{v:V}(e:caps[j]? = some i)(h:σV[i]? = some (some v)):(fJ k caps σV)[k+j]? = some (some v):=by
 unfold fJ
 rw[Bk (by simp),Bc,Ax,A0,e]
 show some ((σV[i]?).getD none)=_
 rw[h];rfl
theorem jV{k:Nat}{caps:List Nat}{σV:L2.St}{j i:Nat}{v:V}(e:caps[j]? = some i)(h:(fJ k caps σV)[k+j]? = some (some v)):σV[i]? = some (some v):=by
 unfold fJ at h
 rw[Bk (by simp),Bc,Ax,A0,e] at h
 have h':(σV[i]?).getD none=some v:=Ai h
 cases q:σV[i]? with
 | none=>rw[q] at h';cases h'
 | some z=>rw[q] at h';exact congrArg some h'
theorem eX{α:Type}:∀{l:List α},l.Nodup->∀{i j:Nat} {x:α},l[i]? = some x->l[j]? = some x->i=j
 | [],_,_,_,_,h,_=>by simp at h
 | a::l,hn,0,0,_,_,_=>rfl
 | a::l,hn,0,j+1,x,h1,h2=>by
  have e:a=x:=by simpa using h1
  have:x∈l:=mG (by simpa using h2)
  subst e
  exact absurd this (Bu.mp hn).1
 | a::l,hn,i+1,0,x,h1,h2=>by
  have e:a=x:=by simpa using h2
  have:x∈l:=mG (by simpa using h1)
  subst e
  exact absurd this (Bu.mp hn).1
 | a::l,hn,i+1,j+1,x,h1,h2=>congrArg (·+1) (eX (Bu.mp hn).2 (i:=i) (j:=j) (x:=x) (by simpa using h1) (by simpa using h2))
theorem Sx.child{K:Fg}{σV:L2.St}{H:Hp}(S:Sx K RT Y old σ σV H){k:Nat}{caps:List Nat}(nd:caps.Nodup):Sx K RT Y old (ch0 k caps σ) (fJ k caps σV) H where
 sh:=λj pa d e=>by
  rcases ch0_get e with z|⟨j',i,rfl,hc,hs⟩
  . cases z
  . obtain⟨v,h1,h2⟩:=S.sh i pa d hs
    exact⟨v,jU hc h1,h2⟩
 own:=λj pa ds e=>by
  rcases ch0_get e with z|⟨j',i,rfl,hc,hs⟩
  . cases z
  . obtain⟨a,xs,h1,h2⟩:=S.own i pa ds hs
    exact⟨a,xs,jU hc h1,h2⟩
 trk:=S.trk
 yo:=S.yo
 tk:=S.tk
 rt:=S.rt
 inj:=λj1 j2 pa pa' ds ds' a e1 e2 e3 e4=>by
  rcases ch0_get e1 with z|⟨j1',i1,rfl,hc1,hs1⟩
  . cases z
  rcases ch0_get e2 with z|⟨j2',i2,rfl,hc2,hs2⟩
  . cases z
  have:=S.inj i1 i2 pa pa' ds ds' a hs1 hs2 (jV hc1 e3) (jV hc2 e4)
  subst this
  rw[eX nd hc1 hc2]
 len:=by
  unfold ch0 fJ
  rw[lA,lA,lM,lM,Bc,Bc]
 lx:=S.lx.imp (λj=>(caps[j-k]?).getD 0) (λj ds e=>by
  rcases ch0_get e with z|⟨j',i,rfl,hc,hs⟩
  . cases z
  . rw[A0,hc]
    refine⟨hs,?_⟩
    obtain⟨a,xs,h1,_⟩:=S.lx.at' i ds hs
    rw[jU hc h1]
    exact h1.symm) (λj1 j2 ds ds' e1 e2 q=>by
  rcases ch0_get e1 with z|⟨j1',i1,rfl,hc1,_⟩
  . cases z
  rcases ch0_get e2 with z|⟨j2',i2,rfl,hc2,_⟩
  . cases z
  rw[A0,A0,hc1,hc2] at q
  have q:i1=i2:=q
  subst q
  rw[eX nd hc1 hc2]) (λ_ _ e z _=>⟨e,z⟩) (λ_ _ r=>r) (λj ds e=>by
  rcases ch0_get e with z|⟨j',i,rfl,hc,hs⟩
  . cases z
  . rw[A0,hc]
    refine⟨hs,?_⟩
    obtain⟨a,xs,h1,_⟩:=S.lx.at2 i ds hs
    rw[jU hc h1]
    exact h1.symm) (λj1 j2 ds ds' e1 e2 q=>by
  rcases ch0_get e1 with z|⟨j1',i1,rfl,hc1,_⟩
  . cases z
  rcases ch0_get e2 with z|⟨j2',i2,rfl,hc2,_⟩
  . cases z
  rw[A0,A0,hc1,hc2] at q
  have q:i1=i2:=q
  subst q
  rw[eX nd hc1 hc2]) (λp xs e z=>⟨e,z.1,z.2.1,λj pa ds q w=>by
  rcases ch0_get q with v|⟨j',i,rfl,hc,hs⟩
  . cases v
  . exact z.2.2 i pa ds hs (jV hc w)⟩) λ_ _ r=>r
 dx:=S.dx.imp (λj=>(caps[j-k]?).getD 0) (λj ds e=>by
  rcases ch0_get e with z|⟨j',i,rfl,hc,hs⟩
  . cases z
  . rw[A0,hc]
    refine⟨hs,?_⟩
    obtain⟨a,h1,_⟩:=S.dx.at' i ds hs
    rw[jU hc h1]
    exact h1.symm) (λj1 j2 ds ds' e1 e2 q=>by
  rcases ch0_get e1 with z|⟨j1',i1,rfl,hc1,_⟩
  . cases z
  rcases ch0_get e2 with z|⟨j2',i2,rfl,hc2,_⟩
  . cases z
  rw[A0,A0,hc1,hc2] at q
  have q:i1=i2:=q
  subst q
  rw[eX nd hc1 hc2]) (λ_ _ e _ z _=>⟨e,z⟩) (λ_ _ r=>r) λ_ _ r=>r
theorem Sx.forget{K:Fg}{σ':Sg}{σV:L2.St}{H:Hp}(S:Sx K RT Y old σ σV H)(hl:σ'.length=σ.length)(h:∀(j:Nat) (s:Sl),σ'[j]? = some s->s=.dead\/σ[j]? = some s):Sx K RT Y old σ' σV H where
 sh:=λj pa d e=>by
  rcases h j _ e with z|z
  . cases z
  . exact S.sh j pa d z
 own:=λj pa d e=>by
  rcases h j _ e with z|z
  . cases z
  . exact S.own j pa d z
 trk:=S.trk
 yo:=S.yo
 tk:=S.tk
 rt:=S.rt
 inj:=λj1 j2 pa pa' ds ds' a e1 e2 e3 e4=>by
  rcases h j1 _ e1 with z|z1
  . cases z
  rcases h j2 _ e2 with z|z2
  . cases z
  exact S.inj j1 j2 pa pa' ds ds' a z1 z2 e3 e4
 len:=by rw[hl];exact S.len
 lx:=S.lx.imp id (λj ds e=>(h j _ e).elim (λz=>by cases z) λz=>⟨z,rfl⟩) (λ_ _ _ _ _ _ e=>e) (λ_ _ e z _=>⟨e,z⟩) (λ_ _ r=>r) (λj ds e=>(h j _ e).elim (λz=>by cases z) λz=>⟨z,rfl⟩) (λ_ _ _ _ _ _ e=>e) (λp xs e z=>⟨e,z.1,z.2.1,λk pa ds q=>(h k _ q).elim (λw=>by cases w) λw=>z.2.2 k pa ds w⟩) λ_ _ r=>r
 dx:=S.dx.imp id (λj ds e=>(h j _ e).elim (λz=>by cases z) λz=>⟨z,rfl⟩) (λ_ _ _ _ _ _ e=>e) (λ_ _ e _ z _=>⟨e,z⟩) (λ_ _ r=>r) λ_ _ r=>r
def wTs(X:Cx)(P:Pg)(n:Nat)(RT Y old:Addr->Prop)(σ:Sg)(cs:Es):TT:=λσV H Q=>Sx X.K RT Y old σ σV H/\RE (tsts P (call P n) σ cs) λk=>∀H',Tk X.K H'->aF H H'->Q k H'
theorem aGN:PTs X [] (wTs X P n RT Y old σ .nil):=λpins s σV H Q I ⟨S,h⟩=>yT pins s σV H Q I ((show ∀H',Tk X.K H'->aF H H'->Q true H' from h) H I.tk (aF.refl H))
theorem aGO{c:E}{e:Expr}(h:PT X e (WT X P n RT Y old σ c)):PTs X [e] (wTs X P n RT Y old σ (.cons c .nil)):=λpins s σV H Q I ⟨S,hh⟩=>aEg h pins s σV H Q I ⟨S,by
 have hh:=RE.bind' (show RE (tst P (call P n) σ c >>= λx=>if x=true then tsts P (call P n) σ .nil else R.ok false) _ from hh)
 refine hh.mono λk hk=>?_
 cases k with
 | true=>exact hk
 | false=>exact hk⟩
theorem Rvs.append{K:Fg}{σV:L2.St}{H:Hp}:∀{vs ws:List Vl} {us zs:List V},Rvs K RT Y old σ σV H vs us->Rvs K RT Y old σ σV H ws zs->Rvs K RT Y old σ σV H (vs++ws) (us++zs)
 | [],_,_,_,h,q=>by rw[show _=[] from h];exact q
 | v::vs,_,_,_,h,q=>by
  obtain⟨u,r,e,h1,h2⟩:=h
  subst e
  exact⟨u,_,rfl,h1,Rvs.append h2 q⟩
def lv(k:Nat)(caps al:List Nat)(v:Vl):Vl:=⟨v.d,false,v.pa,al++v.al.filterMap λj=>caps[j-k]?⟩
theorem uX{f:Vl->R (Option Vl)}{x:Vl}{xs rs:List Vl}(h:dC f (x::xs)=.ok rs):∃y ys,f x=.ok y/\dC f xs=.ok ys/\rs=(match y with|some y=>y::ys|none=>ys):=by
 have h:(f x >>= λy=>dC f xs >>= λys=>(match y with|some y=>R.ok (y::ys)|none=>R.ok ys))=R.ok rs:=h
 cases q1:f x with
 | ok y=>
  rw[q1] at h
  have h:(dC f xs >>= λys=>(match y with|some y=>R.ok (y::ys)|none=>R.ok ys))=R.ok rs:=h
  cases q2:dC f xs with
  | ok ys=>
   rw[q2] at h
   refine⟨y,ys,rfl,rfl,?_⟩
   cases y with
   | none=>cases(show R.ok ys=R.ok rs from h);rfl
   | some y=>cases(show R.ok (y::ys)=R.ok rs from h);rfl
  | exc z=>rw[q2] at h;cases h
  | bad=>rw[q2] at h;cases h
 | exc z=>rw[q1] at h;cases h
 | bad=>rw[q1] at h;cases h
theorem R.bind_ok{α β:Type}{x:R α}{f:α->R β}{b:β}(h:(x >>= f)=.ok b):∃a,x=.ok a/\f a=.ok b:=by
 cases x with
 | ok a=>exact⟨a,rfl,h⟩
 | exc z=>cases h
 | bad=>cases h
theorem aCl{k:Nat}{caps:List Nat}{t:T}{it:Hp.It}{cond:Es}{elt:E}(hnd:caps.Nodup)(hk:∀i∈tIx t,i<k){σV:L2.St}{H:Hp}{Q:VK}(hw:WE X P n RT Y old σ (.comp k caps t it cond elt) σV H Q) :
 aBV k caps (wI X P n RT Y old σ it) (gT X.K t) (λσV H Q=>∃RT Y old σ1,wTs X P n RT Y old σ1 cond σV H Q) (λσV H Q=>∃RT Y old σ1,WE X P n RT Y old σ1 elt σV H Q) σV H λv H'=>Tk X.K H'->Q v H':=by
 obtain⟨S,h⟩:=hw
 let f:List Nat->Vl->R (Option Vl):=λal x=>bC (ch0 k caps (freeze σ al)) x t >>= λσ1=>tsts P (call P n) σ1 cond >>= λb=>if b=true then (ev P (call P n) σ1 elt >>= λy=>R.ok (some y)) else R.ok none
 have h:=RE.bind' (show RE (walk P (call P n) σ it >>= λxs=>dC (f xs.2) xs.1 >>= λvs=>R.iff (decide (vs.length<=lim)) (R.ok (iN k caps xs.2 vs))) (Wn X RT Y old σ σV H Q) from h)
 refine⟨S,h.mono λxs hx J H1 t1 s1 ok=>?_⟩
 obtain⟨vs,evs,hv⟩:=(RE.bind' hx).eq
 obtain⟨hl,hq⟩:=hv.iff
 have hl:=As hl
 have hq:Wn X RT Y old σ σV H Q (iN k caps xs.2 vs):=hq
 have S1:=S.grow s1 t1
 have Sf:=S1.frz xs.2
 refine⟨λi m ys σ1V Hc=>m=xs.1.length-i/\i<=xs.1.length/\aF H1 Hc/\Tk X.K Hc/\Sx X.K (rtF RT σ σV xs.2) Y old (ch0 k caps (freeze σ xs.2)) σ1V Hc/\(∀j,k<=j->σ1V[j]? = (fJ k caps σV)[j]?) /\
  ∃ws rs,vs=ws++rs/\dC (f xs.2) (xs.1.drop i)=.ok rs/\Rvs X.K RT Y old σ σV Hc (ws.map (lv k caps xs.2)) ys,⟨_,rfl,Bj _,aF.refl _,t1,Sf.child hnd,λ_ _=>rfl,[],vs,rfl,evs,rfl⟩,?_⟩
 rintro i m ys σ1V Hc ⟨hm,hi,sc,tc,Sc,hcap,ws,rs,evs',ego,rvs⟩
 have okc:=ok.ok (λ_=>False) (λ_ z=>z.elim) i Hc (Kp.same sc)
 have hly:=rvs.length
 rw[lM] at hly
 have hws:ws.length<=vs.length:=by rw[evs',lA];omega
 by_cases hlt:i<xs.1.length
 . refine .inr ⟨okc.1 hlt,by rw[<-hly,Be];have:lim=1000000:=rfl;omega,λx H' hy=>?_⟩
   have hxi:xs.1[i]? = some xs.1[i]:=An hlt
   obtain⟨sm,tkf,rv⟩:=okc.2.2 x H' hy xs.1[i] hxi
   have rv:Rep X.K H' (exV RT Y old σ σV xs.1[i].pa xs.1[i].al) xs.1[i].d x:=Rep.weak rv λa z=>.inl z
   rw[Dt hlt] at ego
   obtain⟨yo,ys',ef,ego',ers⟩:=uX ego
   obtain⟨σ1,eσ,ef⟩:=R.bind_ok ef
   obtain⟨b,eb,ef⟩:=R.bind_ok ef
   have hmem:xs.1[i]∈xs.1:=Bl hlt
   have hnf:=ok.nofr _ hmem
   have rep:Rep X.K H' (λa=>rtF RT σ σV xs.2 a\/exB Y old xs.1[i].pa a) xs.1[i].d x:=Rep.weak rv λa z=>by
    rcases z with z|z
    . exact .inl ⟨z.1,λq=>z.2 (q.mono (ok.sub _ hmem))⟩
    . exact .inr z
   refine yY (Sc.grow sm (tkf tc)) hnf rep eσ λσ2V S2 hkeep=>⟨_,_,_,σ1,S2,?_⟩
   rw[eb]
   intro H3 t3 s3
   have capk:∀j,k<=j->σ2V[j]? = (fJ k caps σV)[j]? := λj hj=>by
    rw[hkeep j λz=>absurd (hk j z) (Nat.not_lt.mpr hj),hcap j hj]
   have back:∀{H5:Hp},Sx X.K (rtF RT σ σV xs.2) Y old σ1 σ2V H5->Sx X.K (rtF RT σ σV xs.2) Y old (ch0 k caps (freeze σ xs.2)) σ2V H5:=λ{H5} S5=>S5.forget (uU eσ).symm λj s hs=>by
    by_cases hj:j∈tIx t
    . exact .inl (uW (hk j hj) hs)
    . exact .inr (by rw[aCj eσ hj];exact hs)
   cases b with
   | false=>
    rw[if_neg bN] at ef ⊢
    cases(show R.ok none=R.ok yo from ef)
    have ers:rs=ys':=ers
    subst ers
    exact⟨_,by omega,rfl,hlt,sc.trans (sm.trans s3),t3,back (S2.grow s3 t3),capk,ws,rs,evs',ego',rvs.grow (sm.trans s3)⟩
   | true=>
    rw[if_pos rfl] at ef ⊢
    obtain⟨y,ey,ef⟩:=R.bind_ok ef
    cases(show R.ok (some y)=R.ok yo from ef)
    have ers:rs=y::ys':=ers
    subst ers
    refine⟨_,_,_,σ1,S2.grow s3 t3,?_⟩
    rw[ey]
    intro u H4 t4 ro4
    have s4:=ro4.1
    have rv4:Rep X.K H4 (exV (rtF RT σ σV xs.2) Y old σ1 σ2V y.pa y.al) y.d u:=ro4.rv (S2.grow s3 t3)
    refine⟨_,by omega,rfl,hlt,sc.trans (sm.trans (s3.trans s4)),t4,back ((S2.grow s3 t3).grow s4 t4),capk,ws++[y],ys',by rw[evs'];simp,ego',?_⟩
    rw[Cc]
    refine(rvs.grow (sm.trans (s3.trans s4))).append ⟨u,[],rfl,?_,rfl⟩
    show Rep X.K H4 (exV RT Y old σ σV y.pa (xs.2++y.al.filterMap λj=>caps[j-k]?)) y.d u
    refine rv4.weak λc z=>?_
    rcases z with⟨z1,z2⟩|z
    . refine .inl ⟨⟨z1,λq=>z2 (q.mono λj hj=>A9 _ hj)⟩,λq=>z2 ?_⟩
      obtain⟨j,hj,⟨pa,ds,ho⟩,hV⟩:=q
      have ho:=aCk hnf eσ ho
      rcases ch0_get ho with z|⟨j',i',rfl,hc,hs⟩
      . cases z
      . rw[capk _ (Nat.le_add_right _ _)] at hV
        refine⟨i',Aq _ (Co.mpr ⟨k+j',hj,by rw[A0];exact hc⟩),⟨pa,ds,(dG hs).1⟩,jV hc hV⟩
    . exact .inr z
 . have hie:i=xs.1.length:=by omega
   subst hie
   rw[List.drop_length] at ego
   cases(show R.ok []=R.ok rs from ego)
   rw[Bt] at evs'
   subst evs'
   refine .inl ⟨okc.2.1 (Ag _),by rw[<-hly];exact dR hl,λp hp t'=>hq _ _ t' ?_⟩
   have Sc':=S.grow (s1.trans sc) tc
   have emap:(vs.map (lv k caps xs.2)).map (·.d)=vs.map (·.d):=by rw[Bv];rfl
   have rr:Reps X.K Hc (exV RT Y old σ σV (aQ vs) (xs.2++(bR vs).filterMap λj=>caps[j-k]?)) (vs.map (·.d)) ys:=by
    rw[<-emap]
    refine rvs.reps λv hv=>?_
    obtain⟨w,hw,e⟩:=A2.mp hv
    subst e
    refine⟨λz=>gI hw z,λj hj=>?_⟩
    rcases A3.mp hj with z|z
    . exact A9 _ z
    . obtain⟨j',hj',e⟩:=Co.mp z
      exact Aq _ (Co.mpr ⟨j',lV hw j' hj',e⟩)
   unfold iN
   split
   . rename_i hn
     exact(Ro.fresh hp t' rfl rfl Sc' (Reps.free _ _ hn rr)).from (s1.trans sc)
   . exact(Ro.fresh hp t' rfl rfl Sc' rr).from (s1.trans sc)
theorem aGP(M:Mc X P Γ n){k:Nat}{caps:List Nat}{t:T}{it:Hp.It}{cond:Es}{elt:E}{e iter:Expr}{ifs:List Expr}{scope:Scope}{N':List Str}(CS:cG X scope k caps N')(hnd:caps.Nodup)(hk:∀i∈tIx t,i<k)
 (hi:PI X tg iter (wI X P n RT Y old σ it))
 (hch:∀C s₀ H₀ ex,PG (cS X scope N' C s₀ H₀ ex) tg (gT X.K t)/\(∀RT Y old σ1,PTs (cS X scope N' C s₀ H₀ ex) ifs (wTs X P n RT Y old σ1 cond))/\∀RT Y old σ1,PE (cS X scope N' C s₀ H₀ ex) e (WE X P n RT Y old σ1 elt))
 (hs:∀x,foldedSetIterable iter X.env x=pure x):PE X (.ListComp e [⟨tg,iter,ifs,0⟩] scope pos) (WE X P n RT Y old σ (.comp k caps t it cond elt)):=by
 refine(rS (g:=gT X.K t) (tt:=λσV H Q=>∃RT Y old σ1,wTs X P n RT Y old σ1 cond σV H Q) (te:=λσV H Q=>∃RT Y old σ1,WE X P n RT Y old σ1 elt σV H Q) CS M.calm hi (λC s₀ H₀ ex=>?_) hs).imp λσV H Q t0 hw=>aCl hnd hk hw
 . obtain⟨h1,h2,h3⟩:=hch C s₀ H₀ ex
   exact⟨h1,λpins s σV H Q I ⟨RT,Y,old,σ1,hw⟩=>h2 RT Y old σ1 pins s σV H Q I hw,λpins s σV H Q I ⟨RT,Y,old,σ1,hw⟩=>h3 RT Y old σ1 pins s σV H Q I hw⟩
end
end Hp
end
noncomputable section
namespace L2
open PySem PySem.Spec PyProof.Rows
set_option maxRecDepth 100000
def all16:List (List Nat):=(List.range 16).map λm=>(List.range 4).filter λk=>m / 2 ^ k % 2==1
def fM(led:Bool)(ks:List Nat):SetTable:={ mask:=7,place:=ks.toArray,dummies:=#[],finger:=0,led:=led,moves:=0,plain:=true }
def xL(k:Nat)(ks:List Nat):Nat:=SetTable.below ks.toArray k
def gE(k:Nat)(ks:List Nat):List Nat:=ks.take (xL k ks)++k::ks.drop (xL k ks)
theorem aCm:∀led:Bool,∀ks∈all16,∀k∈List.range 4,k∉ks->(fM led ks).freeSlot (k:Int)=some (k,false)/\(fM led ks).put k=(fM led (gE k ks),xL k ks)/\(fM led (gE k ks)).fits (ks.length+1)=true/\(fM led (gE k ks)).tooFull=false/\gE k ks∈all16:=by decide +kernel
theorem gM:∀led:Bool,∀ks∈all16,(fM led ks).fits ks.length=true:=by decide +kernel
theorem aFw:∀k∈List.range 4,hashInt (k:Int)=(k:Int):=by decide +kernel
def bP(tok:Nat->Tok)(ks:List Nat):Array (Int×Value):=(ks.map λ(k:Nat)=>((k:Int),Value.int (k:Int) (tok k))).toArray
theorem aZ(tok:Nat->Tok)(ks:List Nat):(bP tok ks).size=ks.length:=by unfold bP;rw[Af,lM]
theorem uY{α:Type}(l:List α)(p:Nat)(x:α):SetTable.insertAt l.toArray p x=(l.take p++x::l.drop p).toArray:=by
 unfold SetTable.insertAt
 apply Array.ext'
 simp[List.extract_eq_drop_take]
 rw[Eh (by rw[C2];omega)]
theorem aGQ(tok:Nat->Tok){ks:List Nat}{k:Nat}(t:Tok)(hk:k∉ks):SetTable.insertAt (bP tok ks) (xL k ks) ((k:Int),Value.int (k:Int) t)=bP (λj=>if j=k then t else tok j) (gE k ks):=by
 unfold bP gE
 rw[uY,Cc,mC,List.map_take,List.map_drop]
 have e:(ks.map λ(j:Nat)=>((j:Int),Value.int (j:Int) (if j=k then t else tok j)))=ks.map λ(j:Nat)=>((j:Int),Value.int (j:Int) (tok j)):=C0 λj hj=>by
  rw[if_neg λz=>hk (by rw[<-z];exact hj)]
 rw[e]
 simp
section
variable {prog:Program} {w:World} {A:Around} {E:Value->Shared->Prop} {s:Shared}
def byT(w:World):Bool:=w.params.followText "set-order"
def gC(w:World)(h:Heap)(S:Addr)(ks:List Nat):Prop:=ks∈all16/\∃tok ep,h.get? S=some { cls:=.type "set",dict:=none,data:=.set (bP tok ks) ep (fM (!byT w) ks),slots:=#[] }
theorem aJS{tok:Nat->Tok}{ks:List Nat}(h:ks∈all16):ElemsOf (intKind prog w) (bP tok ks).toList:=by
 intro e he
 unfold bP at he
 rw[Dv] at he
 obtain⟨k,hk,rfl⟩:=A2.mp he
 have hk4:k∈List.range 4:=by
  obtain⟨m,_,rfl⟩:=A2.mp h
  exact(Cu.mp hk).1
 exact⟨⟨(k:Int),intKind_is _ _ _ _,(aFw k hk4).symm⟩,rfl⟩
theorem aJT{tok:Nat->Tok}{ks:List Nat}(k:Nat):((bP tok ks).toList.findIdx? λe=>(intKind prog w).is (k:Int) e.2)=if k∈ks then ks.findIdx? (·==k) else none:=by
 unfold bP
 rw[Dv,List.findIdx?_map]
 have e:((λe:Int×Value=>(intKind prog w).is (k:Int) e.2)∘λj:Nat=>((j:Int),Value.int (j:Int) (tok j)))=λj:Nat=>(j==k):=by
  funext j
  show Value.isInt (k:Int) (Value.int (j:Int) (tok j))=(j==k)
  unfold Value.isInt
  by_cases hj:j=k
  . subst hj;simp
  . have h1:(j==k)=false:=by simpa using hj
    rw[h1]
    simp
    omega
 rw[e]
 split
 . rfl
 . rename_i hk
   rw[List.findIdx?_eq_none_iff]
   intro j hj
   simpa using λz:j=k=>hk (by rw[<-z];exact hj)
theorem aMr{S:Addr}{ks:List Nat}{k:Nat}{t:Tok}{Q:Bool->Shared->Prop}(hS:gC w s.heap S ks)(hk:k∈List.range 4)
 (h:∀h' b,Heap.SameBut S s.heap h'->gC w h' S (if k∈ks then ks else gE k ks)->Q b { s with heap:=h' }):wpAny (model prog w) A (setAddHashed S (.int (k:Int) t) (hashInt (k:Int))) Q E s:=by
 obtain⟨h16,tok,ep,ho⟩:=hS
 have hf:(fM (!byT w) ks).fits (bP tok ks).size=true:=by rw[aZ];exact gM _ ks h16
 have hl4:ks.length<=4:=by
  have:∀ks∈all16,ks.length<=4:=by decide +kernel
  exact this ks h16
 have hb:(bP tok ks).size<scanBound:=by rw[aZ];unfold scanBound;omega
 unfold setAddHashed setAddHashedIn
 refine B2 (Aa (Ei ho rfl hf ?_))
 dsimp only
 rw[byScan_of (knd:=intKind prog w) rfl hb (aJS h16)]
 simp only[↓reduceIte]
 unfold setAddByScan
 refine Aa ?_
 refine Aa (D8 ?_)
 refine Aa (wpAny_setScan_of (knd:=intKind prog w) (k:=(k:Int)) (intKind_is _ _ _ _) ho rfl hf (aJS h16) ?_)
 rw[aJT]
 by_cases hm:k∈ks
 . rw[if_pos hm]
   obtain⟨j,hj⟩:∃j,ks.findIdx? (·==k)=some j:=by
    cases q:ks.findIdx? (·==k) with
    | some j=>exact⟨j,rfl⟩
    | none=>
     rw[List.findIdx?_eq_none_iff] at q
     have:=q k hm
     simp at this
   rw[hj]
   dsimp only
   refine Ad (Ad ?_)
   have:=h s.heap false (Heap.SameBut.refl S s.heap) (by rw[if_pos hm];exact⟨h16,tok,ep,ho⟩)
   exact this
 . rw[if_neg hm]
   dsimp only
   obtain⟨g1,g2,g3,g4,g5⟩:=aCm (!byT w) ks h16 k hk hm
   have hlay:layNew (fM (!byT w) ks) (bP tok ks) (hashInt (k:Int)) (.int (k:Int) t)=(bP (λj=>if j=k then t else tok j) (gE k ks),fM (!byT w) (gE k ks),false,false):=by
    have hsz:(bP (λj=>if j=k then t else tok j) (gE k ks)).size=ks.length+1:=by
     rw[aZ]
     unfold gE
     rw[lA,lC,Cd,C2]
     have:xL k ks<=ks.length\/ks.length<xL k ks:=by omega
     rcases this with z|z
     . omega
     . exfalso
       have q:∀ks∈all16,∀k∈List.range 4,xL k ks<=ks.length:=by decide +kernel
       have:=q ks h16 k hk
       omega
    unfold layNew
    rw[aFw k hk,g1]
    dsimp only
    rw[g2]
    dsimp only
    rw[aGQ tok t hm,hsz,show(fM (!byT w) (gE k ks)).orStandIn (ks.length+1)=fM (!byT w) (gE k ks) by unfold SetTable.orStandIn;rw[g3,if_pos rfl],g3]
    rfl
   rw[hlay]
   dsimp only
   refine Aa (Ad ?_)
   rw[if_pos (show(fM (!byT w) (gE k ks)).plain=true from rfl),hashByValue_scannable 8 (x:=.int (k:Int) t) rfl]
   refine Aa (Ad ?_)
   rw[if_pos (show plainKind (.int (k:Int) t)=true from rfl)]
   have hsz4:(bP (λj=>if j=k then t else tok j) (gE k ks)).size<scanBound:=by
    have:∀ks∈all16,ks.length<=4:=by decide +kernel
    have:=this _ g5
    rw[aZ];unfold scanBound;omega
   refine Aa (wpAny_storeSet_of ho rfl ?_ (fits_of_scanBound hsz4))
   rw[g4]
   refine Ad ?_
   refine Ad (h _ true (Heap.SameBut.update s.heap S _) ?_)
   rw[if_neg hm]
   refine⟨g5,λj=>if j=k then t else tok j,ep+1,?_⟩
   have:=Heap.get?_update_self (Obj.putSet (bP (λj=>if j=k then t else tok j) (gE k ks)) (fM (!byT w) (gE k ks))) ho rfl
   exact this
end
def xM(ks:List Nat)(k:Nat):List Nat:=if k∈ks then ks else gE k ks
def mP(ns:List Nat):List Nat:=ns.foldl xM []
theorem aAP(ns:List Nat)(k:Nat):mP (ns++[k])=xM (mP ns) k:=by unfold mP;rw[Dk];rfl
def aCn(vs:List Value)(ns:List Nat):Prop:=Paired (λv (n:Nat)=>n<4/\∃t,v=Value.int (n:Int) t) vs ns
theorem aCn.get:∀{vs:List Value} {ns:List Nat},aCn vs ns->∀{i:Nat} {v:Value},vs[i]? = some v->∃n,ns[i]? = some n/\n<4/\∃t,v=Value.int (n:Int) t
 | _,_,.nil,_,_,h=>by simp at h
 | _,_,.cons r _,0,_,h=>by simp at h;subst h;exact⟨_,rfl,r⟩
 | _,_,.cons _ t,i+1,v,h=>by
  obtain⟨k,h1,h2⟩:=aCn.get t (i:=i) (v:=v) (by simpa using h)
  exact⟨k,by simpa using h1,h2⟩
section
variable {prog:Program} {w:World} {A:Around} {R:Result->Shared->Prop} {I:Addr} {fp wr:List Addr} {G:Array GenState->Array GenState->Prop} {n:Nat} {P:Nat->Value->Prop} {St:Nat->Shared->Prop}
theorem gC.keep{h h':Heap}{S:Addr}{ks:List Nat}(x:gC w h S ks)(e:∀o,h.get? S=some o->h'.get? S=some o):gC w h' S ks:=by
 obtain⟨a,tok,ep,ho⟩:=x
 exact⟨a,tok,ep,e _ ho⟩
theorem aAQ(W:WalksS prog w A.in1 I fp wr G n P St)(S:Addr)(hSf:S∉fp)(ns:List Nat)(hval:∀i v,P i v->∃k,ns[i]? = some k/\k<4/\∃t,v=Value.int (k:Int) t)(hn:ns.length=n) :
 ∀(m i:Nat) (s:Shared),n-i=m->i<=n->St i s->gC w s.heap S (mP (ns.take i)) ->
  (∀s',Moved (S::wr) G s s'->gC w s'.heap S (mP ns)->R (.ok (.ret .none)) s') ->
  codeAny (model prog w) A (.builtin "set.update.loop" ⟨[.ref S,.ref I],[]⟩) R s:=by
 have nw:S∉wr:=λh=>hSf (W.sub _ h)
 have sb:∀b∈wr,b∈S::wr:=λb hb=>Ae _ hb
 intro m
 induction m with
 | zero=>
  intro i s hk hi hst hS hR
  obtain rfl:i=n:=by omega
  refine Cj Dw ?_
  rw[B7 Ck _]
  show wpAny _ A.in1 (pyNext (.ref I) >>= _) _ _ s
  refine Aa (W.done s _ _ hst λs' hm=>?_)
  show wpAny _ A.in1 (ret Value.none) _ _ s'
  rw[Eh (by omega)] at hS
  exact Ad (hR s' (hm.mono sb) (hS.keep λo e=>hm.heap S o nw e))
 | succ m ih=>
  intro i s hk hi hst hS hR
  have hlt:i<n:=by omega
  refine Cj Dw ?_
  rw[B7 Ck _]
  show wpAny _ A.in1 (pyNext (.ref I) >>= _) _ _ s
  refine Aa (W.item i s _ _ hlt hst λv s' hP hst' hm=>?_)
  obtain⟨k,hk1,hk2,t,rfl⟩:=hval i v hP
  have hS':gC w s'.heap S (mP (ns.take i)):=hS.keep λo e=>hm.heap S o nw e
  have htk:ns.take (i+1)=ns.take i++[k]:=by
   rw[List.take_succ,hk1];rfl
  show wpAny _ A.in1 (holding [Value.int (k:Int) t] (setAdd S (Value.int (k:Int) t)) >>= _) _ _ s'
  refine Aa (B2 ?_)
  unfold setAdd
  refine B2 ?_
  refine Aa ((intKind prog w).pyHash (k:=(k:Int)) (intKind_is _ _ _ _) ?_)
  refine aMr (s:={ s' with toks:=s'.toks+1 }) hS' (Cm.mpr hk2) λh' b hsb hS2=>?_
  have hSi:gC w h' S (mP (ns.take (i+1))):=by rw[htk,aAP];exact hS2
  refine Ad ⟨D3 Ck _,ih (i+1) _ (by omega) hlt (W.frame _ s' _ _ hst' (Dm _) λb hb o e=>?_) hSi λs'' hm'' hS''=>?_⟩
  . rw[hsb.2 b λh:b=S=>hSf (by rw[<-h];exact hb)];exact e
  . refine hR s'' (Moved.trans W.gtrans ((hm.mono sb).then_heap (Dm _) λb o hb e=>?_) hm'') hS''
    rw[hsb.2 b λh:b=S=>hb (by rw[h];exact Ak)];exact e
end
section
variable {prog:Program} {w:World} {A:Around} {E:Value->Shared->Prop} {s:Shared}
theorem aCo(a:Value){Q₁:Value->Shared->Prop}(h:Q₁ (.ref s.heap.objs.size) { s with heap:=s.heap.push { cls:=.type "set",dict:=none,data:=.set #[] 0 (.fresh 0 0 (!byT w)) } }) :
 codeAny (model prog w) A (.call (.builtin "set.__new__") ⟨[.type "set",a],[]⟩) (wants Q₁ E) s:=by
 refine codeAny_of_tree ?_
 show wpAny _ A.in1 (do checkBuiltinCall "set.__new__" ⟨[.type "set",a],[]⟩;again (.builtin "set.__new__" ⟨[.type "set",a],[]⟩)) _ _ s
 refine Aa (wpAny_of_eq (F.newCall_set_1 a) (Ad ⟨D3 F.plain_set_new _,Cj F.entry_set_new ?_⟩))
 rw[B7 F.plain_set_new _]
 unfold Builtin.«set.__new__» Builtin.Frozenset.newClass
 have hsub:=sub_set_self
 obtain⟨hp,g,d,tk,os⟩:=s
 dsimp only
 wp_walk
 refine Dr (Ad ?_)
 dsimp only
 simp only[newObj]
 refine Aa (wpAny_alloc (Ad ?_))
 exact Ad h
set_option maxHeartbeats 3200000 in
theorem aAR{l:Addr}{items:Array Value}{ns:List Nat}{Q:Value->Shared->Prop}(hh:A.handled=none)(hl:s.heap.IsList l items)(hi:aCn items.toList ns)(hn:ns.length=items.size)
 (h:∀(h':Heap) (tk:Nat),gC w h' s.heap.objs.size (mP ns)->(∀b o,b<s.heap.objs.size->s.heap.get? b=some o->h'.get? b=some o)->Q (.ref s.heap.objs.size) { s with heap:=h',toks:=tk }) :
 wpAny (model prog w) A (call (.type "set") [.ref l]) Q E s:=by
 obtain⟨c,tl,hmro⟩:=B6.mro
 have hmade:=B6.made
 have hsub:=B6.sub
 refine wpAny_call (codeAny_of_tree ?_)
 show wpAny _ _ (callAny (.type "set") _) _ _ _
 refine Ad ⟨Code.quiet_builtin _ (by decide +kernel),Cj F.entry_type_call ?_⟩
 rw[Around.under_plain (weight_type_call_type "set" [.ref l] []) rfl]
 have h1:=B6.notType
 have h2:=B6.canCreate
 have hct:=PySem.F.typeCall_set_1 (.ref l)
 repeat (any_goals (first|assumption|wp_step))
 refine codeAny_mono (aCo (.ref l) (E:=E) (Q₁:=λobj s₁=>obj=.ref s.heap.objs.size/\s₁={ s with heap:=s.heap.push { cls:=.type "set",dict:=none,data:=.set #[] 0 (.fresh 0 0 (!byT w)) } }) ⟨rfl,rfl⟩) λr s₁ hr=>?_
 cases r with
 | error e=>exact hr
 | ok fl=>
  cases fl with
  | ret obj=>
   obtain⟨rfl,rfl⟩:=hr
   generalize hled:(!byT w)=led at *
   have hS:(s.heap.push { cls:=.type "set",dict:=none,data:=.set #[] 0 (.fresh 0 0 led) }).get? s.heap.objs.size=some { cls:=.type "set",dict:=none,data:=.set #[] 0 (.fresh 0 0 led) }:=Ah _ rfl
   have hT:Shared.TypeIs { s with heap:=s.heap.push { cls:=.type "set",dict:=none,data:=.set #[] 0 (.fresh 0 0 led) } } (.ref s.heap.objs.size) "set" := ⟨_,hS,rfl⟩
   have hli:=B6.init.lookup
   have hbi:=B6.init.bind (.ref s.heap.objs.size)
   repeat (any_goals (first|assumption|wp_step))
   refine codeAny_mono (codeAny_call_builtin (R:=wants (λr s₂=>r=.none/\∃h' tk,s₂={ s with heap:=h',toks:=tk }/\gC w h' s.heap.objs.size (mP ns) /\
    (∀b o,b<s.heap.objs.size->s.heap.get? b=some o->h'.get? b=some o)) E) B6.init.plain F.entry_set_init (check_set_init_1 hT ?_)) λr₂ s₂ hr₂=>?_
   . obtain⟨ol,hol,hcl,nl,hdl⟩:=hl
     obtain⟨ocls,odict,odata,oslots⟩:=ol
     simp only at hcl hdl
     subst hcl;subst hdl
     have hol':(s.heap.push { cls:=.type "set",dict:=none,data:=.set #[] 0 (.fresh 0 0 led) }).get? l=some { cls:=.type "list",dict:=odict,data:=.seq items nl,slots:=oslots }:=Ab _ hol
     have hsls:=PySem.F.sub_list_set
     have hslf:=PySem.F.sub_list_frozenset
     have hne:(Value.type "list" == Value.type "dict")=false:=by decide
     have hl1:(s.heap.push { cls:=.type "set",dict:=none,data:=.set #[] 0 (.fresh 0 0 led) }).IsList l items:=⟨_,hol',rfl,nl,rfl⟩
     unfold Builtin.«set.__init__» noKeywords Builtin.Frozenset.updateFrom
     generalize hPI:pyIter=PI
     wp_walk
     subst hPI
     refine Eg hl1 ?_
     refine Aa (wpAny_runValue ?_)
     have hlS:l<s.heap.objs.size:=Aj hol
     have hh3:A.in1.in1.in1.handled=none:=by simp[hh]
     have hsz:(s.heap.push { cls:=.type "set",dict:=none,data:=.set #[] 0 (.fresh 0 0 led) }).objs.size=s.heap.objs.size+1:=Bs _ _
     refine aAQ ((Walks.list hh3 _ l (by rw[hsz];exact Ao (B1 hlS)) items).toS) s.heap.objs.size
      (by
       rw[hsz]
       intro z
       rcases Al.mp z with q|q
       . exact absurd q (Ao (Cg _))
       . exact absurd (Az.mp q) (B4 hlS)) ns
      (λi v hv=>hi.get (by rw[Cr];exact hv)) hn (items.size-0) 0 _ (by omega) (Bj _)
      ⟨⟨_,Ah _ rfl,rfl,rfl⟩,(hl1.push _)⟩ ?hS0 ?hR
     case hS0=>
      refine⟨show([]:List Nat)∈all16 by decide +kernel,λ_=>0,0,?_⟩
      rw[hled]
      exact Ab _ hS
     case hR=>
      intro s' hm hS'
      obtain⟨h',g',d',tk',os'⟩:=s'
      have eg:g'=s.gens:=hm.gens
      have ed:d'=s.drawn:=hm.drawn
      have eo:os'=s.os:=hm.os
      subst eg;subst ed;subst eo
      show wpAny _ _ _ _ _ _
      refine Ad ?_
      show wpAny _ _ (ret Value.none) _ _ _
      refine Ad ⟨rfl,h',tk',rfl,hS',λb o hb e=>?_⟩
      refine hm.heap b o ?_ (Ab _ (Ab _ e))
      rw[hsz]
      intro z
      rcases Al.mp z with q|q
      . exact absurd q (Ao hb)
      . exact absurd (Az.mp q) (Ao (B1 hb))
   . cases r₂ with
     | error e=>exact hr₂
     | ok fl₂=>
      cases fl₂ with
      | ret r=>
       obtain⟨rfl,h',tk,rfl,hS',hk'⟩:=hr₂
       repeat (any_goals (first|assumption|wp_step))
       exact h _ _ hS' hk'
      | _=>exact hr₂.elim
  | _=>exact hr.elim
end
set_option maxRecDepth 100000
theorem bX:Slot "set_iterator" "__next__" "set_iterator.__next__" :=
 .of (owner:= "set_iterator") (n:= "__next__") (by rw[typeLookup_type,builtinLookup_eq_fast];kernel_rfl) (by decide +kernel) (by decide +kernel) (by decide +kernel)
  (by first|exact .inl (by decide +kernel)|exact .inr (by decide +kernel)) (by rw[isSubtype_type];kernel_rfl)
theorem gD:entryFor table "set_iterator.__next__" = some Builtin.«set_iterator.__next__»:=entryFor_of_tree (by kernel_rfl)
theorem gN(a:Value):argsOk "set_iterator.__next__" ⟨[a],[]⟩:=by unfold argsOk;kernel_rfl
theorem oJ:entryFor table "set.__iter__" = some Builtin.«frozenset.__iter__»:=
 entryFor_alias (id':= "frozenset.__iter__") (by kernel_rfl) rfl (by decide +kernel) (by kernel_rfl)
theorem gO:Slot "set_iterator" "__iter__" "set_iterator.__iter__" :=
 .of (owner:= "set_iterator") (n:= "__iter__") (by rw[typeLookup_type,builtinLookup_eq_fast];kernel_rfl) (by decide +kernel) (by decide +kernel) (by decide +kernel)
  (by first|exact .inl (by decide +kernel)|exact .inr (by decide +kernel)) (by rw[isSubtype_type];kernel_rfl)
theorem mQ:entryFor table "set_iterator.__iter__" = some Builtin.«dict_keyiterator.__iter__»:=
 entryFor_alias (id':= "dict_keyiterator.__iter__") (by kernel_rfl) rfl (by decide +kernel) (by kernel_rfl)
theorem oK(a:Value):argsOk "set_iterator.__iter__" ⟨[a],[]⟩:=by unfold argsOk;kernel_rfl
theorem oM{α:Type}:∀(l:List α) (j:Nat) (h:j<l.length),(l[j]::l.eraseIdx j).Perm l
 | [],_,h=>absurd h (Nat.not_lt_zero _)
 | a::l,0,_=>List.Perm.refl _
 | a::l,j+1,h=>(List.Perm.swap a (l[j]'(by simpa using h)) _).trans ((oM l j (by simpa using h)).cons a)
theorem qF{α:Type}(next:Nat->Nat):∀(fuel k:Nat) (left:List α) (out:Array α),left.length=fuel->(pickOrder.go next fuel k left out).toList.Perm (out.toList++left)
 | 0,_,left,out,h=>by
  have:left=[]:=List.eq_nil_of_length_eq_zero h
  subst this
  rw[pickOrder.go,Bt]
 | fuel+1,k,left,out,h=>by
  have hlt:next k % left.length<left.length:=Nat.mod_lt _ (by omega)
  rw[pickOrder.go,An hlt]
  dsimp only
  refine(qF next fuel (k+1) _ _ (by rw[List.length_eraseIdx_of_lt hlt];omega)).trans ?_
  rw[Array.toList_push,Ef]
  exact List.Perm.append_left _ (oM _ _ hlt)
def mR(w:World)(S:Addr)(ep:Nat)(es:Array (Int×Value)):Array (Int×Value):=if byT w then pickOrder (w.params.setOrder S ep) es else es
theorem uZ(w:World)(S:Addr)(ep:Nat)(es:Array (Int×Value)):(mR w S ep es).toList.Perm es.toList:=by
 unfold mR
 split
 . unfold pickOrder
   refine(qF _ _ _ _ _ (by rw[A7])).trans ?_
   simp
 . exact List.Perm.refl _
theorem jW(w:World)(S:Addr)(ep:Nat)(es:Array (Int×Value)):(mR w S ep es).size=es.size:=by
 rw[<-A7,(uZ w S ep es).length_eq,A7]
def xN(ks:List Nat):Nat->Nat
 | 0=>0
 | i+1=>ks.getD i 0+1
def slotV(w:World)(ks:List Nat)(i:Nat):Nat:=if byT w then 0 else xN ks i
theorem aGR:∀ks∈all16,∀i∈List.range 5,i<=ks.length->SetTable.below ks.toArray (xN ks i)=i:=by decide +kernel
section
variable {prog:Program} {w:World} {A:Around} {E:Value->Shared->Prop} {s:Shared}
def vA(w:World)(tok:Nat->Tok)(ep:Nat)(ks:List Nat):Obj:={ cls:=.type "set",dict:=none,data:=.set (bP tok ks) ep (fM (!byT w) ks),slots:=#[] }
def lD(w:World)(S:Addr)(ep:Nat)(ks:List Nat)(i:Nat):Obj:={ cls:=.type "set_iterator",dict:=none,data:=.fields #[rawInt (slotV w ks i),rawInt i,.ref S,rawInt ks.length,rawInt ep],slots:=#[] }
variable {S I:Addr} {tok:Nat->Tok} {ep i:Nat} {ks:List Nat}
theorem aFx{Q:Option (Value×Nat)->Shared->Prop}(h16:ks∈all16)(ho:s.heap.get? S=some (vA w tok ep ks))(hi:i<=ks.length)
 (h:Q (((mR w S ep (bP tok ks))[i]?).map λe=>(e.2,slotV w ks (i+1))) s):wpAny (model prog w) A (setNext S (slotV w ks i) i ep) Q E s:=by
 have hf:(fM (!byT w) ks).fits (bP tok ks).size=true:=by rw[aZ];exact gM _ ks h16
 unfold setNext
 refine Aa (Ei ho rfl hf ?_)
 dsimp only
 unfold setsByText
 refine Aa (Aa (Dr (Ad ?_)))
 show wpAny _ _ (if byT w=true then _ else _) _ _ s
 unfold mR slotV at h
 unfold slotV
 cases hb:byT w with
 | true=>
  rw[hb,if_pos rfl,if_pos rfl] at h
  rw[if_pos rfl,if_pos rfl]
  rw[if_neg (by simp)]
  unfold setWalk
  refine Aa (Aa (Ei ho rfl hf ?_))
  dsimp only
  unfold setsByText
  refine Aa (Aa (Dr (Ad ?_)))
  show wpAny _ _ (if byT w=true then _ else _) _ _ s
  rw[hb,if_pos rfl]
  refine Aa (Dr (Ad ?_))
  exact Ad h
 | false=>
  rw[hb,if_neg bN,if_neg bN] at h
  rw[if_neg bN,if_neg bN]
  show wpAny _ _ (if (!true&&decide ((bP tok ks).size>1))=true then _ else _) _ _ s
  rw[if_neg (by simp)]
  refine Aa ?_
  show wpAny _ _ (if (!(!false)&&!(bP tok ks).isEmpty)=true then _ else _) _ _ s
  rw[if_neg (by simp)]
  refine Ad ?_
  have hb4:=aGR ks h16 i (Cm.mpr (by
   have:∀ks∈all16,ks.length<=4:=by decide +kernel
   have:=this ks h16
   omega)) hi
  show wpAny _ _ (pure (match (bP tok ks)[SetTable.below ks.toArray (xN ks i)]?,ks.toArray[SetTable.below ks.toArray (xN ks i)]? with
   | some (_,x),some j=>some (x,j+1)
   | _,_=>none)) _ _ s
  rw[hb4]
  refine Ad ?_
  have e:(match (bP tok ks)[i]?,ks.toArray[i]? with|some (_,x),some j=>some (x,j+1)|_,_=>none)=((bP tok ks)[i]?).map λe=>(e.2,xN ks (i+1)):=by
   by_cases hlt:i<ks.length
   . have e1:(bP tok ks)[i]? = some ((ks[i]:Int),Value.int (ks[i]:Int) (tok ks[i])):=by
      unfold bP
      rw[List.getElem?_toArray,Ax,An hlt];rfl
     have e2:ks.toArray[i]? = some ks[i]:=by rw[List.getElem?_toArray,An hlt]
     rw[e1,e2]
     simp[hlt,xN]
   . have e1:(bP tok ks)[i]? = none:=by
      unfold bP
      rw[List.getElem?_toArray,Ax,List.getElem?_eq_none (by omega)];rfl
     rw[e1];rfl
  rw[e]
  exact h
theorem aJU{e:Int×Value}{Q:Option Value->Shared->Prop}(h16:ks∈all16)(ho:s.heap.get? S=some (vA w tok ep ks))(hI:s.heap.get? I=some (lD w S ep ks i))(hne:S≠I)(he:(mR w S ep (bP tok ks))[i]? = some e)
 (hQ:∀h',h'.get? I=some (lD w S ep ks (i+1))->Heap.SameBut I s.heap h'->Q (some e.2) { s with heap:=h' }):wpAny (model prog w) A (pyNext (.ref I)) Q E s:=by
 have hf:(fM (!byT w) ks).fits (bP tok ks).size=true:=by rw[aZ];exact gM _ ks h16
 have hT:s.TypeIs (.ref I) "set_iterator" := ⟨_,hI,rfl⟩
 have hlt:i<ks.length:=by
  have:=(Array.getElem?_eq_some_iff.mp he).1
  rw[jW,aZ] at this
  exact this
 unfold pyNext
 refine Aa (D2 (A6 (name:=Str.ofString "__next__") hT bX (Bb bX hT gD ?_ (gN _))))
 unfold Builtin.«set_iterator.__next__» slotArgs
 simp only[List.isEmpty_nil,D4,bF,↓reduceIte,bind_assoc,lN,bne_self_eq_false]
 refine Aa (Ad ?_)
 try dsimp only
 refine Aa (wpAny_fieldsOf hI rfl ?_)
 show wpAny _ _ (setEntries S >>= _) _ _ s
 refine Aa (wpAny_setEntries_of ho rfl hf ?_)
 rw[if_neg (by rw[aZ];simp)]
 show wpAny _ _ (setNext S ((slotV w ks i:Int).toNat) ((i:Int).toNat) ((ep:Int).toNat) >>= _) _ _ s
 rw[Bg,Bg,Bg]
 refine Aa (aFx h16 ho (by omega) ?_)
 rw[he]
 dsimp only[Option.map_some]
 refine Aa (A5 hI (by simp) λh1 g1 b1=>?_)
 refine Aa (A5 (s:={ s with heap:=h1 }) g1 (by simp) λh2 g2 b2=>?_)
 refine Ad ⟨e.2,rfl,Ad (hQ h2 ?_ (b1.trans b2))⟩
 rw[g2]
 simp[lD,rawInt]
theorem aMs{Q:Option Value->Shared->Prop}(hh:A.handled=none)(h16:ks∈all16)(ho:s.heap.get? S=some (vA w tok ep ks))(hI:s.heap.get? I=some (lD w S ep ks ks.length))
 (hQ:∀h',Heap.ExtBut I s.heap h'->Q none { s with heap:=h' }):wpAny (model prog w) A (pyNext (.ref I)) Q E s:=by
 have hf:(fM (!byT w) ks).fits (bP tok ks).size=true:=by rw[aZ];exact gM _ ks h16
 have hT:s.TypeIs (.ref I) "set_iterator" := ⟨_,hI,rfl⟩
 have he:(mR w S ep (bP tok ks))[ks.length]? = none:=by
  rw[Array.getElem?_eq_none_iff,jW,aZ]
  exact Ag _
 unfold pyNext
 refine Aa (D2 (A6 (name:=Str.ofString "__next__") hT bX (Bb bX hT gD ?_ (gN _))))
 unfold Builtin.«set_iterator.__next__» slotArgs
 simp only[List.isEmpty_nil,D4,bF,↓reduceIte,bind_assoc,lN,bne_self_eq_false]
 refine Aa (Ad ?_)
 try dsimp only
 refine Aa (wpAny_fieldsOf hI rfl ?_)
 show wpAny _ _ (setEntries S >>= _) _ _ s
 refine Aa (wpAny_setEntries_of ho rfl hf ?_)
 rw[if_neg (by rw[aZ];simp)]
 show wpAny _ _ (setNext S ((slotV w ks ks.length:Int).toNat) ((ks.length:Int).toNat) ((ep:Int).toNat) >>= _) _ _ s
 rw[Bg,Bg,Bg]
 refine Aa (aFx h16 ho (Ag _) ?_)
 rw[he]
 dsimp only[Option.map_none]
 refine Aa (A5 hI (by simp) λh1 g1 b1=>?_)
 show wpAny _ _ (newExc (.type "StopIteration") [] >>= _) _ _ _
 refine Aa ?_
 simp only[newExc,newTuple]
 refine Aa (Bf ?_ (by size_fits))
 refine Aa (m:=firstArgMember _ _) (wpAny_of_eq (a:=Value.none) (by first|rfl|(simp only[firstArgMember];rfl)) ?_)
 refine Bf ?_ (by size_fits)
 simp only[raiseNew]
 refine Aa (wpAny_handled ?_)
 first|rw[show A.in1.handled=none from hh]|rw[hh]
 refine Aa (Ad (wpAny_throw ?_))
 refine Aa (Dq (T:= "StopIteration") (b:=true) ⟨_,Ah _ rfl,rfl⟩ isSubtype_stop ?_)
 exact Ad (hQ _ ((b1.extBut.push _).push _))
theorem aGS(hh:A.handled=none)(h16:ks∈all16)(hne:S≠I):Walks prog w A I [I,S] [I] ks.length (λi v=>∃e,(mR w S ep (bP tok ks))[i]? = some e/\v=e.2) (λi h=>h.get? I=some (lD w S ep ks i)/\h.get? S=some (vA w tok ep ks)) where
 sub:=λb hb=>by
  rw[Az.mp hb]
  exact Ak
 frame:=λi h h' st k=>⟨k I Ak _ st.1,k S (Ae _ (Az.mpr rfl)) _ st.2⟩
 item:=λi s Q E hi st hQ=>by
  have hlt:i<(mR w S ep (bP tok ks)).size:=by rw[jW,aZ];exact hi
  refine aJU h16 st.2 st.1 hne (Cs hlt) λh' g b=>hQ _ h' s.toks ⟨_,Cs hlt,rfl⟩ ⟨g,?_⟩ λc o hc e=>?_
  . rw[b.2 S hne];exact st.2
  . rw[b.2 c λz=>hc (by rw[z];exact Az.mpr rfl)];exact e
 done:=λs Q E st hQ=>aMs hh h16 st.2 st.1 λh' b=>hQ h' s.toks λc o hc e=>b c o (λz=>hc (by rw[z];exact Az.mpr rfl)) e
 self:=λi s Q E st hQ=>by
  have hT:s.TypeIs (.ref I) "set_iterator" := ⟨_,st.1,rfl⟩
  refine wpAny_pyIter_slot hT gO (Bb gO hT mQ ?_ (oK _))
  show wpAny _ _ (ret (.ref I)) _ _ s
  exact Ad ⟨_,rfl, "set_iterator",_,hT,bX.lookup,hQ⟩
theorem aJV{Q:Value->Shared->Prop}(h16:ks∈all16)(ho:s.heap.get? S=some (vA w tok ep ks))(h:Q (.ref s.heap.objs.size) { s with heap:=s.heap.push (lD w S ep ks 0) }):wpAny (model prog w) A (pyIter (.ref S)) Q E s:=by
 have hf:(fM (!byT w) ks).fits (bP tok ks).size=true:=by rw[aZ];exact gM _ ks h16
 have hT:s.TypeIs (.ref S) "set" := ⟨_,ho,rfl⟩
 refine wpAny_pyIter_slot hT PySem.F.slot_set_iter (Bb PySem.F.slot_set_iter hT oJ ?_ (PySem.F.args_set_iter_1 _))
 unfold Builtin.«frozenset.__iter__» Builtin.Frozenset.slot0 slotArgs
 simp only[List.isEmpty_nil,D4,bF,↓reduceIte,bind_assoc,lN,bne_self_eq_false]
 unfold Builtin.Frozenset.addrOf Builtin.Frozenset.sizeOf
 refine Aa (Ad ?_)
 try dsimp only
 refine Aa (Ad ?_)
 refine Aa (Aa (wpAny_setEntries_of ho rfl hf (Ad ?_)))
 unfold setDrawn setsByText
 refine Aa (Aa (Ei ho rfl hf ?_))
 dsimp only
 refine Aa (Aa (Dr (Ad ?_)))
 refine Ad ?_
 show wpAny _ _ (if (!byT w&&(!true&&decide ((bP tok ks).size>1)))=true then _ else _) _ _ s
 rw[if_neg (by simp)]
 refine Aa (Ad ?_)
 refine Aa (wpAny_setEpoch_of ho rfl hf ?_)
 refine Aa (Bf ?_)
 have e:(#[rawInt 0,rawInt 0,Value.ref S,rawInt ((bP tok ks).size:Int),rawInt (ep:Int)]:Array Value)=#[rawInt (slotV w ks 0),rawInt ((0:Nat):Int),.ref S,rawInt ks.length,rawInt ep]:=by
  rw[aZ]
  have:slotV w ks 0=0:=by unfold slotV xN;split <;> rfl
  rw[this];rfl
 refine Ad ⟨_,rfl, "set_iterator",_,⟨_,Ah _ rfl,rfl⟩,bX.lookup,?_⟩
 show Q (.ref s.heap.objs.size) { s with heap:=s.heap.push { cls:=.type "set_iterator",data:=.fields #[rawInt 0,rawInt 0,Value.ref S,rawInt ((bP tok ks).size:Int),rawInt (ep:Int)] } }
 rw[e]
 exact h
theorem aAS{P:Nat->Value->Prop}{acc:Array Value}{m:Nat}{od:List (Int×Value)}(hP:∀i v,P i v->∃e,od[i]? = some e/\v=e.2)(h:ItemsOf P acc m)(hm:od.length=m):acc.toList=od.map (·.2):=by
 refine List.ext_getElem? λj=>?_
 rw[Cr,Ax]
 by_cases hj:j<acc.size
 . obtain⟨e,he,hv⟩:=hP j acc[j] (h.2 j _ (Cs hj))
   rw[Cs hj,he,hv];rfl
 . have h1:=h.1
   rw[Array.getElem?_eq_none (by omega),List.getElem?_eq_none (by omega)];rfl
theorem aCp{Q:List Value->Shared->Prop}(hh:A.handled=none)(h16:ks∈all16)(ho:s.heap.get? S=some (vA w tok ep ks))
 (hQ:∀s' acc,(∀b o,s.heap.get? b=some o->s'.heap.get? b=some o)->(s.heap.objs.size<s'.heap.objs.size/\∃tk h',s'={ s with heap:=h',toks:=tk })->acc=(mR w S ep (bP tok ks)).toList.map (·.2)->Q acc s'):wpAny (model prog w) A (collect (.ref S)) Q E s:=by
 have hT:s.TypeIs (.ref S) "set" := ⟨_,ho,rfl⟩
 have hSL:S<s.heap.objs.size:=Aj ho
 unfold collect
 refine Aa (wpAny_runValue (Cj F.entry_proto_collect ?_))
 rw[B7 F.plain_proto_collect _]
 show wpAny _ A.in1 (newList [] >>= λl=>again (.builtin "list.__iadd__" ⟨[l,.ref S],[]⟩)) _ _ s
 refine Aa (Bf ?_)
 refine Ad ⟨D3 Ej _,Cj F.entry_list_iadd ?_⟩
 rw[B7 Ej _]
 have ho1:(s.heap.push { cls:=.type "list",data:=.seq ([]:List Value).toArray }).get? S=some (vA w tok ep ks):=Ab _ ho
 have hT1:Shared.TypeIs { s with heap:=s.heap.push { cls:=.type "list",data:=.seq ([]:List Value).toArray } } (.ref S) "set" := ⟨_,ho1,rfl⟩
 have hL1:(s.heap.push { cls:=.type "list",data:=.seq ([]:List Value).toArray }).get? s.heap.objs.size=some { cls:=.type "list",data:=.seq ([]:List Value).toArray }:=Ah _ rfl
 have h1:Builtin.List.listSameRef (.ref s.heap.objs.size) (.ref S)=false:=by
  simp only[Builtin.List.listSameRef,A1]
  exact B4 hSL
 show wpAny _ A.in1 (Builtin.List.listExtendWith (.ref s.heap.objs.size) (.ref S) (.ref s.heap.objs.size)) _ _ _
 unfold Builtin.List.listExtendWith
 refine Aa (Dn hT1 ?_)
 rw[if_neg (by rw[h1];decide)]
 refine Aa (aJV h16 ho1 ?_)
 refine Aa (B2 ?_)
 have ho2:((s.heap.push { cls:=.type "list",data:=.seq ([]:List Value).toArray }).push (lD w S ep ks 0)).get? S=some (vA w tok ep ks):=Ab _ ho1
 have hT2:Shared.TypeIs { s with heap:=(s.heap.push { cls:=.type "list",data:=.seq ([]:List Value).toArray }).push (lD w S ep ks 0) } (.ref S) "set" := ⟨_,ho2,rfl⟩
 unfold Builtin.List.listLengthHint
 refine Aa (wpAny_specialOf hT2 PySem.F.slot_set_len.lookup ?_)
 generalize hid:("set.__len__" : String)=id0
 wp_delta
 rw[show splitId id0=some ("set", "__len__") from by subst hid;decide +kernel]
 subst hid
 refine Aa (Dq (b:=true) hT2 (by rw[isSubtype_type];kernel_rfl) ?_)
 rw[if_neg (by decide)]
 dsimp only
 rw[if_pos (by decide +kernel)]
 refine Aa (Dn hT2 ?_)
 refine Ad ?_
 rw[if_pos (by decide +kernel)]
 refine Aa (D8 ?_)
 unfold Builtin.List.listTouch
 have hL2:((s.heap.push { cls:=.type "list",data:=.seq ([]:List Value).toArray }).push (lD w S ep ks 0)).get? s.heap.objs.size=some { cls:=.type "list",data:=.seq ([]:List Value).toArray }:=Ab _ hL1
 refine Aa (Aa (listUpdate_at (f:=λx=>x.push Value.none) hL2 rfl ?_))
 have hL3:=get?_update_seq (c:= "list") (xs:=#[]) (n:=0) hL2 (λx=>x.push Value.none)
 refine listUpdate_at (f:=λx=>x.pop) hL3 rfl ?_
 have hL4:=get?_update_seq hL3 (λx=>x.pop)
 have hIsz:(s.heap.push { cls:=.type "list",data:=.seq ([]:List Value).toArray }).objs.size=s.heap.objs.size+1:=size_push' _ _
 have hI2:((s.heap.push { cls:=.type "list",data:=.seq ([]:List Value).toArray }).push (lD w S ep ks 0)).get? (s.heap.push { cls:=.type "list",data:=.seq ([]:List Value).toArray }).objs.size=some (lD w S ep ks 0):=Ah _ rfl
 rw[hIsz] at hI2 ⊢
 have keep:∀b o,b≠s.heap.objs.size->((s.heap.push { cls:=.type "list",data:=.seq ([]:List Value).toArray }).push (lD w S ep ks 0)).get? b=some o->((((s.heap.push { cls:=.type "list",data:=.seq ([]:List Value).toArray }).push (lD w S ep ks 0)).update s.heap.objs.size (Obj.mapSeq λx=>x.push Value.none)).update s.heap.objs.size (Obj.mapSeq λx=>x.pop)).get? b=some o:=λb o hb e=>by
  rw[Dy _ _ _ _ hb,Dy _ _ _ _ hb];exact e
 have hSI:S≠s.heap.objs.size+1:=λz=>Nat.not_lt.mpr (Dm _) (z▸hSL)
 have hSf:s.heap.objs.size∉[s.heap.objs.size+1,S]:=λhm=>by
  rcases Al.mp hm with z|z
  . exact absurd z (by omega)
  . rw[<-Az.mp z] at hSL;exact A8 _ hSL
 have hlen:∀ks∈all16,ks.length<=4:=by decide +kernel
 refine Ad ⟨D3 F.plain_extend_loop _,codeAny_extend_loopS (aGS (A:=A.in1) (tok:=tok) (ep:=ep) (I:=s.heap.objs.size+1) hh h16 hSI).toS (Av (hlen ks h16) (by decide)) _ hSf _ ks.length 0 _ #[] 2 (Nat.sub_zero _) (Bj _) ⟨keep _ _ (by omega) hI2,keep _ _ (Ao hSL) ho2⟩ hL4 (ItemsOf.nil _) λs' acc' c' hm hS' hacc=>?_⟩
 show wpAny _ A (load s.heap.objs.size >>= _) _ _ s'
 refine Aa (wpAny_load hS' ?_)
 refine Ad (hQ s' acc'.toList (λb o e=>?_) ?_ ?_)
 . have hb:b<s.heap.objs.size:=Aj e
   refine hm.heap b o (λz=>?_) (keep b o (Ao hb) (Ab _ (Ab _ e)))
   rcases Al.mp z with z|z
   . exact Ao hb z
   . exact Nat.not_lt.mpr (Dm _) (Az.mp z▸hb)
 . obtain⟨h',g',d',tk',os'⟩:=s'
   have eg:g'=s.gens:=hm.gens
   have ed:d'=s.drawn:=hm.drawn
   have eo:os'=s.os:=hm.os
   subst eg;subst ed;subst eo
   exact⟨Aj hS',tk',h',rfl⟩
 . exact aAS (P:=λi v=>∃e,(mR w S ep (bP tok ks))[i]? = some e/\v=e.2) (λi v ⟨e,he,hv⟩=>⟨e,by rw[Cr];exact he,hv⟩) hacc (by rw[A7,jW,aZ])
end
set_option maxRecDepth 100000
theorem rX:∀{as bs:List Int},as.Pairwise (·<=·)->bs.Pairwise (·<=·)->as.Perm bs->as=bs
 | [],bs,_,_,p=>(p.nil_eq)
 | a::as,[],_,_,p=>absurd p.length_eq (by simp)
 | a::as,b::bs,ha,hb,p=>by
  have hab:a=b:=by
   have h1:a∈b::bs:=p.subset Ak
   have h2:b∈a::as:=p.symm.subset Ak
   rcases Al.mp h1 with h1|h1
   . exact h1
   . rcases Al.mp h2 with h2|h2
     . exact h2.symm
     . have q1:=(Df.mp ha).1 b h2
       have q2:=(Df.mp hb).1 a h1
       omega
  subst hab
  rw[rX (Df.mp ha).2 (Df.mp hb).2 (List.Perm.cons_inv p)]
theorem aGT:∀ks∈all16,(ks.map Int.ofNat).Pairwise (·<=·):=by decide +kernel
theorem aJW:∀ks∈all16,ks.length<=4:=by decide +kernel
theorem vB:∀{es:List (Int×Value)},(∀e∈es,∃t,e.2=Value.int e.1 t)->IntsAre (es.map (·.2)) (es.map (·.1))
 | [],_=>.nil
 | e::es,h=>by
  obtain⟨t,q⟩:=h e Ak
  have r:=vB (es:=es) λx hx=>h x (Ae _ hx)
  rw[mC,mC,q]
  exact .cons _ _ r
theorem aEp{tok:Nat->Tok}{ks:List Nat}:∀e∈(bP tok ks).toList,∃t,e.2=Value.int e.1 t:=by
 intro e he
 unfold bP at he
 rw[Dv] at he
 obtain⟨k,hk,rfl⟩:=A2.mp he
 exact⟨_,rfl⟩
theorem aGU{tok:Nat->Tok}{ks:List Nat}:(bP tok ks).toList.map (·.1)=ks.map Int.ofNat:=by
 unfold bP
 rw[Dv,Bv]
 rfl
section
variable {prog:Program} {w:World} {A:Around} {E:Value->Shared->Prop} {s:Shared}
theorem vC{S:Addr}{ks:List Nat}{Q:Value->Shared->Prop}(hh:A.handled=none)(hS:gC w s.heap S ks)
 (h:∀(h':Heap) (tk:Nat) (L:Addr) (out:List Value) (n:Nat),s.heap.objs.size<=L->(∀b o,s.heap.get? b=some o->h'.get? b=some o)->h'.get? L=some (seqObj "list" out.toArray n)->IntsAre out (ks.map Int.ofNat)->Q (.ref L) { s with heap:=h',toks:=tk }) :
 wpAny (model prog w) A (call (.builtin "sorted") [.ref S]) Q E s:=by
 obtain⟨h16,tok,ep,ho⟩:=hS
 refine Calls.call_function_entry kind_sorted plain_sorted entry_sorted (args_sorted1 _) ?_
 unfold Builtin.«sorted»
 refine Aa (m:=checkCount "sorted" 1 1 _) (Ad ?_)
 refine Aa (aCp (tok:=tok) (ep:=ep) (ks:=ks) hh h16 ho λs' acc hk hs' hacc=>?_)
 obtain⟨hle,tk,h1,rfl⟩:=hs'
 have pm:=uZ w S ep (bP tok ks)
 have h64:acc.length<64:=by
  rw[hacc,lM,pm.length_eq,A7,aZ]
  have:=aJW ks h16
  omega
 refine Aa (wpAny_newList ?_ (Av (C7 h64) (by decide)))
 have hoL:(h1.push (seqObj "list" acc.toArray 0)).get? h1.objs.size=some (seqObj "list" acc.toArray 0):=Ah _ rfl
 have hI:IntsAre acc ((mR w S ep (bP tok ks)).toList.map (·.1)):=by
  rw[hacc]
  exact vB λe he=>aEp e (pm.subset he)
 refine Aa (B2 (Bb (s:={ s with heap:=h1.push (seqObj "list" acc.toArray 0),toks:=tk }) slot_list_sort ⟨_,hoL,rfl⟩ entry_list_sort (list_sort_tree hoL hI h64 λout ns' a1 a2 a3=>⟨_,rfl,?_⟩) (args_list_sort _)))
 have e:ns'=ks.map Int.ofNat:=rX a3 (aGT ks h16) (by rw[<-aGU (tok:=tok)];exact a2.trans (pm.map _))
 obtain⟨n,hL⟩:=sortedHeap_at (out:=out) hoL
 refine Ad ⟨_,rfl,h _ _ h1.objs.size out.toList n (C7 hle) (λb o q=>?_) (by rw[Array.toArray_toList];exact hL) (e▸a1)⟩
 have hb:b<h1.objs.size:=Aj (hk b o q)
 rw[sortedHeap_old (Ao hb) (by rw[size_push'];exact B1 hb)]
 exact Ab _ (hk b o q)
end
end L2
end
noncomputable section
namespace Hp
open PySem PySem.Spec PyProof.Rows L2
theorem aCq:∀ks∈all16,∀k∈List.range 4,xM ks k∈all16/\∀j∈List.range 4,(j∈xM ks k↔j=k\/j∈ks):=by decide +kernel
theorem aCr:∀ks∈all16,ks=(List.range 4).filter λk=>decide (k∈ks):=by decide +kernel
theorem qG:∀(ns ks:List Nat),ks∈all16->(∀n∈ns,n<4)->ns.foldl xM ks∈all16/\∀j∈List.range 4,(j∈ns.foldl xM ks↔j∈ns\/j∈ks)
 | [],ks,h,_=>⟨h,λj _=>by simp⟩
 | n::ns,ks,h,h4=>by
  obtain⟨a1,a2⟩:=aCq ks h n (Cm.mpr (h4 n Ak))
  obtain⟨b1,b2⟩:=qG ns (xM ks n) a1 λm hm=>h4 m (Ae _ hm)
  refine⟨b1,λj hj=>?_⟩
  rw[Cb,b2 j hj,a2 j hj,Al]
  constructor
  . rintro (z|z|z)
    . exact .inl (.inr z)
    . exact .inl (.inl z)
    . exact .inr z
  . rintro ((z|z)|z)
    . exact .inr (.inl z)
    . exact .inl z
    . exact .inr (.inr z)
theorem aEq{ns:List Nat}(h4:∀n∈ns,n<4):mP ns=bM ns:=by
 obtain⟨b1,b2⟩:=qG ns [] (by decide +kernel) h4
 unfold mP bM
 rw[aCr _ b1]
 refine List.filter_congr λj hj=>?_
 have:=b2 j hj
 simp only[Bw,or_false] at this
 simp only[this]
section
variable {X:Cx} {P:Pg} {Γ:Ct} {n:Nat} {RT Y old:Addr->Prop} {σ:Sg} {pos:Pos} {K:Fg} {H:Hp}
theorem qH:∀{ds:List D} {ns:List Nat} {ex:Addr->Prop} {vs:List V} {us:List Value},nR ds=some ns->Reps K H ex ds vs->aM vs us->aCn us ns/\ns.length=us.length/\∀n∈ns,n<4
 | [],ns,ex,vs,us,h,r,rv=>by
  cases h
  rw[show vs=[] from r] at rv
  cases rv
  exact⟨.nil,rfl,λn hn=>by cases hn⟩
 | d::ds,ns,ex,vs,us,h,r,rv=>by
  obtain⟨v,vr,e,h1,h2⟩:=r
  subst e
  cases rv with
  | cons r1 r2=>
   cases d with
   | int i=>
    unfold nR at h
    split at h
    . rename_i hi
      cases q:nR ds with
      | none=>rw[q] at h;cases h
      | some ms=>
       rw[q] at h
       cases h
       rw[show v=.int i from h1] at r1
       obtain⟨t,rfl⟩:=r1
       obtain⟨g1,g2,g3⟩:=qH q h2 r2
       refine⟨.cons ⟨by omega,t,?_⟩ g1,by rw[lC,lC,g2],λn hn=>?_⟩
       . rw[C1 hi.1]
       . rcases Al.mp hn with z|z
         . rw[z];omega
         . exact g3 n z
    . cases h
   | _=>cases h
theorem dZ:∀{ns:List Int} {us:List Value},IntsAre us ns->aM (ns.map V.int) us
 | _,_,.nil=>.nil
 | _,_,.cons i t r=>.cons ⟨t,rfl⟩ (dZ r)
theorem lE{ex:Addr->Prop}:∀(ks:List Nat),Reps K H ex (ks.map λ(k:Nat)=>D.int (k:Int)) ((ks.map Int.ofNat).map V.int)
 | []=>.nil
 | k::ks=>.cons rfl (lE ks)
theorem aGV(M:Mc X P Γ n){a:E}{ea:Expr}{f g:Str}{pf pg p2:Pos}(hf:f=("sorted" : Str))(hg:bL Γ f=true)(hf2:g=("set" : Str))(hg2:bL Γ g=true)(ha:PE X ea (WE X P n RT Y old σ a))(hp:aG ea=true) :
 PE X (.Call (.Name f pf) [.Call (.Name g pg) [ea] [] p2] [] pos) (WE X P n RT Y old σ (.sset a)):=by
 subst hf hf2
 intro pins s σV H Q I hw
 obtain⟨S,h⟩:=hw
 have h:=RE.bind' (show RE (ev P (call P n) σ a >>= λx=>(match x.d with
  | .lst ds=>(match nR ds with|some ns=>R.ok (⟨.lst ((bM ns).map λ(k:Nat)=>.int (k:Int)),true,false,[]⟩:Vl)|none=>.bad)
  | _=>.bad)) _ from h)
 obtain⟨x,ex,h⟩:=h.eq
 cases hd:x.d with
 | lst ds=>
  rw[hd] at h
  cases hk:nR ds with
  | none=>simp only[hk] at h;exact h.elim
  | some ns=>
   simp only[hk] at h
   refine B5 (eA I (M.gl hg) (M.md.blt _ (by decide +kernel)) boot_sorted ?_ (by decide +kernel) (by decide +kernel))
   refine Ce ?_ (aA (e:=.Call (.Name "set" pg) [ea] [] p2) (es:=[]) rfl) rfl
   rw[aA (e:=.Call (.Name "set" pg) [ea] [] p2) (es:=[]) rfl]
   show wpAny _ _ (spliced ((false,eval (.Call (.Name "set" pg) [ea] [] p2) X.env)::backTo pos (starEach [] X.env))) _ _ s
   refine C9 (B5 (eA I (M.gl hg2) (M.md.blt _ (by decide +kernel)) (show bootBuiltins "set" = some (.type "set") by kernel_rfl) ?_ (by decide +kernel) (by decide +kernel)))
   refine Br (thn (bQ (es:=[]) ha cT (aA hp) p2 pins s σV H (λus H1=>∃u,us=[u]/\Tk X.K H1/\Ro X.K RT Y old σ σV H H1 x u) I ⟨S,?_⟩) λus s1 ⟨vs,H1,I1,r1,u,e1,t1,ro⟩=>?_) (aA hp) rfl
   . rw[ex]
     intro u H1 t1 ro
     exact⟨u,rfl,t1,ro⟩
   . subst e1
     obtain⟨u',rfl,ru⟩:=r1.one
     obtain⟨b,xs,rfl,hS,_,rr⟩:=(ro.rv S).lst hd
     cases ru
     obtain⟨its,r2,p,_⟩:=I1.list hS
     obtain⟨hK,hKl,h4⟩:=qH hk rr r2
     refine aAR (I1.ok.hd M.calm) p.isList (by simpa using hK) (by rw[Af];exact hKl) λh' tk hset hkeep=>?_
     have I2:L2.Inv X pins σV H1 { s1 with heap:=h',toks:=tk }:=I1.kept λb o e=>hkeep b o (Aj e) e
     refine Ec ?_
     refine vC (s:={ s1 with heap:=h',toks:=tk }) (I2.ok.hd M.calm) hset λh2 tk2 L out m hL hk2 hoL hints=>?_
     have hn:H1 L=none:=I2.hok.fresh hL
     have e4:mP ns=bM ns:=aEq h4
     have l4:(bM ns).length<=4:=by
      unfold bM
      exact Av (Di _ _) (by decide)
     rw[e4] at hints
     have I3:L2.Inv X pins σV (upd H1 L (.lst (((bM ns).map Int.ofNat).map V.int))) { s1 with heap:=h2,toks:=tk2 }:=I2.laid hk2 hL ⟨by rw[lM,lM,Be];omega,out,m,dZ hints,hoL⟩
     have s3:aF H1 (upd H1 L (.lst (((bM ns).map Int.ofNat).map V.int))):=aF.new hn
     refine⟨.ref L,_,I3,rfl,?_⟩
     exact(show Wn X RT Y old σ σV H Q (⟨.lst ((bM ns).map λ(k:Nat)=>.int (k:Int)),true,false,[]⟩:Vl) from h) _ _ I3.tk ⟨ro.1.trans s3,by rw[if_pos rfl];exact⟨L,_,_,rfl,rfl,ro.1.free hn,aL,lE (bM ns)⟩⟩
 | _=>rw[hd] at h;exact h.elim
end
section
variable {X:Cx} {P:Pg} {Γ:Ct} {n:Nat} {RT Y old:Addr->Prop} {σ:Sg} {tg:Expr} {pos:Pos}
theorem aJX(M:Mc X P Γ n){i:Nat}{k:E}{x:Str}{p:Pos}{ix:Expr}(hx:aP Γ i x=true)(hk:PE X ix (WE X P n RT Y old σ k))(hp:aG ix=true):PE X (.Subscript (.Name x p) ix pos) (WE X P n RT Y old σ (.lix i k)):=by
 have hpe:PE X (.Name x p) (wF i):=by
  unfold aP at hx
  simp only[bA] at hx
  obtain⟨⟨h1,h2⟩,h3⟩:=hx
  exact iR (by rw[M.N];exact eq_of_beq h1) (M.vis h2) (aH h3) (dE h3)
 refine(yL rF hpe hk (fK hp)).imp λσV H Q t ⟨S,h⟩=>?_
 obtain⟨y,ey,h⟩:=(RE.bind' (show RE (ev P (call P n) σ k >>= λy=>(match σ[i]? with|some (.lent ds)=>bT ⟨.lst ds,false,true,[]⟩ y|_=>.bad)) _ from h)).eq
 cases e:σ[i]? with
 | none=>rw[e] at h;exact h.elim
 | some sl=>
  rw[e] at h
  cases sl with
  | lent ds=>
   have h:RE (bT ⟨.lst ds,false,true,[]⟩ y) _:=h
   obtain⟨a,xs,h1,h2,h3,h4,h5⟩:=S.lx.at' i ds e
   refine⟨.ref a,h1,S,?_⟩
   rw[ey]
   intro uy H1 t1 r1
   unfold bT at h
   cases hd:y.d with
   | int j=>
    rw[hd] at h
    have h:RE (match Hp.ixN ds.length j with|some j=>(match ds[j]? with|some d=>R.ok (Vl.sub ⟨.lst ds,false,true,[]⟩ d)|none=>.bad)|none=>.bad) _:=h
    cases hj:Hp.ixN ds.length j with
    | none=>rw[hj] at h;exact h.elim
    | some m=>
     rw[hj] at h
     cases hm:ds[m]? with
     | none=>simp only[hm] at h;exact h.elim
     | some d=>
      simp only[hm] at h
      obtain⟨v,hv,rv⟩:=(h5.grow r1.1).get hm
      have rv:Rep X.K H1 (exV RT Y old σ σV true []) d v:=rv.weak λb z=>z.imp (·.1) id
      refine .inl ⟨a,xs,j,v,rfl,(r1.rv S).int hd,SqL.of (r1.1 _ _ h2),?_,λt'=>h v H1 t' ((Rv.ofSub (x:=⟨.lst ds,false,true,[]⟩) rv).from r1.1)⟩
      unfold atI
      rw[<-h5.length,<-iY,hj]
      exact hv
   | _=>rw[hd] at h;exact h.elim
  | _=>exact h.elim
theorem vD:∀{ds:List D},noLs ds=true↔∀d∈ds,noL d=true
 | []=>by simp[noLs]
 | d::ds=>by simp[noLs,vD (ds:=ds)]
theorem xO{ds:List D}{k:Nat}(h:noLs ds=true):noLs (cU k ds)=true:=by
 rw[vD] at h ⊢
 intro d hd
 obtain⟨m,_,e⟩:=Co.mp hd
 exact h d (mG e)
theorem xP(its:List Value){k:Nat}(hk:0<k):slicePick its.toArray none none (some (k:Int))=(cU k its).toArray:=by
 unfold slicePick sliceBounds sliceRange cU
 have hk':(k:Int)>0:=by omega
 simp only[Option.getD_some,if_pos hk',Af]
 congr 1
 rw[List.filterMap_map]
 have e:(if (0:Int)<(its.length:Int) then ((its.length:Int)-0+(k:Int)-1) / (k:Int) else 0).toNat=(its.length+k-1) / k:=by
  by_cases h0:0<its.length
  . rw[if_pos (by omega)]
    have:(its.length:Int)-0+(k:Int)-1=((its.length+k-1:Nat):Int):=by omega
    rw[this,<-Int.natCast_ediv,Bg]
  . rw[if_neg (by omega)]
    have:its.length=0:=by omega
    rw[this]
    exact(Nat.div_eq_of_lt (by omega)).symm
 rw[e]
 congr 1
 funext m
 show its.toArray[((0:Int)+(k:Int)*(m:Int)).toNat]? = _
 have:((0:Int)+(k:Int)*(m:Int)).toNat=m*k:=by
  rw[Int.zero_add,<-Int.natCast_mul,Bg,Nat.mul_comm]
 rw[this]
 simp
theorem aAT{α:Type}(k:Nat)(xs:List α)(hk:0<k):(cU k xs).length<=xs.length:=by
 unfold cU
 refine Av (List.length_filterMap_le _ _) ?_
 rw[List.length_range]
 cases h:xs.length with
 | zero=>exact Nat.le_of_eq (Nat.div_eq_of_lt (by omega))
 | succ m=>
  refine Nat.div_le_of_le_mul ?_
  have:m+1<=k*(m+1):=Nat.le_mul_of_pos_left _ hk
  have:k*(m+1)=k*m+k:=by rw[Nat.mul_succ]
  have:m<=k*m:=Nat.le_mul_of_pos_left _ hk
  omega
theorem lF{xs:List V}{us:List Value}(r:aM xs us):∀L:List Nat,aM (L.filterMap λm=>xs[m]?) (L.filterMap λm=>us[m]?)
 | []=>.nil
 | m::L=>by
  cases e:xs[m]? with
  | none=>
   rw[Ba e,Ba (r.none_of e)]
   exact lF r L
  | some x=>
   obtain⟨u,hu,ru⟩:=r.get e
   rw[B3 e,B3 hu]
   exact .cons ru (lF r L)
theorem lG{K:Fg}{H:Hp}{ex:Addr->Prop}{ds:List D}{xs:List V}(r:Reps K H ex ds xs):∀L:List Nat,Reps K H ex (L.filterMap λm=>ds[m]?) (L.filterMap λm=>xs[m]?)
 | []=>.nil
 | m::L=>by
  cases e:ds[m]? with
  | none=>
   have e2:xs[m]? = none:=by
    rw[Ds] at e ⊢
    rw[<-r.length];exact e
   rw[Ba e,Ba e2]
   exact lG r L
  | some d=>
   obtain⟨x,hx,rx⟩:=r.get e
   rw[B3 e,B3 hx]
   exact .cons rx (lG r L)
theorem fN{α:Type}(k:Nat)(xs:List α):cU k xs=((List.range ((xs.length+k-1) / k)).map (·*k)).filterMap λm=>xs[m]? := by
 unfold cU
 rw[List.filterMap_map]
 rfl
theorem aJY{a:E}{k:Nat}{ea:Expr}{kk:Nat}{p p2:Pos}(ha:PE X ea (WE X P n RT Y old σ a)):PE X (.Subscript ea (.Slice none none (some (.Constant (.int k) kk p)) p2) pos) (WE X P n RT Y old σ (.stp a k)):=by
 intro pins s σV H Q I hw
 obtain⟨S,h⟩:=hw
 have h:=RE.bind' (show RE (ev P (call P n) σ a >>= λx=>(match x.d with
  | .lst ds=>R.iff (decide (0<k)) (R.ok (⟨.lst (cU k ds),true,x.pa&&!noLs ds,if noLs ds then [] else x.al⟩:Vl))
  | _=>.bad)) _ from h)
 refine Subscript_ (thn (ha pins s σV H (λu H1=>∃a' xs,u=.ref a'/\SqL X.K H1 a' xs/\0<k/\∀p,H1 p=none->Tk X.K (upd H1 p (.lst (cU k xs)))->Q (.ref p) (upd H1 p (.lst (cU k xs)))) I (wE.one S h λx u H1 hx t1 S1 r1=>?_)) λv s1 ⟨x,H1,I1,r1,a',xs,e,hq,hk,q⟩=>?_)
 . split at hx
   . rename_i ds d1
     obtain⟨hk,hx⟩:=hx.iff
     have hk:=As hk
     obtain⟨a',xs,e,qq,_,r⟩:=(r1.rv S).lst d1
     refine⟨a',xs,e,qq,hk,λp hp t'=>(show Wn X RT Y old σ σV H Q _ from hx) _ _ t' ((Ro.fresh hp t' rfl rfl S1 ?_).from r1.1)⟩
     have rr:=lG r ((List.range ((ds.length+k-1) / k)).map (·*k))
     rw[<-fN,r.length,<-fN] at rr
     by_cases hn:noLs ds=true
     . have hn2:noLs (cU k ds)=true:=xO hn
       exact Reps.free _ _ hn2 rr
     . show Reps X.K H1 (exV RT Y old σ σV (x.pa&&!noLs ds) (if noLs ds=true then [] else x.al)) _ _
       have hn':noLs ds=false:=by simpa using hn
       rw[hn',if_neg bN,Ek,D1]
       exact rr
   . exact hx.elim
 . subst e
   cases r1
   refine wpAny_Slice ?_
   rw[evalPart_none]
   refine Ad (Ad ?_)
   rw[evalPart_some]
   refine thn (wG pins s1 σV H1 (λv H'=>v=.int k/\H'=H1) I1 ⟨rfl,rfl⟩) λvk s2 ⟨y,H2,I2,r2,e1,e2⟩=>?_
   subst e1 e2
   obtain⟨tk,rfl⟩:=r2
   have I3:L2.Inv X pins σV H2 { s2 with heap:=s2.heap.push { cls:=.type "slice",data:=.fields #[.none,.none,.int k tk] } }:=I2.kept (t':=s2.toks) λb ob q=>Ab _ q
   obtain⟨its,rv,ht,hz⟩:=I3.list hq
   have hlen:=rv.length
   refine tail_any (ops:=[.ref a',.ref s2.heap.objs.size]) ht.isList.typeIs slot_list_getitem.lookup ?_ (by with_unfolding_all rfl)
   refine wpAny_getItem_list_slice ht.isList (Heap.IsSliceOf.new ..) .none .none (.int k tk) (by intro z;have:=Ai z;omega) ?_ (by rw[Af] <;> omega)
   rw[xP its hk]
   have l2:aM (cU k xs) (cU k its):=by
    have:=lF rv ((List.range ((xs.length+k-1) / k)).map (·*k))
    rw[<-fN,hlen,<-fN] at this
    exact this
   have I4:=I3.laid (t':=s2.toks) (o:=.lst (cU k xs)) (h':=_) (λb ob q=>Ab _ q) (Ag _) ⟨Av (aAT k xs hk) hz,_,0,l2,Ah _ rfl⟩
   exact⟨.ref _,_,I4,rfl,q _ (I3.hok.fresh (Ag _)) I4.tk⟩
end
end Hp
end
noncomputable section
namespace L2
open PySem PySem.Spec PyProof.Rows
set_option maxRecDepth 100000
set_option maxHeartbeats 4000000
section
variable {prog:Program} {w:World} {A:Around} {E:Value->Shared->Prop} {s:Shared}
theorem aEr{k:Nat}{v:Value}(h:jJ (.inl (k:Int)) v=true):∃t,v=Value.int k t:=by
 cases v <;> simp[jJ,Value.isInt] at h
 . rename_i i t
   exact⟨t,by rw[h]⟩
theorem aJZ{ks:List Nat}{i:Nat}{k:Key}{x:Value}(h:(kU ks)[i]? = some (k,x)):∃n,ks[i]? = some n/\k=.inl (n:Int):=by
 unfold kU at h
 rw[Ax] at h
 cases e:ks[i]? with
 | none=>rw[e] at h;cases h
 | some n=>rw[e] at h;cases h;exact⟨n,rfl,rfl⟩
theorem yZ{P:Nat->Value->Prop}:∀{ks:List Nat} {vs:List Value},vs.length=ks.length->(∀(j:Nat) v,vs[j]? = some v->∃n t,ks[j]? = some n/\v=Value.int (n:Nat) t)->IntsAre vs (ks.map Int.ofNat)
 | [],[],_,_=>.nil
 | k::ks,v::vs,hl,h=>by
  obtain⟨n,t,h1,h2⟩:=h 0 v rfl
  cases h1
  rw[h2]
  exact .cons _ _ (yZ (P:=P) (by simpa using hl) λj v q=>h (j+1) v q)
theorem aCs{S:Addr}{ks:List Nat}{ep:Nat}{Q:List Value->Shared->Prop}(hh:A.handled=none)(hn:(S==sysModules)=false)(hl:ks.length<=60)(ho:s.heap.DictAt (bS prog w) S (kU ks) ep)
 (hQ:∀s' acc,(∀b o,s.heap.get? b=some o->s'.heap.get? b=some o)->(s.heap.objs.size<s'.heap.objs.size/\∃tk h',s'={ s with heap:=h',toks:=tk })->IntsAre acc (ks.map Int.ofNat)->acc.length=ks.length->Q acc s'):wpAny (model prog w) A (collect (.ref S)) Q E s:=by
 obtain⟨o,es,g1,g2⟩:=ho
 have at':∀{h:Heap},h.get? S=some o->h.DictAt (bS prog w) S (kU ks) ep:=λq=>⟨o,es,q,g2⟩
 have ty:∀{s':Shared},s'.heap.get? S=some o->s'.TypeIs (.ref S) "dict" := λq=>⟨_,q,g2.1.1⟩
 have hSL:S<s.heap.objs.size:=Aj g1
 have hlU:(kU ks).length=ks.length:=lM _
 unfold collect
 refine Aa (wpAny_runValue (Cj F.entry_proto_collect ?_))
 rw[B7 F.plain_proto_collect _]
 show wpAny _ A.in1 (newList [] >>= λl=>again (.builtin "list.__iadd__" ⟨[l,.ref S],[]⟩)) _ _ s
 refine Aa (Bf ?_)
 refine Ad ⟨D3 Ej _,Cj F.entry_list_iadd ?_⟩
 rw[B7 Ej _]
 have ho1:(s.heap.push { cls:=.type "list",data:=.seq ([]:List Value).toArray }).get? S=some o:=Ab _ g1
 have hT1:Shared.TypeIs { s with heap:=s.heap.push { cls:=.type "list",data:=.seq ([]:List Value).toArray } } (.ref S) "dict" := ty ho1
 have hL1:(s.heap.push { cls:=.type "list",data:=.seq ([]:List Value).toArray }).get? s.heap.objs.size=some { cls:=.type "list",data:=.seq ([]:List Value).toArray }:=Ah _ rfl
 have h1:Builtin.List.listSameRef (.ref s.heap.objs.size) (.ref S)=false:=by
  simp only[Builtin.List.listSameRef,A1]
  exact B4 hSL
 show wpAny _ A.in1 (Builtin.List.listExtendWith (.ref s.heap.objs.size) (.ref S) (.ref s.heap.objs.size)) _ _ _
 unfold Builtin.List.listExtendWith
 refine Aa (Dn hT1 ?_)
 rw[if_neg (by rw[h1];decide)]
 refine Aa (wpAny_pyIter_dict hn (at' ho1) ?_)
 generalize hI:({ cls:=Value.type "dict_keyiterator",data:=Data.fields #[Value.ref S,Value.int 0 0,Value.int ((kU ks).length:Int) 0,Value.int (ep:Int) 0] }:Obj)=oI
 refine Aa (B2 ?_)
 have ho2:((s.heap.push { cls:=.type "list",data:=.seq ([]:List Value).toArray }).push oI).get? S=some o:=Ab _ ho1
 have hT2:Shared.TypeIs { s with heap:=(s.heap.push { cls:=.type "list",data:=.seq ([]:List Value).toArray }).push oI } (.ref S) "dict" := ty ho2
 unfold Builtin.List.listLengthHint
 refine Aa (wpAny_specialOf hT2 PySem.F.slot_dict_len.lookup ?_)
 generalize hid:("dict.__len__" : String)=id0
 wp_delta
 rw[show splitId id0=some ("dict", "__len__") from by subst hid;decide +kernel]
 subst hid
 refine Aa (Dq (b:=true) hT2 (by rw[isSubtype_type];kernel_rfl) ?_)
 rw[if_neg (by decide)]
 dsimp only
 rw[if_pos (by decide +kernel)]
 refine Aa (Dn hT2 ?_)
 refine Ad ?_
 rw[if_pos (by decide +kernel)]
 refine Aa (D8 ?_)
 unfold Builtin.List.listTouch
 have hL2:((s.heap.push { cls:=.type "list",data:=.seq ([]:List Value).toArray }).push oI).get? s.heap.objs.size=some { cls:=.type "list",data:=.seq ([]:List Value).toArray }:=Ab _ hL1
 refine Aa (Aa (listUpdate_at (f:=λx=>x.push Value.none) hL2 rfl ?_))
 have hL3:=get?_update_seq (c:= "list") (xs:=#[]) (n:=0) hL2 (λx=>x.push Value.none)
 refine listUpdate_at (f:=λx=>x.pop) hL3 rfl ?_
 have hL4:=get?_update_seq hL3 (λx=>x.pop)
 have hIsz:(s.heap.push { cls:=.type "list",data:=.seq ([]:List Value).toArray }).objs.size=s.heap.objs.size+1:=size_push' _ _
 have hI2:((s.heap.push { cls:=.type "list",data:=.seq ([]:List Value).toArray }).push oI).get? (s.heap.push { cls:=.type "list",data:=.seq ([]:List Value).toArray }).objs.size=some oI:=Ah _ (by rw[<-hI];rfl)
 rw[hIsz] at hI2 ⊢
 have keep:∀b o,b≠s.heap.objs.size->((s.heap.push { cls:=.type "list",data:=.seq ([]:List Value).toArray }).push oI).get? b=some o->((((s.heap.push { cls:=.type "list",data:=.seq ([]:List Value).toArray }).push oI).update s.heap.objs.size (Obj.mapSeq λx=>x.push Value.none)).update s.heap.objs.size (Obj.mapSeq λx=>x.pop)).get? b=some o:=λb o hb e=>by
  rw[Dy _ _ _ _ hb,Dy _ _ _ _ hb];exact e
 have hSI:S≠s.heap.objs.size+1:=λz=>Nat.not_lt.mpr (Dm _) (z▸hSL)
 have hSf:s.heap.objs.size∉[s.heap.objs.size+1,S]:=λhm=>by
  rcases Al.mp hm with z|z
  . exact absurd z (by omega)
  . rw[<-Az.mp z] at hSL;exact A8 _ hSL
 refine Ad ⟨D3 F.plain_extend_loop _,codeAny_extend_loopS (Walks.dictKeys (knd:=bS prog w) (A:=A.in1) hh (s.heap.objs.size+1) S hSI (kU ks) ep).toS (by rw[hlU];exact Av hl (by decide)) _ hSf _ (kU ks).length 0 _ #[] 2 (Nat.sub_zero _) (Bj _) ⟨⟨oI,keep _ _ (by omega) hI2,by rw[<-hI],by rw[<-hI];rfl⟩,at' (keep _ _ (Ao hSL) ho2)⟩ hL4 (ItemsOf.nil _) λs' acc' c' hm hS' hacc=>?_⟩
 show wpAny _ A (load s.heap.objs.size >>= _) _ _ s'
 refine Aa (wpAny_load hS' ?_)
 have hlen:acc'.toList.length=ks.length:=by rw[A7,hacc.1,hlU]
 refine Ad (hQ s' acc'.toList (λb o e=>?_) ?_ ?_ hlen)
 . have hb:b<s.heap.objs.size:=Aj e
   refine hm.heap b o (λz=>?_) (keep b o (Ao hb) (Ab _ (Ab _ e)))
   rcases Al.mp z with z|z
   . exact Ao hb z
   . exact Nat.not_lt.mpr (Dm _) (Az.mp z▸hb)
 . obtain⟨h',g',d',tk',os'⟩:=s'
   have eg:g'=s.gens:=hm.gens
   have ed:d'=s.drawn:=hm.drawn
   have eo:os'=s.os:=hm.os
   subst eg;subst ed;subst eo
   exact⟨Aj hS',tk',h',rfl⟩
 . refine yZ (P:=λ_ _=>True) hlen λj v q=>?_
   rw[Cr] at q
   obtain⟨k,x,h1,h2⟩:=hacc.2 j v q
   obtain⟨n,e1,rfl⟩:=aJZ h1
   obtain⟨t,rfl⟩:=aEr h2
   exact⟨n,t,e1,rfl⟩
theorem vE{S:Addr}{ks js:List Nat}{Q:Value->Shared->Prop}(hh:A.handled=none)(hn:(S==sysModules)=false)(hl:ks.length<=60)(hS:s.heap.DictOf (bS prog w) S (kU ks))(hp:ks.Perm js)(hj:(js.map Int.ofNat).Pairwise (·<=·))
 (h:∀(h':Heap) (tk:Nat) (L:Addr) (out:List Value) (n:Nat),s.heap.objs.size<=L->(∀b o,s.heap.get? b=some o->h'.get? b=some o)->h'.get? L=some (seqObj "list" out.toArray n)->IntsAre out (js.map Int.ofNat)->Q (.ref L) { s with heap:=h',toks:=tk }) :
 wpAny (model prog w) A (call (.builtin "sorted") [.ref S]) Q E s:=by
 obtain⟨o,es,ep,ho⟩:=hS
 refine Calls.call_function_entry kind_sorted plain_sorted entry_sorted (args_sorted1 _) ?_
 unfold Builtin.«sorted»
 refine Aa (m:=checkCount "sorted" 1 1 _) (Ad ?_)
 refine Aa (aCs (ep:=ep) (ks:=ks) hh hn hl ⟨o,es,ho⟩ λs' acc hk hs' hI hlen=>?_)
 obtain⟨hle,tk,h1,rfl⟩:=hs'
 have h64:acc.length<64:=by omega
 refine Aa (wpAny_newList ?_ (Av (C7 h64) (by decide)))
 have hoL:(h1.push (seqObj "list" acc.toArray 0)).get? h1.objs.size=some (seqObj "list" acc.toArray 0):=Ah _ rfl
 refine Aa (B2 (Bb (s:={ s with heap:=h1.push (seqObj "list" acc.toArray 0),toks:=tk }) slot_list_sort ⟨_,hoL,rfl⟩ entry_list_sort (list_sort_tree hoL hI h64 λout ns' a1 a2 a3=>⟨_,rfl,?_⟩) (args_list_sort _)))
 have e:ns'=js.map Int.ofNat:=rX a3 hj (a2.trans (hp.map _))
 obtain⟨n,hL⟩:=sortedHeap_at (out:=out) hoL
 refine Ad ⟨_,rfl,h _ _ h1.objs.size out.toList n (C7 hle) (λb o q=>?_) (by rw[Array.toArray_toList];exact hL) (e▸a1)⟩
 have hb:b<h1.objs.size:=Aj (hk b o q)
 rw[sortedHeap_old (Ao hb) (by rw[size_push'];exact B1 hb)]
 exact Ab _ (hk b o q)
end
end L2
end
noncomputable section
namespace Hp
open PySem PySem.Spec PyProof.Rows L2
theorem zA{α:Type}[DecidableEq α]:∀{as bs:List α},as.Nodup->bs.Nodup->(∀a,a∈as↔a∈bs)->as.Perm bs
 | [],bs,_,_,h=>by
  cases bs with
  | nil=>exact .nil
  | cons b _=>exact absurd ((h b).mpr Ak) (by simp)
 | a::as,bs,ha,hb,h=>by
  obtain⟨h1,h2⟩:=Bu.mp ha
  have hm:a∈bs:=(h a).mp Ak
  refine .trans (.cons a (zA h2 (hb.erase a) λb=>?_)) (List.perm_cons_erase hm).symm
  rw[hb.mem_erase_iff]
  constructor
  . intro z
    exact⟨λe=>h1 (e▸z),(h b).mp (Ae _ z)⟩
  . rintro ⟨z1,z2⟩
    rcases Al.mp ((h b).mpr z2) with z|z
    . exact absurd z z1
    . exact z
theorem aAU{ks:List Nat}(hn:ks.Nodup)(h:∀k∈ks,k<4):ks.Perm (bM ks):=by
 unfold bM
 refine zA hn (List.nodup_range.filter _) λk=>?_
 rw[Cu,Cm]
 exact⟨λz=>⟨h k z,Au z⟩,λz=>As z.2⟩
theorem aAV(ks:List Nat):((bM ks).map Int.ofNat).Pairwise (·<=·):=by
 refine List.pairwise_map.mpr ((List.Pairwise.filter _ List.pairwise_lt_range).imp λ{a b} z=>?_)
 exact Int.ofNat_le.mpr (C7 z)
theorem rY{σ:Sg}{i:Nat}{ks:List Nat}(h:mK σ i=some ks):σ[i]? = some (.dct (.s ks)):=by
 unfold mK at h
 split at h
 . rename_i e;cases h;exact e
 . cases h
theorem aCt{ks:List Nat}(h:((kU ks).map (·.1)).Nodup):ks.Nodup:=by
 unfold kU at h
 rw[Bv] at h
 exact List.Pairwise.imp (λ{a b} z e=>z (by rw[e])) (List.pairwise_map.mp h)
section
variable {X:Cx} {P:Pg} {Γ:Ct} {n:Nat} {RT Y old:Addr->Prop} {σ:Sg} {pos:Pos}
theorem aGW(M:Mc X P Γ n){i:Nat}{x f:Str}{pf px:Pos}(hf:f=("sorted" : Str))(hg:bL Γ f=true)(hx:aP Γ i x=true) :
 PE X (.Call (.Name f pf) [.Name x px] [] pos) (WE X P n RT Y old σ (.srtD i)):=by
 subst hf
 have hpe:PE X (.Name x px) (wF i):=by
  unfold aP at hx
  simp only[bA] at hx
  obtain⟨⟨h1,h2⟩,h3⟩:=hx
  exact iR (by rw[M.N];exact eq_of_beq h1) (M.vis h2) (aH h3) (dE h3)
 intro pins s σV H Q I ⟨S,h⟩
 have h:RE (match mK σ i with|some ks=>R.iff (decide (∀k∈ks,k<4)) (.ok (⟨.lst ((bM ks).map λ(k:Nat)=>.int (k:Int)),true,false,[]⟩:Vl))|none=>.bad) (Wn X RT Y old σ σV H Q):=h
 cases hk:mK σ i with
 | none=>rw[hk] at h;exact h.elim
 | some ks=>
  rw[hk] at h
  obtain⟨h4,h⟩:=h.iff
  have h4:=As h4
  obtain⟨a,g1,g2,g3,g4⟩:=S.dx.at' i _ (rY hk)
  refine B5 (eA I (M.gl hg) (M.md.blt _ (by decide +kernel)) boot_sorted ?_ (by decide +kernel) (by decide +kernel))
  refine Ce ?_ (aA (e:=.Name x px) (es:=[]) rfl) rfl
  rw[aA (e:=.Name x px) (es:=[]) rfl]
  show wpAny _ _ (spliced ((false,eval (.Name x px) X.env)::backTo pos (starEach [] X.env))) _ _ s
  refine C9 (thn (hpe pins s σV H (λu H1=>u=.ref a/\H1=H) I ⟨.ref a,g1,rfl,rfl⟩) λv s1 ⟨u,H1,I1,ru,e1,e2⟩=>Ec ?_)
  subst e1 e2
  cases ru
  obtain⟨q1,q2⟩:=yO I1 (show H1 a=some (.dK (kT ks)) from g4)
  have nd:ks.Nodup:=by
   obtain⟨_,_,_,_,_,_,_,_,z⟩:=q2
   exact aCt z
  have pm:=aAU nd h4
  have l4:(bM ks).length<=4:=by
   unfold bM
   exact Av (Di _ _) (by decide)
  refine vE (I1.ok.hd M.calm) q1 (by rw[pm.length_eq];omega) q2 pm (aAV ks) λh2 tk2 L out m hL hk2 hoL hints=>?_
  have hn:H1 L=none:=I1.hok.fresh hL
  have I3:L2.Inv X pins σV (upd H1 L (.lst (((bM ks).map Int.ofNat).map V.int))) { s1 with heap:=h2,toks:=tk2 }:=I1.laid hk2 hL ⟨by rw[lM,lM,Be];omega,out,m,dZ hints,hoL⟩
  refine⟨.ref L,_,I3,rfl,?_⟩
  exact(show Wn X RT Y old σ σV H1 Q (⟨.lst ((bM ks).map λ(k:Nat)=>.int (k:Int)),true,false,[]⟩:Vl) from h) _ _ I3.tk ⟨aF.new hn,by rw[if_pos rfl];exact⟨L,_,_,rfl,rfl,hn,aL,lE (bM ks)⟩⟩
end
section
variable {X:Cx} {P:Pg} {Γ:Ct} {n:Nat} {RT Y old:Addr->Prop} {σ:Sg} {pos:Pos}
def WP(X:Cx)(P:Pg)(n:Nat)(RT Y old:Addr->Prop)(σ:Sg)(cs:Es):TA:=λσV H Q=>Sx X.K RT Y old σ σV H/\RE (evP P (call P n) σ cs) λds=>∀us H',Tk X.K H'->aF H H'->Reps X.K H' (λ_=>False) ds us->Q us H'
theorem aKa:PA X [] (WP X P n RT Y old σ .nil):=cT.imp λσV H Q t ⟨S,h⟩ t'=>(show ∀us H',Tk X.K H'->aF H H'->Reps X.K H' (λ_=>False) [] us->Q us H' from h) [] H t' (aF.refl H) rfl
def wQ(X:Cx)(P:Pg)(n:Nat)(RT Y old:Addr->Prop)(σ:Sg)(c:E):TE:=λσV H Q=>Sx X.K RT Y old σ σV H/\RE (evQ σ c (ev P (call P n) σ c)) λd=>∀u H',Tk X.K H'->aF H H'->Rep X.K H' (λ_=>False) d u->Q u H'
theorem aGX{c:E}{cs:Es}{e:Expr}{es:List Expr}(ha:PE X e (wQ X P n RT Y old σ c))(hr:PA X es (WP X P n RT Y old σ cs))(hp:aG e=true):PA X (e::es) (WP X P n RT Y old σ (.cons c cs)):=by
 refine(bQ ha hr (aA hp)).imp λσV H Q t ⟨S,h⟩=>?_
 have h:=RE.bind' (show RE (evQ σ c (ev P (call P n) σ c) >>= λx=>evP P (call P n) σ cs >>= λxs=>R.ok (x::xs)) _ from h)
 refine⟨S,h.mono λx hx u H1 t1 s1 r1=>⟨S.grow s1 t1,(RE.bind' hx).mono λvs hv us H2 t2 s2 r2 t'=>?_⟩⟩
 exact hv (u::us) H2 t' (s1.trans s2) ⟨u,us,rfl,Rep.grow r1 s2,r2⟩
theorem aKb{c:E}{e:Expr}(hn:∀i k,c≠.o2 i k)(ha:PE X e (WE X P n RT Y old σ c)):PE X e (wQ X P n RT Y old σ c):=by
 refine ha.imp λσV H Q t ⟨S,h⟩=>?_
 have e:evQ σ c (ev P (call P n) σ c)=ev P (call P n) σ c >>= λx=>R.ok x.d:=by
  cases c with
  | o2 i k=>exact absurd rfl (hn i k)
  | _=>rfl
 rw[e] at h
 exact⟨S,(RE.bind' h).mono λx hx u H1 t1 r1 t'=>(show ∀u H',Tk X.K H'->aF H H'->Rep X.K H' (λ_=>False) x.d u->Q u H' from hx) u H1 t' r1.1 (Rep.weak (r1.rv S) λ_ z=>z.elim)⟩
theorem Rws.get'{K:Fg}{H:Hp}:∀{dss:List (List D)} {bs:List Addr},Rws K H dss bs->∀{k:Nat} {ds:List D},dss[k]? = some ds->∃b xs,bs[k]? = some b/\H b=some (.lst xs)/\noLs ds=true/\Reps K H (λ_=>False) ds xs
 | [],_,h,k,ds,e=>by cases e
 | d::dss,_,h,k,ds,e=>by
  obtain⟨b,r,xs,rfl,h1,h2,h3,h4⟩:=h
  cases k with
  | zero=>cases e;exact⟨b,xs,rfl,h1,h2,h3⟩
  | succ k=>exact Rws.get' h4 e
theorem aFy(M:Mc X P Γ n){i k:Nat}{x:Str}{p cp:Pos}{t:Nat}(hx:aP Γ i x=true):PE X (.Subscript (.Name x p) (.Constant (.int k) t cp) pos) (λσV H Q=>∃(a:Addr) (bs:List Addr) (b:Addr),σV[i]? = some (some (.ref a))/\H a=some (.lst (bs.map V.ref))/\bs[k]? = some b/\Q (.ref b) H):=by
 have hpe:PE X (.Name x p) (wF i):=by
  unfold aP at hx
  simp only[bA] at hx
  obtain⟨⟨h1,h2⟩,h3⟩:=hx
  exact iR (by rw[M.N];exact eq_of_beq h1) (M.vis h2) (aH h3) (dE h3)
 refine(yL rF hpe wG (fK rfl)).imp λσV H Q t ⟨a,bs,b,g1,g2,k1,h⟩=>?_
 refine⟨.ref a,g1,.inl ⟨a,bs.map V.ref,k,.ref b,rfl,rfl,SqL.of g2,?_,λ_=>h⟩⟩
 have hb:k<bs.length:=(Ay.mp k1).1
 unfold atI
 rw[<-iY]
 have:Hp.ixN (bs.map V.ref).length (k:Int)=some k:=by
  unfold Hp.ixN
  rw[lM,if_pos (by omega),if_pos (by omega),Bg]
 rw[this]
 show(bs.map V.ref)[k]? = _
 rw[Ax,k1]
 rfl
theorem aKc(M:Mc X P Γ n){i k:Nat}{x:Str}{p cp:Pos}{t:Nat}(hx:aP Γ i x=true):PE X (.Subscript (.Name x p) (.Constant (.int k) t cp) pos) (wQ X P n RT Y old σ (.o2 i k)):=by
 refine(aFy M hx).imp λσV H Q t ⟨S,h⟩=>?_
 have h:RE (nS σ i k) λd=>∀u H',Tk X.K H'->aF H H'->Rep X.K H' (λ_=>False) d u->Q u H':=h
 unfold nS at h
 cases e:pL σ i with
 | none=>rw[e] at h;exact h.elim
 | some dss=>
  rw[e] at h
  dsimp only at h
  cases e2:dss[k]? with
  | none=>rw[e2] at h;exact h.elim
  | some ds=>
   rw[e2] at h
   obtain⟨a,bs,g1,g2,g3,g4,g5⟩:=S.lx.at2 i dss (yV e)
   obtain⟨b,xs,k1,k2,k3,k4⟩:=g5.get' e2
   exact⟨a,bs,b,g1,g2,k1,λt'=>(show ∀u H',Tk X.K H'->aF H H'->Rep X.K H' (λ_=>False) (.lst ds) u->Q u H' from h) _ H t' (aF.refl H) ⟨b,xs,rfl,SqL.of k2,λz=>z,k4⟩⟩
theorem aEs(M:Mc X P Γ n){f:Nat}{cs:Es}{x:Str}{p:Pos}{e:Expr}{es:List Expr}(hf:Γ.fns[f]? = some x)(hg:bL Γ x=true)(ho:bD x=true)(ha:PA X (e::es) (WP X P n RT Y old σ cs))(hp:(e::es).all aG=true) :
 PE X (.Call (.Name x p) (e::es) [] pos) (WE X P n RT Y old σ (.callP f cs)):=by
 obtain⟨fa,fd,ps,h1,h2,h3,h4⟩:=M.md.fn f x hf
 have hp':aG e=true/\es.all aG=true:=by simpa using hp
 refine(mU h4 M.room (M.gl hg) h1 h2 h3 .nil tX ha (aH ho) (aA hp'.1) (bO hp'.2)).imp λσV H Q t ⟨S,h⟩=>?_
 have h:=RE.bind' (show RE (evP P (call P n) σ cs >>= λds=>call P n f ds >>= λr=>aAw r) _ from h)
 refine⟨S,h.mono λds hx us H1 t1 s1 r1=>?_⟩
 have S1:=S.grow s1 t1
 refine .inl ⟨ds,λ_=>False,λ_ z=>z.elim,by rw[Bt];exact r1,(RE.bind' hx).mono λr hr u' H' t' s' rr _=>?_⟩
 obtain⟨hc,hw⟩:=RE.iff (show RE (R.iff (!r.2.2) (R.ok (⟨r.1,r.2.1,false,[]⟩:Vl))) _ from hr)
 have hc:r.2.2=false:=by simpa using hc
 refine(show Wn X RT Y old σ σV H Q ⟨r.1,r.2.1,false,[]⟩ from hw) u' H' t' ⟨s1.trans s',?_⟩
 unfold Rr at rr
 have key:∀c,exV RT Y old σ σV false [] c->False\/r.2.2=false/\H1 c≠none:=λc z=>.inr ⟨hc,exV.trk S1 z⟩
 split at rr
 . rename_i hf
   rw[if_pos hf]
   obtain⟨c,xs,ds,e1,e2,e3,e4,rr⟩:=rr
   exact⟨c,xs,ds,e1,e2,s1.free e3,e4,rr.weak λd z=>z.elim .inl λz=>.inr (key d z)⟩
 . rename_i hf
   rw[if_neg hf]
   exact Rep.weak rr key
end
section
variable {K:Fg} {H:Hp} {ex:Addr->Prop}
theorem qJ:∀{ds:List D} {is:List Int} {xs:List V},gH ds=some is->Reps K H ex ds xs->xs=is.map V.int
 | [],is,xs,e,r=>by cases e;exact r
 | d::ds,is,xs,e,r=>by
  obtain⟨x,r',rfl,h1,h2⟩:=r
  cases d with
  | int i=>
   unfold gH at e
   cases q:gH ds with
   | none=>rw[q] at e;cases e
   | some ns=>
    rw[q] at e
    cases e
    rw[qJ q h2,show x=.int i from h1]
    rfl
  | _=>cases e
theorem qK{d:D}{is:List Int}{u:V}(e:fY d=some is)(r:Rep K H ex d u):∃b,u=.ref b/\SqT K H b (is.map V.int):=by
 cases d with
 | tup ds=>
  obtain⟨b,xs,e1,e2,e3⟩:=r
  rw[qJ e e3] at e2
  exact⟨b,e1,e2⟩
 | _=>cases e
theorem dB.keys:∀{kvs:List (List Int×D)} {xs:TKV},dB K H ex kvs xs->∀x∈xs,SqT K H x.2.1 (x.1.map V.int)
 | [],_,h,x,hx=>by rw[show _=[] from h] at hx;cases hx
 | kv::kvs,_,h,x,hx=>by
  obtain⟨y,r,e,_,_,h3,h4⟩:=h
  subst e
  rcases Al.mp hx with z|z
  . rw[z];exact h3
  . exact dB.keys h4 x z
theorem dB.length:∀{kvs:List (List Int×D)} {xs:TKV},dB K H ex kvs xs->kvs.length=xs.length
 | [],_,h=>by rw[show _=[] from h];rfl
 | kv::kvs,_,h=>by
  obtain⟨y,r,e,_,_,_,h4⟩:=h
  subst e
  rw[lC,lC,dB.length h4]
theorem dB.look(k:List Int):∀{kvs:List (List Int×D)} {xs:TKV},dB K H ex kvs xs->(kvs.lookup k=none/\atKey xs k=none)\/∃d p v,kvs.lookup k=some d/\atKey xs k=some p/\aW v p.2/\Rep K H ex d v
 | [],_,h=>by rw[show _=[] from h];exact .inl ⟨rfl,rfl⟩
 | (k',d)::kvs,_,h=>by
  obtain⟨⟨k2,p⟩,r,e,h1,⟨v,h2,h3⟩,_,h5⟩:=h
  subst e
  cases(show k'=k2 from h1)
  unfold atKey
  rw[Dp,List.find?_cons]
  by_cases hk:k=k'
  . subst hk
    refine .inr ⟨d,p,v,?_,?_,h2,h3⟩
    . simp
    . simp
  . have e1:(k==k')=false:=A1.mpr hk
    have e2:decide (k'=k)=false:=Aw λz=>hk z.symm
    rw[e1]
    simp only[e2]
    exact dB.look k h5
end
theorem rZ{σ:Sg}{i:Nat}{kvs:List (List Int×D)}(h:mL σ i=some kvs):σ[i]? = some (.dct (.m kvs)):=by
 unfold mL at h
 split at h
 . rename_i e;cases h;exact e
 . cases h
section
variable {X:Cx} {P:Pg} {Γ:Ct} {n:Nat} {RT Y old:Addr->Prop} {σ:Sg} {pos:Pos}
theorem xQ(M:Mc X P Γ n){i:Nat}{k a:E}{x:Str}{p ap cp:Pos}{ek ea ez:Expr}(hx:aP Γ i x=true)(hl:(ap.endLine==cp.line)=true)(hk:PE X ek (WE X P n RT Y old σ k))(ha:PE X ea (WE X P n RT Y old σ a))(hz:PE X ez (WE X P n RT Y old σ a))(pk:aG ek=true)(pa:aG ea=true)(pz:aG ez=true) :
 PT X (.Compare (.Call (.Attribute (.Name x p) "get" ap) [ek,ea] [] cp) [.NotEq] [ez] pos) (WT X P n RT Y old σ (.dgne i k a)):=by
 have hpe:PE X (.Name x p) (wF i):=by
  unfold aP at hx
  simp only[bA] at hx
  obtain⟨⟨h1,h2⟩,h3⟩:=hx
  exact iR (by rw[M.N];exact eq_of_beq h1) (M.vis h2) (aH h3) (dE h3)
 have hs:starEach [ek,ea] X.env=(false,eval ek X.env)::starEach [ea] X.env:=aA pk
 have hu:X.A.units+100<cLine:=by have:=M.units;omega
 refine(rC (dU (RT:=λ_=>False) (Y:=λ_=>False) (old:=λ_=>False) M .NotEq) (aDZ hu hpe (bQ hk (bQ ha cT (aA pa)) hs) rfl (by rw[hs,aA pa];rfl) hl hs (by rw[aA pa];rfl)) hz (eU pz)).imp λσV H Q t ⟨S,h⟩=>?_
 obtain⟨x,ex,h⟩:=(RE.bind' (show RE (ev P (call P n) σ k >>= λx=>ev P (call P n) σ a >>= λy=>(match mL σ i,fY x.d with
  | some kvs,some is=>(match bG .NotEq ((kvs.lookup is).getD y.d) y.d with|some k=>R.ok k|none=>.bad)
  | _,_=>.bad)) _ from h)).eq
 obtain⟨y,ey,h⟩:=(RE.bind' h).eq
 cases e1:mL σ i with
 | none=>simp only[e1] at h;exact h.elim
 | some kvs=>
  cases e2:fY x.d with
  | none=>simp only[e1,e2] at h;exact h.elim
  | some is=>
   simp only[e1,e2] at h
   cases e3:bG .NotEq ((kvs.lookup is).getD y.d) y.d with
   | none=>simp only[e3] at h;exact h.elim
   | some b=>
    simp only[e3] at h
    obtain⟨a',g1,g2,g3,xs,g4,g5⟩:=S.dx.at' i _ (rZ e1)
    refine⟨.ref a',g1,a',xs,rfl,g4,g5.keys,S,?_⟩
    rw[ex]
    intro u1 H1 t1 r1
    have S1:=S.grow r1.1 t1
    refine⟨S1,?_⟩
    rw[ey]
    intro u2 H2 t2 r2
    have S2:=S1.grow r2.1 t2
    have s2:=r1.1.trans r2.1
    obtain⟨b',rfl,kb⟩:=qK e2 (r1.rv S)
    have fin:∀{d:D} {u:V},(kvs.lookup is).getD y.d=d->Rep X.K H2 (λ_=>False) d u->WE X P n RT Y old σ a σV H2 λuy H3=>∃(σ:Sg) (σV:L2.St) (x y:Vl) (k:Bool),Rv X.K (λ_=>False) (λ_=>False) (λ_=>False) σ σV H3 x u/\Rv X.K (λ_=>False) (λ_=>False) (λ_=>False) σ σV H3 y uy/\bG .NotEq x.d y.d=some k/\∃k',V.bl k=.bl k'/\(Tk X.K H3->Q k' H3):=λ{d u} ed rd=>by
     refine⟨S2,?_⟩
     rw[ey]
     intro u3 H3 t3 r3
     exact⟨σ,σV,⟨d,false,true,[]⟩,y,b,(rd.grow r3.1).weak λc z=>by rcases z with z|z|z <;> first|exact z.1|exact z|exact z.2,(r3.rv S2).weak λc z=>by rcases z with z|z|z <;> first|exact z.1.elim|exact z.elim|exact z.2.elim,by rw[<-ed];exact e3,b,rfl,λt'=>(show ∀H',Tk X.K H'->aF H H'->Q b H' from h) _ t' (s2.trans r3.1)⟩
    refine⟨b',is,u2,rfl,s2 _ _ g4,λz hz=>aF.seqT s2 (g5.keys z hz),aF.seqT r2.1 kb,λp hp=>?_,λhn=>?_⟩
    . rcases g5.look is with⟨_,z⟩|⟨d,q,v,z1,z2,z3,z4⟩
      . rw[z] at hp;cases hp
      . rw[z2] at hp
        cases hp
        exact⟨v,z3,fin (by rw[z1];rfl) ((z4.grow s2).weak λ_ z=>z.elim)⟩
    . rcases g5.look is with⟨z,_⟩|⟨d,q,v,z1,z2,z3,z4⟩
      . exact fin (by rw[z];rfl) (Rep.weak (r2.rv S1) λ_ z=>z.elim)
      . rw[z2] at hn;cases hn
end
end Hp
end
noncomputable section
set_option maxHeartbeats 8000000
namespace Hp
open PySem PySem.Spec PyProof.Rows L2
section
variable {P:Pg} {n:Nat}
theorem vF{X:Cx}{Γ:Ct}(M:Mc X P Γ n)(scope:Scope):(relabel scope X.env).names=jN Γ.sc scope.names:=by
 unfold relabel jN
 simp only
 refine C0 λp hp=>?_
 obtain⟨m,k⟩:=p
 have e1:(X.env.scope.kind==ScopeKind.function)=true:=by rw[M.fk];rfl
 have e2:X.env.kindOf m=Γ.sc.lookup m:=by unfold Env.kindOf;rw[M.sc]
 simp only[e1,e2,D1]
abbrev chN(Γ:Ct)(tg:Expr)(caps:List Nat):List Str:=cO tg++caps.filterMap λi=>Γ.N[i]?
abbrev oN(Γ:Ct)(tg:Expr)(caps:List Nat)(scope:Scope):Ct:={ Γ with N:=chN Γ tg caps,sc:=jN Γ.sc scope.names,fn:=false }
structure aAW (Γ:Ct) (tg:Expr) (caps:List Nat) (scope:Scope) (k:Nat) (t:T):Prop where
 len:(cO tg).length=k
 lt:∀i∈caps,i<Γ.N.length
 ndc:caps.Nodup
 kind:scope.kind=.function
 nd:(chN Γ tg caps).Nodup
 cap:∀x∈caps.filterMap (λi=>Γ.N[i]?),scope.names.lookup x=some .free/\Γ.sc.lookup x=some .cell
 all:∀p∈scope.names,p.2≠.cell/\(p.2=.local->scope.names.lookup p.1=some .local)/\(p.2=.free->Γ.sc.lookup p.1=some .cell)
 tk:∀i∈tIx t,i<k
theorem sA{N:List Str}:∀{caps:List Nat},(∀i∈caps,i<N.length)->∀{j i:Nat},caps[j]? = some i->(caps.filterMap λi=>N[i]?)[j]? = N[i]?/\(caps.filterMap λi=>N[i]?).length=caps.length
 | [],_,_,_,h=>by simp at h
 | c::cs,hl,j,i,h=>by
  have hc:N[c]? = some N[c]! := by
   have:=hl c Ak
   simp[this]
  rw[B3 hc]
  have hl':∀i∈cs,i<N.length:=λi hi=>hl i (Ae _ hi)
  have len:(cs.filterMap λi=>N[i]?).length=cs.length:=by
   cases cs with
   | nil=>rfl
   | cons c' cs'=>exact(sA hl' (j:=0) (i:=c') rfl).2
  refine⟨?_,by rw[lC,lC,len]⟩
  cases j with
  | zero=>
   have e:c=i:=by simpa using h
   subst e
   rw[gZ,hc]
  | succ j=>
   rw[gS]
   exact(sA hl' (j:=j) (i:=i) (by simpa using h)).1
theorem aGY{N:List Str}{caps:List Nat}(h:∀i∈caps,i<N.length):(caps.filterMap λi=>N[i]?).length=caps.length:=by
 cases caps with
 | nil=>rfl
 | cons c cs=>exact(sA h (j:=0) (i:=c) rfl).2
theorem aAW.scope{X:Cx}{Γ:Ct}{tg:Expr}{caps:List Nat}{scope:Scope}{k:Nat}{t:T}(O:aAW Γ tg caps scope k t)(M:Mc X P Γ n):cG X scope k caps (chN Γ tg caps) where
 kind:=O.kind
 nocell:=λy hy=>(O.all y hy).1
 loc:=λy hy e=>(O.all y hy).2.1 e
 free:=λm hm=>.inl (by
  have:=(O.all _ hm).2.2 rfl
  show X.env.scope.names.lookup m=_
  rw[M.sc];exact this)
 len:=by rw[lA,O.len,aGY O.lt]
 cap:=λj i e=>by
  have hi:=O.lt i (mG e)
  have hx:Γ.N[i]? = some Γ.N[i]:=An hi
  have hg:=(sA O.lt e).1
  rw[hx] at hg
  obtain⟨h1,h2⟩:=O.cap _ (mG hg)
  refine⟨Γ.N[i],?_,by rw[M.N];exact hx,h1,?_⟩
  . show(cO tg++_)[k+j]? = _
    rw[Bk (by rw[O.len];omega),O.len,A0]
    exact hg
  . show X.env.scope.names.lookup _=_
    rw[M.sc];exact h2
 ndp:=M.nd
theorem aAW.mc{X:Cx}{Γ:Ct}{tg:Expr}{caps:List Nat}{scope:Scope}{k:Nat}{t:T}(O:aAW Γ tg caps scope k t)(M:Mc X P Γ n)(C:Addr)(s₀:Shared)(H₀:Hp)(ex:List Addr) :
 Mc (cS X scope (chN Γ tg caps) C s₀ H₀ ex) P (oN Γ tg caps scope) n where
 md:=⟨M.md.fn,M.md.blt,M.md.cns,M.md.tab⟩
 N:=rfl
 nd:=O.nd
 sc:=vF M scope
 calm:=M.calm
 room:=M.room
 xe:=rfl
 st:=λx h=>.inr (by
  show(relabel scope X.env).names.lookup x=_
  rw[vF M scope]
  unfold uB at h
  have h:(match (jN Γ.sc scope.names).lookup x with|some .local=>true|some .cell=>false|_=>false)=true:=h
  split at h
  . rename_i e;exact e
  . cases h
  . cases h)
 fk:=O.kind
theorem vG{Γ:Ct}{tt:Bool}{a b:E}{e:Expr}:chkI Γ tt (.rng a b) e=oS (fH e) λp=>(p.1==("range" : Str))&&bL Γ p.1&&(match p.2 with
 | [x]=>xB a&&aK Γ b x
 | [x,y]=>aK Γ a x&&aK Γ b y
 | _=>false):=rfl
theorem vH{Γ:Ct}{tt:Bool}{a b:E}{e:Expr}:chkI Γ tt (.zip a b) e=oS (fH e) λp=>(match p.2 with
 | [x,y]=>tt&&(p.1==("zip" : Str))&&bL Γ p.1&&aK Γ a x&&aK Γ b y
 | _=>false):=rfl
theorem qL{Γ:Ct}{tt:Bool}{a:E}{e:Expr}:chkI Γ tt (.enum a) e=oS (fH e) λp=>(match p.2 with
 | [x]=>tt&&(p.1==("enumerate" : Str))&&bL Γ p.1&&aK Γ a x
 | _=>false):=rfl
theorem jB{Γ:Ct}{tt:Bool}{it:Hp.It}{e:Expr}(h:chkI Γ tt it e=true):aG e=true:=by
 cases it with
 | seq c=>exact aE (c:=c) (by exact h)
 | rng a b=>rw[vG] at h;obtain⟨_,⟨_,_,rfl⟩,_⟩:=aB h;rfl
 | zip a b=>rw[vH] at h;obtain⟨_,⟨_,_,rfl⟩,_⟩:=aB h;rfl
 | enum a=>rw[qL] at h;obtain⟨_,⟨_,_,rfl⟩,_⟩:=aB h;rfl
 | rng3 a b c=>cases h
 | rev a=>cases h
theorem aEt{X:Cx}{e:Expr}{c:E}{RT Y old:Addr->Prop}{σ:Sg}(h:tst P (call P n) σ c=.bad):PT X e (WT X P n RT Y old σ c):=λpins s σV H Q I ⟨S,hh⟩=>by
 rw[h] at hh
 exact hh.elim
theorem cK{a b c:Bool}(h:(a&&b&&c)=true):a=true/\b=true/\c=true:=by
 cases a <;> cases b <;> cases c <;> first|exact⟨rfl,rfl,rfl⟩|cases h
theorem bY{a b:Bool}(h:(a&&b)=true):a=true/\b=true:=by
 cases a <;> cases b <;> first|exact⟨rfl,rfl⟩|cases h
theorem xR{a b c d:Bool}(h:(a&&b&&c&&d)=true):a=true/\b=true/\c=true/\d=true:=by
 obtain⟨h1,h2,h3⟩:=cK h
 obtain⟨h1,h4⟩:=bY h1
 exact⟨h1,h4,h2,h3⟩
theorem vI{a b c d e:Bool}(h:(a&&b&&c&&d&&e)=true):a=true/\b=true/\c=true/\d=true/\e=true:=by
 obtain⟨h1,h2,h3,h4⟩:=xR h
 obtain⟨h1,h5⟩:=bY h1
 exact⟨h1,h5,h2,h3,h4⟩
theorem zB{Γ:Ct}{k:Nat}{caps:List Nat}{t:T}{it:Hp.It}{cond:Es}{elt:E}{e:Expr}(h:aK Γ (.comp k caps t it cond elt) e=true) :
 ∃el tg iter ifs scope pos,e=.ListComp el [⟨tg,iter,ifs,0⟩] scope pos/\aAW Γ tg caps scope k t/\ifs.length<=1/\iW (oN Γ tg caps scope) t tg=true/\chkI Γ (nV tg) it iter=true/\chkEs (oN Γ tg caps scope) cond ifs=true/\aK (oN Γ tg caps scope) elt el=true:=by
 obtain⟨⟨el,gens,scope⟩,h1,g⟩:=aB h
 clear h
 obtain⟨pos,rfl⟩:=h1
 have h:=g
 clear g
 rcases gens with _|⟨⟨tg,iter,ifs,as⟩,_|⟨_,_⟩⟩
 . cases h
 . have h:(as==0&&(cO tg).length==k&&(caps.all λi=>decide (i<Γ.N.length))&&decide caps.Nodup&&scope.kind==.function&&decide (cO tg++caps.filterMap λi=>Γ.N[i]?).Nodup &&
    ((caps.filterMap λi=>Γ.N[i]?).all λx=>scope.names.lookup x==some .free&&Γ.sc.lookup x==some .cell) &&
    (scope.names.all λp=>p.2 != .cell&&(p.2 != .local||scope.names.lookup p.1==some .local)&&(p.2 != .free||Γ.sc.lookup p.1==some .cell)) &&
    ((tIx t).all λi=>decide (i<k))&&decide (ifs.length<=1) &&
    iW (oN Γ tg caps scope) t tg&&chkI Γ (nV tg) it iter&&chkEs (oN Γ tg caps scope) cond ifs&&aK (oN Γ tg caps scope) elt el)=true:=by
    exact h
   simp only[bA,D9,Bx,A4,Cv,bne_iff_ne,ne_eq] at h
   obtain⟨⟨⟨⟨⟨⟨⟨⟨⟨⟨⟨⟨⟨h0,h1⟩,h2⟩,h3⟩,h4⟩,h5⟩,h6⟩,h7⟩,h8⟩,h9⟩,h10⟩,h11⟩,h12⟩,h13⟩:=h
   subst h0
   refine⟨el,tg,iter,ifs,scope,pos,rfl,⟨h1,h2,h3,h4,h5,h6,λp hp=>?_,h8⟩,h9,h10,h11,h12,h13⟩
   obtain⟨⟨q1,q2⟩,q3⟩:=h7 p hp
   exact⟨q1,λe=>q2.resolve_left λz=>z e,λe=>q3.resolve_left λz=>z e⟩
 . cases h
abbrev PEc(P:Pg)(n:Nat)(c:E):Prop:=∀{X:Cx} {Γ:Ct},Mc X P Γ n->∀{e:Expr},aK Γ c e=true->∀(RT Y old:Addr->Prop) (σ:Sg),PE X e (WE X P n RT Y old σ c)
abbrev PTc(P:Pg)(n:Nat)(c:E):Prop:=∀{X:Cx} {Γ:Ct},Mc X P Γ n->∀{e:Expr},aK Γ c e=true->∀(RT Y old:Addr->Prop) (σ:Sg),PT X e (WT X P n RT Y old σ c)
abbrev PWc(P:Pg)(n:Nat)(c:E):Prop:=∀{X:Cx} {Γ:Ct},Mc X P Γ n->∀{o:BoolOp} {xs:List Expr} {pos:Pos},aK Γ c (.BoolOp o xs pos)=true->∀(RT Y old:Addr->Prop) (σ:Sg),PW X (.BoolOp o xs pos) (WT X P n RT Y old σ c)
structure Q3 (P:Pg) (n:Nat) (c:E):Prop where
 e:PEc P n c
 t:PTc P n c
 w:PWc P n c
structure QA (P:Pg) (n:Nat) (cs:Es):Prop where
 a:∀{X:Cx} {Γ:Ct},Mc X P Γ n->∀{es:List Expr},chkEs Γ cs es=true->∀(RT Y old:Addr->Prop) (σ:Sg),PA X es (WA X P n RT Y old σ cs)
 o:∀{X:Cx} {Γ:Ct},Mc X P Γ n->∀{e:Option Expr},chkO Γ cs e=true->∀(RT Y old:Addr->Prop) (σ:Sg),PO X e (wO X P n RT Y old σ cs)
 ts:∀{X:Cx} {Γ:Ct},Mc X P Γ n->∀{es:List Expr},es.length<=1->chkEs Γ cs es=true->∀(RT Y old:Addr->Prop) (σ:Sg),PTs X es (wTs X P n RT Y old σ cs)
 p:∀{X:Cx} {Γ:Ct},Mc X P Γ n->∀{es:List Expr},chkEs Γ cs es=true->∀(RT Y old:Addr->Prop) (σ:Sg),PA X es (WP X P n RT Y old σ cs)
abbrev QI(P:Pg)(n:Nat)(it:Hp.It):Prop:=∀{X:Cx} {Γ:Ct},Mc X P Γ n->∀{tg e:Expr},chkI Γ (nV tg) it e=true->∀(RT Y old:Addr->Prop) (σ:Sg),PI X tg e (wI X P n RT Y old σ it)
theorem Q3.of{c:E}(h:PEc P n c)(hd:∀σ,tst P (call P n) σ c=.bad)(hw:∀{Γ:Ct} {o:BoolOp} {xs:List Expr} {pos:Pos},aK Γ c (.BoolOp o xs pos)=false):Q3 P n c:=
 ⟨h,λ{X Γ} M {e} z RT Y old σ=>aEt (hd σ),λ{X Γ} M {o xs pos} z RT Y old σ=>absurd (hw.symm.trans z) bN⟩
theorem n_c{d:D}:Q3 P n (.c d):=by
 have h0:∀{Γ:Ct} {e:Expr},aK Γ (.c d) e=true->(∃c k p,e=.Constant c k p/\eqC d c=true)\/∃x p,e=.Name x p/\bL Γ x=true/\bD x=true/\∃d',Γ.cns.lookup x=some d'/\eqK d d'=true:=λ{Γ e} h=>by
  rcases(Cv _ _).mp (show(oS (asC e) (eqC d)||oS (asN e) λx=>bL Γ x&&bD x&&oB (Γ.cns.lookup x) (eqK d))=true from h) with h|h
  . obtain⟨c,h1,g⟩:=aB h
    clear h
    obtain⟨k,p,rfl⟩:=h1
    have h:=g
    clear g
    exact .inl ⟨c,k,p,rfl,h⟩
  . obtain⟨x,h1,g⟩:=aB h
    clear h
    obtain⟨p,rfl⟩:=h1
    have h:=g
    clear g
    obtain⟨h1,h2,h3⟩:=cK h
    obtain⟨d',q1,q2⟩:=uK h3
    exact .inr ⟨x,p,rfl,h1,h2,d',q1,q2⟩
 have k:PEc P n (.c d):=λ{X Γ} M {e} h RT Y old σ=>by
  rcases h0 h with⟨c,j,p,rfl,g⟩|⟨x,p,rfl,h1,h2,d',q,h3⟩
  . exact s_c g
  . have e:=aGx h3
    subst e
    obtain⟨u,v,m,r,hr⟩:=M.md.cns x d q
    refine(yF (M.gl h1) m r (aH h2)).imp λσV H Q t ⟨S,hh⟩ t'=>?_
    exact(show Wn _ RT Y old σ σV H Q (Vl.cl d) from hh) v H t' (Ro.val (aF.refl H) (hr H))
 refine⟨k,λ{X Γ} M {e} h RT Y old σ=>?_,λ{X Γ} M {o xs pos} h RT Y old σ=>absurd h bN⟩
 refine nY (k M h RT Y old σ) ?_ λp hp=>hp
 rcases h0 h with⟨c,j,p,rfl,h⟩|⟨x,p,rfl,_⟩ <;> (intro _;rfl)
theorem n_v{i:Nat}:Q3 P n (.v i):=by
 have k:PEc P n (.v i):=λ{X Γ} M {e} h RT Y old σ=>by
  obtain⟨x,h1,g⟩:=aB h
  clear h
  obtain⟨p,rfl⟩:=h1
  have h:=g
  clear g
  have h:aP _ i x=true:=h
  unfold aP at h
  obtain⟨h1,h2,h3⟩:=cK h
  exact s_v (by rw[M.N];exact eq_of_beq h1) (M.vis h2) (aH h3) (dE h3)
 refine⟨k,λ{X Γ} M {e} h RT Y old σ=>?_,λ{X Γ} M {o xs pos} h RT Y old σ=>absurd h bN⟩
 refine nY (k M h RT Y old σ) ?_ λp hp=>RE.bind' (show RE (cA σ i >>= λx=>dN x) p from hp)
 obtain⟨x,⟨p,rfl⟩,_⟩:=aB h
 intro _;rfl
theorem aMt{o:Operator}{a b:E}(ha:Q3 P n a)(hb:Q3 P n b):Q3 P n (.op o a b):=Q3.of (λ{X Γ} M {e} h RT Y old σ=>by
 obtain⟨⟨l,o',r⟩,h1,g⟩:=aB h
 clear h
 obtain⟨p,rfl⟩:=h1
 have h:=g
 clear g
 obtain⟨h1,h2,h3⟩:=cK h
 have e:o=o':=eq_of_beq h1
 subst e
 exact aMo (ha.e M h2 RT Y old σ) (hb.e M h3 RT Y old σ)) (λ_=>rfl) rfl
theorem aMu{a:E}(ha:Q3 P n a):Q3 P n (.nt a):=by
 have h0:∀{Γ:Ct} {e:Expr},aK Γ (.nt a) e=true->∃x p,e=.UnaryOp .Not x p/\aK Γ a x=true:=λ{Γ e} h=>by
  obtain⟨⟨o,x⟩,h1,g⟩:=aB h
  clear h
  obtain⟨p,rfl⟩:=h1
  have h:=g
  clear g
  obtain⟨h1,h2⟩:=bY h
  have e:o=.Not:=eq_of_beq h1
  subst e
  exact⟨x,p,rfl,h2⟩
 refine⟨λ{X Γ} M {e} h RT Y old σ=>?_,λ{X Γ} M {e} h RT Y old σ=>?_,λ{X Γ} M {o xs pos} h RT Y old σ=>absurd h bN⟩
 . obtain⟨x,p,rfl,g⟩:=h0 h
   exact aJD (ha.e M g RT Y old σ)
 . obtain⟨x,p,rfl,g⟩:=h0 h
   exact rU (ha.t M g RT Y old σ)
theorem zC{Γ:Ct}{a b:E}{w:BoolOp}{xs:List Expr}{p:Pos}(h:(match xs with
 | [x,y]=>aK Γ a x&&aK Γ b y
 | x::y::z::r=>aK Γ a x&&aK Γ b (.BoolOp w (y::z::r) p)
 | _=>false)=true):∃x y r,xs=x::y::r/\aK Γ a x=true/\((r=[]/\aK Γ b y=true)\/aK Γ b (.BoolOp w (y::r) p)=true):=by
 rcases xs with _|⟨x,_|⟨y,_|⟨z,r⟩⟩⟩
 . cases h
 . cases h
 . obtain⟨h1,h2⟩:=bY h
   exact⟨x,y,[],rfl,h1,.inl ⟨rfl,h2⟩⟩
 . obtain⟨h1,h2⟩:=bY h
   exact⟨x,y,z::r,rfl,h1,.inr h2⟩
theorem aMv{a b:E}(ha:Q3 P n a)(hb:Q3 P n b):Q3 P n (.an a b):=by
 have kw:PWc P n (.an a b):=λ{X Γ} M {o xs pos} h RT Y old σ=>by
  obtain⟨h1,h2⟩:=bY h
  have e:o=.And:=eq_of_beq h1
  subst e
  obtain⟨x,y,r,rfl,g1,g2⟩:=zC h2
  rcases g2 with⟨rfl,g2⟩|g2
  . exact aJM (ha.t M g1 RT Y old σ) (aDB (hb.t M g2 RT Y old σ))
  . exact aJM (ha.t M g1 RT Y old σ) (hb.w M g2 RT Y old σ)
 refine⟨λ{X Γ} M {e} h RT Y old σ=>?_,λ{X Γ} M {e} h RT Y old σ=>?_,kw⟩
 . obtain⟨⟨o,xs,pos⟩,h1,g⟩:=aB h
   clear h
   obtain rfl:=h1
   have h:=g
   clear g
   obtain⟨h1,h2⟩:=bY h
   have e:o=.And:=eq_of_beq h1
   subst e
   obtain⟨x,y,r,e,g1,g2⟩:=zC h2
   have e:xs=x::y::r:=e
   subst e
   rcases g2 with⟨rfl,g2⟩|g2
   . exact aJE (ha.e M g1 RT Y old σ) (aBm (hb.e M g2 RT Y old σ))
   . exact aJE (ha.e M g1 RT Y old σ) (hb.e M g2 RT Y old σ)
 . obtain⟨⟨o,xs,pos⟩,rfl,_⟩:=aB h
   exact(kw M h RT Y old σ).pt
theorem aKd{a b:E}(ha:Q3 P n a)(hb:Q3 P n b):Q3 P n (.orr a b):=by
 have kw:PWc P n (.orr a b):=λ{X Γ} M {o xs pos} h RT Y old σ=>by
  obtain⟨h1,h2⟩:=bY h
  have e:o=.Or:=eq_of_beq h1
  subst e
  obtain⟨x,y,r,rfl,g1,g2⟩:=zC h2
  rcases g2 with⟨rfl,g2⟩|g2
  . exact aFu (ha.t M g1 RT Y old σ) (aFQ (hb.t M g2 RT Y old σ))
  . exact aFu (ha.t M g1 RT Y old σ) (hb.w M g2 RT Y old σ)
 refine⟨λ{X Γ} M {e} h RT Y old σ=>?_,λ{X Γ} M {e} h RT Y old σ=>?_,kw⟩
 . obtain⟨⟨o,xs,pos⟩,h1,g⟩:=aB h
   clear h
   obtain rfl:=h1
   have h:=g
   clear g
   obtain⟨h1,h2⟩:=bY h
   have e:o=.Or:=eq_of_beq h1
   subst e
   obtain⟨x,y,r,e,g1,g2⟩:=zC h2
   have e:xs=x::y::r:=e
   subst e
   rcases g2 with⟨rfl,g2⟩|g2
   . exact aFt (ha.e M g1 RT Y old σ) (aBm (hb.e M g2 RT Y old σ))
   . exact aFt (ha.e M g1 RT Y old σ) (hb.e M g2 RT Y old σ)
 . obtain⟨⟨o,xs,pos⟩,rfl,_⟩:=aB h
   exact(kw M h RT Y old σ).pt
theorem aKe{t a b:E}(ht:Q3 P n t)(ha:Q3 P n a)(hb:Q3 P n b):Q3 P n (.ife t a b):=Q3.of (λ{X Γ} M {e} h RT Y old σ=>by
 obtain⟨⟨t',a',b'⟩,h1,g⟩:=aB h
 clear h
 obtain⟨p,rfl⟩:=h1
 have h:=g
 clear g
 obtain⟨h1,h2,h3⟩:=cK h
 exact aJF (ht.t M h1 RT Y old σ) (ha.e M h2 RT Y old σ) (hb.e M h3 RT Y old σ)) (λ_=>rfl) rfl
theorem aKf{o:CmpOp}{a b:E}(ha:Q3 P n a)(hb:Q3 P n b):Q3 P n (.cmp o a b):=by
 have h0:∀{Γ:Ct} {e:Expr},aK Γ (.cmp o a b) e=true->∃l r p,e=.Compare l [o] [r] p/\aK Γ a l=true/\aK Γ b r=true:=λ{Γ e} h=>by
  obtain⟨⟨l,os,rs⟩,h1,g⟩:=aB h
  clear h
  obtain⟨p,rfl⟩:=h1
  have h:=g
  clear g
  rcases os with _|⟨o',_|⟨_,_⟩⟩
  . cases h
  . rcases rs with _|⟨r,_|⟨_,_⟩⟩
    . cases h
    . obtain⟨h1,h2,h3⟩:=cK h
      have e:o=o':=eq_of_beq h1
      subst e
      exact⟨l,r,p,rfl,h2,h3⟩
    . cases h
  . cases h
 refine⟨λ{X Γ} M {e} h RT Y old σ=>?_,λ{X Γ} M {e} h RT Y old σ=>?_,λ{X Γ} M {o xs pos} h RT Y old σ=>absurd h bN⟩
 . obtain⟨l,r,p,rfl,h2,h3⟩:=h0 h
   exact aJG M (ha.e M h2 RT Y old σ) (hb.e M h3 RT Y old σ) (aE h3)
 . obtain⟨l,r,p,rfl,h2,h3⟩:=h0 h
   exact uL M (ha.e M h2 RT Y old σ) (hb.e M h3 RT Y old σ) (aE h3)
theorem aGZ{o1 o2:CmpOp}{a b c:E}(ha:Q3 P n a)(hb:Q3 P n b)(hc:Q3 P n c):Q3 P n (.cmp2 o1 o2 a b c):=by
 have h0:∀{Γ:Ct} {e:Expr},aK Γ (.cmp2 o1 o2 a b c) e=true->∃l m r p,e=.Compare l [o1,o2] [m,r] p/\aK Γ a l=true/\aK Γ b m=true/\aK Γ c r=true:=λ{Γ e} h=>by
  obtain⟨⟨l,os,rs⟩,h1,g⟩:=aB h
  clear h
  obtain⟨p,rfl⟩:=h1
  have h:=g
  clear g
  rcases os with _|⟨o1',_|⟨o2',_|⟨_,_⟩⟩⟩
  . cases h
  . cases h
  . rcases rs with _|⟨m,_|⟨r,_|⟨_,_⟩⟩⟩
    . cases h
    . cases h
    . obtain⟨h1,h2,h3,h4,h5⟩:=vI h
      have e:o1=o1':=eq_of_beq h1
      subst e
      have e:o2=o2':=eq_of_beq h2
      subst e
      exact⟨l,m,r,p,rfl,h3,h4,h5⟩
    . cases h
  . cases h
 refine⟨λ{X Γ} M {e} h RT Y old σ=>?_,λ{X Γ} M {e} h RT Y old σ=>?_,λ{X Γ} M {o xs pos} h RT Y old σ=>absurd h bN⟩
 . obtain⟨l,m,r,p,rfl,h3,h4,h5⟩:=h0 h
   exact aGB M (ha.e M h3 RT Y old σ) (hb.e M h4 RT Y old σ) (hc.e M h5 RT Y old σ) (aE h5)
 . obtain⟨l,m,r,p,rfl,h3,h4,h5⟩:=h0 h
   exact aGC M (ha.e M h3 RT Y old σ) (hb.e M h4 RT Y old σ) (hc.e M h5 RT Y old σ) (aE h5)
theorem aKg{a b:E}(ha:Q3 P n a)(hb:Q3 P n b):Q3 P n (.idx a b):=by
 have k:PEc P n (.idx a b):=λ{X Γ} M {e} h RT Y old σ=>by
  obtain⟨⟨x,i⟩,h1,g⟩:=aB h
  clear h
  obtain⟨p,rfl⟩:=h1
  have h:=g
  clear g
  obtain⟨h1,h2⟩:=bY h
  exact aJH (ha.e M h1 RT Y old σ) (hb.e M h2 RT Y old σ) (aE h2)
 refine⟨k,λ{X Γ} M {e} h RT Y old σ=>?_,λ{X Γ} M {o xs pos} h RT Y old σ=>absurd h bN⟩
 refine nY (k M h RT Y old σ) ?_ λp hp=>?_
 . obtain⟨⟨x,i⟩,⟨p,rfl⟩,_⟩:=aB h
   intro _;rfl
 . have hp:=RE.bind' (show RE (ev P (call P n) σ a >>= λx=>ev P (call P n) σ b >>= λy=>bT x y >>= λz=>dN z) p from hp)
   show RE (ev P (call P n) σ a >>= λx=>ev P (call P n) σ b >>= λy=>bT x y) _
   rw[RE.bind]
   refine hp.mono λx hx=>?_
   rw[RE.bind]
   exact(RE.bind' hx).mono λy hy=>RE.bind' hy
theorem aKh{a:E}{lo hi:Es}(ha:Q3 P n a)(hl:QA P n lo)(hh:QA P n hi):Q3 P n (.sli a lo hi):=Q3.of (λ{X Γ} M {e} h RT Y old σ=>by
 obtain⟨⟨x,i⟩,h1,g⟩:=aB h
 clear h
 obtain⟨p,rfl⟩:=h1
 have h:=g
 clear g
 obtain⟨⟨l,u⟩,h1,g⟩:=aB h
 clear h
 obtain⟨p2,e2⟩:=h1
 have h:=g
 clear g
 have e2:i=.Slice l u none p2:=e2
 subst e2
 obtain⟨h1,h2,h3⟩:=cK h
 exact aJP (ha.e M h1 RT Y old σ) (hl.o M h2 RT Y old σ) (hh.o M h3 RT Y old σ)) (λ_=>rfl) rfl
theorem aKi{es:Es}(ha:QA P n es):Q3 P n (.tup es):=Q3.of (λ{X Γ} M {e} h RT Y old σ=>by
 obtain⟨xs,h1,g⟩:=aB h
 clear h
 obtain⟨k,p,rfl⟩:=h1
 have h:=g
 clear g
 obtain⟨h1,h2⟩:=bY h
 exact aJI (ha.a M h2 RT Y old σ) h2 (As h1)) (λ_=>rfl) rfl
theorem aKj{es:Es}(ha:QA P n es):Q3 P n (.lst es):=Q3.of (λ{X Γ} M {e} h RT Y old σ=>by
 obtain⟨xs,h1,g⟩:=aB h
 clear h
 obtain⟨p,rfl⟩:=h1
 have h:=g
 clear g
 obtain⟨h1,h2⟩:=bY h
 exact aJJ (ha.a M h2 RT Y old σ) h2 (As h1)) (λ_=>rfl) rfl
theorem aKk{a b:E}(ha:Q3 P n a)(hb:Q3 P n b):Q3 P n (.dic (.cons a .nil) (.cons b .nil)):=Q3.of (λ{X Γ} M {e} h RT Y old σ=>by
 obtain⟨r,h1,g⟩:=aB h
 clear h
 obtain⟨p,rfl⟩:=h1
 obtain⟨h1,h2⟩:=bY g
 exact aJL (ha.e M h1 RT Y old σ) (hb.e M h2 RT Y old σ)) (λ_=>rfl) rfl
theorem aHa{f:Nat}{es:Es}(ha:QA P n es):Q3 P n (.call f es):=by
 have k:PEc P n (.call f es):=λ{X Γ} M {e} h RT Y old σ=>by
  obtain⟨⟨x,xs⟩,h1,g⟩:=aB h
  clear h
  obtain⟨p1,p2,rfl⟩:=h1
  have h:=g
  clear g
  obtain⟨h1,h2,h3,h4⟩:=xR h
  exact aGy M (eq_of_beq h1) h2 h3 (ha.a M h4 RT Y old σ) (dO h4) h4
 refine⟨k,λ{X Γ} M {e} h RT Y old σ=>?_,λ{X Γ} M {o xs pos} h RT Y old σ=>absurd h bN⟩
 refine nY (k M h RT Y old σ) ?_ λp hp=>?_
 . obtain⟨⟨x,xs⟩,⟨p1,p2,rfl⟩,_⟩:=aB h
   intro _;rfl
 . have hp:=RE.bind' (show RE (evs P (call P n) σ es >>= λvs=>call P n f (vs.map (·.d)) >>= λr=>dN (eS vs r)) p from hp)
   show RE (evs P (call P n) σ es >>= λvs=>call P n f (vs.map (·.d)) >>= λr=>R.ok (eS vs r)) _
   rw[RE.bind]
   refine hp.mono λx hx=>?_
   rw[RE.bind]
   exact(RE.bind' hx).mono λy hy=>hy
theorem aMw{b:Bi}{es:Es}(ha:QA P n es):Q3 P n (.bi b es):=by
 have k:PEc P n (.bi b es):=λ{X Γ} M {e} h RT Y old σ=>by
  obtain⟨⟨x,xs⟩,h1,g⟩:=aB h
  clear h
  obtain⟨p1,p2,rfl⟩:=h1
  have h:=g
  clear g
  obtain⟨h,h6⟩:=bY h
  obtain⟨h1,h2,h3,h4,h5⟩:=vI h
  cases xs with
  | nil=>cases h5
  | cons y ys=>exact aMp M h1 (eq_of_beq h2) h3 h4 (ha.a M h6 RT Y old σ) (dO h6)
 refine⟨k,λ{X Γ} M {e} h RT Y old σ=>?_,λ{X Γ} M {o xs pos} h RT Y old σ=>absurd h bN⟩
 refine nY (k M h RT Y old σ) ?_ λp hp=>?_
 . obtain⟨⟨x,xs⟩,⟨p1,p2,rfl⟩,_⟩:=aB h
   intro _;rfl
 . have hp:=RE.bind' (show RE (evs P (call P n) σ es >>= λvs=>biD b vs >>= λx=>dN x) p from hp)
   show RE (evs P (call P n) σ es >>= λvs=>biD b vs) _
   rw[RE.bind]
   exact hp.mono λx hx=>RE.bind' hx
theorem aKl{a:E}{cs:List Cl}(ha:Q3 P n a):Q3 P n (.isi a cs):=by
 have k:PEc P n (.isi a cs):=λ{X Γ} M {e} h RT Y old σ=>by
  obtain⟨⟨f,xs⟩,h1,g⟩:=aB h
  clear h
  obtain⟨p1,p2,rfl⟩:=h1
  have h:=g
  clear g
  rcases cs with _|⟨c,_|⟨_,_⟩⟩
  . cases h
  . rcases xs with _|⟨x,_|⟨y,_|⟨_,_⟩⟩⟩
    . cases h
    . cases h
    . obtain⟨h1,h2,h3,h4,h5⟩:=vI h
      unfold aFp at h5
      split at h5
      . rename_i z p3
        obtain⟨q1,q2,q3⟩:=cK h5
        have hc:∃cv,uI c=some cv:=by cases c <;> first|exact⟨_,rfl⟩|cases h3
        obtain⟨cv,hc⟩:=hc
        exact aJK M (eq_of_beq h1) h2 hc (eq_of_beq q1) q2 q3 (ha.e M h4 RT Y old σ) (aE h4)
      . cases h5
    . cases h
  . cases h
 refine⟨k,λ{X Γ} M {e} h RT Y old σ=>?_,λ{X Γ} M {o xs pos} h RT Y old σ=>absurd h bN⟩
 refine nY (k M h RT Y old σ) ?_ λp hp=>?_
 . obtain⟨⟨x,xs⟩,⟨p1,p2,rfl⟩,_⟩:=aB h
   intro _;rfl
 . have hp:=RE.bind' (show RE (ev P (call P n) σ a >>= λx=>(match isI cs P x.d with|some k=>R.ok k|none=>.bad)) p from hp)
   show RE (ev P (call P n) σ a >>= λx=>(match isI cs P x.d with|some k=>R.ok (Vl.cl (.bl k))|none=>.bad)) _
   rw[RE.bind]
   refine hp.mono λx hx=>?_
   cases q:isI cs P x.d with
   | none=>rw[q] at hx;exact hx.elim
   | some k=>rw[q] at hx;exact hx
theorem aHb{k:Nat}{caps:List Nat}{t:T}{it:Hp.It}{cond:Es}{elt:E}(hi:QI P n it)(hc:QA P n cond)(he:Q3 P n elt):Q3 P n (.comp k caps t it cond elt):=Q3.of (λ{X Γ} M {e} h RT Y old σ=>by
 obtain⟨el,tg,iter,ifs,scope,pos,rfl,O,h1,h2,h3,h4,h5⟩:=zB h
 refine aGP M (O.scope M) O.ndc O.tk (hi M h3 RT Y old σ) (λC s₀ H₀ ex=>?_) (eT (jB h3))
 have M':=O.mc M C s₀ H₀ ex
 exact⟨aAO M' h2,λRT Y old σ1=>hc.ts M' h1 h4 RT Y old σ1,λRT Y old σ1=>he.e M' h5 RT Y old σ1⟩) (λ_=>rfl) rfl
theorem aHc{i:Nat}{a:E}(ha:Q3 P n a):Q3 P n (.tget i a):=Q3.of (λ{X Γ} M {e} h RT Y old σ=>by
 obtain⟨⟨o,m,xs,l⟩,h1,g⟩:=aB h
 clear h
 obtain⟨ap,cp,rfl,hl⟩:=h1
 have h:=g
 clear g
 obtain⟨x,h1,g⟩:=aB h
 clear h
 obtain⟨p,e2⟩:=h1
 have h:=g
 clear g
 have e2:o=.Name x p:=e2
 subst e2
 obtain⟨h,h6⟩:=bY h
 obtain⟨h1,h2,h3,h4,h5⟩:=vI h
 rw[show l=true from h5] at hl
 rcases xs with _|⟨y,_|⟨_,_⟩⟩
 . cases h6
 . exact aGz M (eq_of_beq h1) (eq_of_beq h2) h3 h4 hl (ha.e M h6 RT Y old σ) (aE h6)
 . cases h6) (λ_=>rfl) rfl
theorem fO{c:E}(h:∀{Γ:Ct} {e:Expr},aK Γ c e=false):Q3 P n c:=
 ⟨λ{X Γ} M {e} z=>absurd (h.symm.trans z) bN,λ{X Γ} M {e} z=>absurd (h.symm.trans z) bN,λ{X Γ} M {o xs pos} z=>absurd (h.symm.trans z) bN⟩
theorem sB{a:Int}{c:Const}(h:eqC (.int a) c=true):c=.int a:=by
 cases c with
 | int b=>rw[eq_of_beq (show(a==b)=true from h)]
 | _=>cases h
theorem aKm:QA P n .nil:=by
 refine⟨λ{X Γ} M {es} h RT Y old σ=>?_,λ{X Γ} M {e} h RT Y old σ=>?_,λ{X Γ} M {es} hl h RT Y old σ=>?_,λ{X Γ} M {es} h RT Y old σ=>?_⟩
 . cases es with
   | nil=>exact uM
   | cons _ _=>exact nf h
 . cases e with
   | none=>exact aJN
   | some _=>exact nf h
 . cases es with
   | nil=>exact aGN
   | cons _ _=>exact nf h
 . cases es with
   | nil=>exact aKa
   | cons _ _=>exact nf h
theorem aMx{c:E}(hc:Q3 P n c){X:Cx}{Γ:Ct}(M:Mc X P Γ n){e:Expr}(h:aK Γ c e=true)(RT Y old:Addr->Prop)(σ:Sg):PE X e (wQ X P n RT Y old σ c):=by
 by_cases hn:∃i k,c=.o2 i k
 . obtain⟨i,k,rfl⟩:=hn
   obtain⟨⟨x,ix⟩,h1,g⟩:=aB h
   clear h
   obtain⟨p,rfl⟩:=h1
   obtain⟨y,⟨p2,e2⟩,g⟩:=aB g
   have e2:x=.Name y p2:=e2
   subst e2
   obtain⟨h1,h2⟩:=bY g
   obtain⟨c,⟨_,_,e3⟩,g3⟩:=aB h2
   have e3:ix=_:=e3
   rw[e3,sB g3]
   exact aKc M h1
 . exact aKb (λi k z=>hn ⟨i,k,z⟩) (hc.e M h RT Y old σ)
theorem aHd{c:E}{cs:Es}(hc:Q3 P n c)(hs:QA P n cs):QA P n (.cons c cs):=by
 refine⟨λ{X Γ} M {es} h RT Y old σ=>?_,λ{X Γ} M {e} h RT Y old σ=>?_,λ{X Γ} M {es} hl h RT Y old σ=>?_,λ{X Γ} M {es} h RT Y old σ=>?_⟩
 . cases es with
   | nil=>exact nf h
   | cons e es=>
    obtain⟨h1,h2⟩:=bY h
    exact iZ (hc.e M h1 RT Y old σ) (hs.a M h2 RT Y old σ) (aE h1)
 . cases cs with
   | nil=>cases e with
    | none=>exact nf h
    | some e=>exact aJO (hc.e M (by exact h) RT Y old σ)
   | cons _ _=>cases e <;> exact nf h
 . cases es with
   | nil=>exact nf h
   | cons e es=>
    obtain⟨h1,h2⟩:=bY h
    cases es with
    | nil=>cases cs with
     | nil=>exact aGO (hc.t M h1 RT Y old σ)
     | cons _ _=>exact absurd h2 bN
    | cons _ _=>simp at hl
 . cases es with
   | nil=>exact nf h
   | cons e es=>
    obtain⟨h1,h2⟩:=bY h
    exact aGX (aMx hc M h1 RT Y old σ) (hs.p M h2 RT Y old σ) (aE h1)
theorem aKn{c:E}(hc:Q3 P n c):QI P n (.seq c):=λ{X Γ} M {tg e} h RT Y old σ=>aJQ (hc.e M (by exact h) RT Y old σ)
theorem aKo{a b:E}(ha:Q3 P n a)(hb:Q3 P n b):QI P n (.rng a b):=λ{X Γ} M {tg e} h RT Y old σ=>by
 rw[vG] at h
 obtain⟨⟨f,xs⟩,h1,g⟩:=aB h
 clear h
 obtain⟨p1,p2,rfl⟩:=h1
 have h:=g
 clear g
 obtain⟨h1,h2,h3⟩:=cK h
 rcases xs with _|⟨x,_|⟨y,_|⟨_,_⟩⟩⟩
 . cases h3
 . obtain⟨h3,h4⟩:=bY h3
   have ez:a=.c (.int 0):=by
    unfold xB at h3
    split at h3
    . rw[eq_of_beq h3]
    . cases h3
   rw[ez]
   exact aGK M (eq_of_beq h1) h2 (hb.e M h4 RT Y old σ) (aE h4)
 . obtain⟨h3,h4⟩:=bY h3
   exact aGL M (eq_of_beq h1) h2 (ha.e M h3 RT Y old σ) (hb.e M h4 RT Y old σ) (aE h3) (aE h4)
 . cases h3
theorem aKp{a b:E}(ha:Q3 P n a)(hb:Q3 P n b):QI P n (.zip a b):=λ{X Γ} M {tg e} h RT Y old σ=>by
 rw[vH] at h
 obtain⟨⟨f,xs⟩,h1,g⟩:=aB h
 clear h
 obtain⟨p1,p2,rfl⟩:=h1
 have h:=g
 clear g
 rcases xs with _|⟨x,_|⟨y,_|⟨_,_⟩⟩⟩
 . cases h
 . cases h
 . obtain⟨h0,h1,h2,h3,h4⟩:=vI h
   unfold nV at h0
   split at h0
   . exact aJR M (eq_of_beq h1) h2 (ha.e M h3 RT Y old σ) (hb.e M h4 RT Y old σ) (aE h3) (aE h4)
   . cases h0
 . cases h
theorem aHe{a:E}(ha:Q3 P n a):QI P n (.enum a):=λ{X Γ} M {tg e} h RT Y old σ=>by
 rw[qL] at h
 obtain⟨⟨f,xs⟩,h1,g⟩:=aB h
 clear h
 obtain⟨p1,p2,rfl⟩:=h1
 have h:=g
 clear g
 rcases xs with _|⟨x,_|⟨_,_⟩⟩
 . cases h
 . obtain⟨h0,h1,h2,h3⟩:=xR h
   unfold nV at h0
   split at h0
   . exact aGM M (eq_of_beq h1) h2 (ha.e M h3 RT Y old σ) (aE h3)
   . cases h0
 . cases h
theorem aKq{i:Nat}{k:E}(hk:Q3 P n k):Q3 P n (.lix i k):=Q3.of (λ{X Γ} M {e} h RT Y old σ=>by
 obtain⟨⟨x,ix⟩,h1,g⟩:=aB h
 clear h
 obtain⟨p,rfl⟩:=h1
 obtain⟨y,⟨p2,e2⟩,g⟩:=aB g
 have e2:x=.Name y p2:=e2
 subst e2
 obtain⟨h1,h2⟩:=bY g
 exact aJX M h1 (hk.e M h2 RT Y old σ) (aE h2)) (λ_=>rfl) rfl
theorem aKr{a:E}{k:Nat}(ha:Q3 P n a):Q3 P n (.stp a k):=Q3.of (λ{X Γ} M {e} h RT Y old σ=>by
 obtain⟨⟨x,ix⟩,h1,g⟩:=aB h
 clear h
 obtain⟨p,rfl⟩:=h1
 obtain⟨c,⟨_,_,_,e2⟩,g⟩:=aB g
 have e2:ix=_:=e2
 subst e2
 obtain⟨h1,h2⟩:=bY g
 rw[sB h2]
 exact aJY (ha.e M h1 RT Y old σ)) (λ_=>rfl) rfl
theorem aHf{a:E}(ha:Q3 P n a):Q3 P n (.sset a):=Q3.of (λ{X Γ} M {e} h RT Y old σ=>by
 obtain⟨⟨f,xs⟩,h1,g⟩:=aB h
 clear h
 obtain⟨p1,p2,rfl⟩:=h1
 have h:=g
 clear g
 rcases xs with _|⟨s,_|⟨_,_⟩⟩
 . cases h
 . obtain⟨⟨g,ys⟩,h1,g⟩:=aB h
   clear h
   obtain⟨p3,p4,e2⟩:=h1
   have h:=g
   clear g
   have e2:s=.Call (.Name g p3) ys [] p4:=e2
   subst e2
   obtain⟨h1,h2,h3,h4,h5⟩:=vI h
   rcases ys with _|⟨x,_|⟨_,_⟩⟩
   . cases h5
   . exact aGV M (eq_of_beq h1) h2 (eq_of_beq h3) h4 (ha.e M h5 RT Y old σ) (aE h5)
   . cases h5
 . cases h) (λ_=>rfl) rfl
theorem aHg{i:Nat}:Q3 P n (.srtD i):=Q3.of (λ{X Γ} M {e} h RT Y old σ=>by
 obtain⟨⟨f,xs⟩,h1,g⟩:=aB h
 clear h
 obtain⟨p1,p2,rfl⟩:=h1
 obtain⟨h1,h2,h3⟩:=cK g
 rcases xs with _|⟨s,_|⟨_,_⟩⟩
 . cases h3
 . obtain⟨y,⟨p,e2⟩,h3⟩:=aB h3
   have e2:s=.Name y p:=e2
   subst e2
   exact aGW M (eq_of_beq h1) h2 h3
 . cases h3) (λ_=>rfl) rfl
theorem aMy{i k:Nat}:Q3 P n (.o2 i k):=Q3.of (λ{X Γ} M {e} h RT Y old σ=>λpins s σV H Q I hw=>(show False from hw.2).elim) (λ_=>rfl) rfl
theorem aEu{f:Nat}{es:Es}(ha:QA P n es):Q3 P n (.callP f es):=by
 have k:PEc P n (.callP f es):=λ{X Γ} M {e} h RT Y old σ=>by
  obtain⟨⟨x,xs⟩,h1,g⟩:=aB h
  clear h
  obtain⟨p1,p2,rfl⟩:=h1
  obtain⟨h1,h2,h3,h4,h5⟩:=vI g
  cases xs with
  | nil=>cases h4
  | cons y ys=>exact aEs M (eq_of_beq h1) h2 h3 (ha.p M h5 RT Y old σ) (dO h5)
 refine⟨k,λ{X Γ} M {e} h RT Y old σ=>?_,λ{X Γ} M {o xs pos} h RT Y old σ=>absurd h bN⟩
 refine nY (k M h RT Y old σ) ?_ λp hp=>?_
 . obtain⟨⟨x,xs⟩,⟨p1,p2,rfl⟩,_⟩:=aB h
   intro _;rfl
 . have hp:=RE.bind' (show RE (evP P (call P n) σ es >>= λvs=>call P n f vs >>= λr=>aAw r >>= λv=>dN v) p from hp)
   show RE (evP P (call P n) σ es >>= λvs=>call P n f vs >>= λr=>aAw r) _
   rw[RE.bind]
   refine hp.mono λx hx=>?_
   rw[RE.bind]
   exact(RE.bind' hx).mono λy hy=>(RE.bind' hy).mono λz hz=>hz
theorem aHh{i:Nat}{k a:E}(hk:Q3 P n k)(ha:Q3 P n a):Q3 P n (.dgne i k a):=by
 refine⟨λ{X Γ} M {e} h RT Y old σ=>λpins s σV H Q I hw=>(show False from hw.2).elim,λ{X Γ} M {e} h RT Y old σ=>?_,λ{X Γ} M {o xs pos} h RT Y old σ=>absurd h bN⟩
 obtain⟨⟨l,os,rs⟩,h1,g⟩:=aB h
 clear h
 obtain⟨p,rfl⟩:=h1
 rcases os with _|⟨o,_|⟨_,_⟩⟩
 . cases g
 . rcases rs with _|⟨z,_|⟨_,_⟩⟩
   . cases g
   . obtain⟨h1,h2,h3⟩:=cK g
     obtain⟨⟨q,m,xs,b⟩,h4,g5⟩:=aB h3
     clear h3 g
     obtain⟨ap,cp,e4,hl⟩:=h4
     have e4:l=.Call (.Attribute q m ap) xs [] cp:=e4
     subst e4
     obtain⟨k1,k2,k3,k4⟩:=xR g5
     obtain⟨x,⟨p2,e5⟩,k3⟩:=aB k3
     have e5:q=.Name x p2:=e5
     subst e5
     have e6:o=.NotEq:=by cases o <;> first|rfl|cases h1
     have e7:m=("get" : Str):=eq_of_beq k1
     subst e6 e7
     rw[show b=true from k2] at hl
     rcases xs with _|⟨u,_|⟨v,_|⟨_,_⟩⟩⟩
     . cases k4
     . cases k4
     . obtain⟨k4,k5⟩:=bY k4
       exact xQ M k3 hl (hk.e M k4 RT Y old σ) (ha.e M k5 RT Y old σ) (ha.e M h2 RT Y old σ) (aE k4) (aE k5) (aE h2)
     . cases k4
   . cases g
 . cases g
theorem aFz{it:Hp.It}(z:∀Γ tt e,chkI Γ tt it e=false):QI P n it:=by
 intro X Γ M tg e h RT Y old σ
 rw[z] at h
 cases h
mutual
theorem qE:(c:E)->Q3 P n c
 | .c _=>n_c
 | .v _=>n_v
 | .op _ a b=>aMt (qE a) (qE b)
 | .neg _=>fO rfl
 | .nt a=>aMu (qE a)
 | .an a b=>aMv (qE a) (qE b)
 | .orr a b=>aKd (qE a) (qE b)
 | .ife t a b=>aKe (qE t) (qE a) (qE b)
 | .cmp _ a b=>aKf (qE a) (qE b)
 | .cmp2 _ _ a b c=>aGZ (qE a) (qE b) (qE c)
 | .idx a b=>aKg (qE a) (qE b)
 | .sli a lo hi=>aKh (qE a) (qA lo) (qA hi)
 | .tup es=>aKi (qA es)
 | .lst es=>aKj (qA es)
 | .dic (.cons a .nil) (.cons b .nil)=>aKk (qE a) (qE b)
 | .dic .nil _=>fO rfl
 | .dic (.cons _ (.cons _ _)) _=>fO rfl
 | .dic (.cons _ .nil) .nil=>fO rfl
 | .dic (.cons _ .nil) (.cons _ (.cons _ _))=>fO rfl
 | .call _ es=>aHa (qA es)
 | .bi _ es=>aMw (qA es)
 | .mth _ _ _=>fO rfl
 | .isi a _=>aKl (qE a)
 | .attr _ _=>fO rfl
 | .comp _ _ _ it cond elt=>aHb (qI it) (qA cond) (qE elt)
 | .numset _=>fO rfl
 | .tget _ a=>aHc (qE a)
 | .lzip _ _=>fO rfl
 | .lix _ k=>aKq (qE k)
 | .stp a _=>aKr (qE a)
 | .callP _ es=>aEu (qA es)
 | .o2 _ _=>aMy
 | .dgne _ k a=>aHh (qE k) (qE a)
 | .srtD _=>aHg
 | .sset a=>aHf (qE a)
theorem qA:(cs:Es)->QA P n cs
 | .nil=>aKm
 | .cons c cs=>aHd (qE c) (qA cs)
theorem qI:(it:Hp.It)->QI P n it
 | .seq c=>aKn (qE c)
 | .rng a b=>aKo (qE a) (qE b)
 | .zip a b=>aKp (qE a) (qE b)
 | .enum a=>aHe (qE a)
 | .rev _=>aFz λ_ _ _=>rfl
 | .rng3 _ _ _=>aFz λ_ _ _=>rfl
end
theorem sE(c:E):PEc P n c:=(qE c).e
theorem sT(c:E):PTc P n c:=(qE c).t
theorem sTs(cs:Es):∀{X:Cx} {Γ:Ct},Mc X P Γ n->∀{es:List Expr},es.length<=1->chkEs Γ cs es=true->∀(RT Y old:Addr->Prop) (σ:Sg),PTs X es (wTs X P n RT Y old σ cs):=(qA cs).ts
theorem sI(it:Hp.It):QI P n it:=qI it
end
end Hp
end
noncomputable section
set_option maxHeartbeats 4000000
namespace Hp
open PySem PySem.Spec PyProof.Rows L2
def cH(K:Fg)(RT Y old:Addr->Prop)(H:Hp)(σ':Sg)(Q:L2.St->Hp->Prop):Prop:=
 ∀(RT':Addr->Prop) (σV':L2.St) (H':Hp),Kp RT H H'->(∀b,RT' b->RT b\/H b=none)->Sx K RT' Y old σ' σV' H'->Q σV' H'
def Rtv(K:Fg)(Y old:Addr->Prop)(H':Hp)(v:Vl)(u:V):Prop:=
 if v.fr=true then ∃a xs ds,u=.ref a/\v.d=.lst ds/\¬ old a/\H' a=some (.lst xs)/\Reps K H' (λb=>b=a\/exB Y old v.pa b) ds xs
 else Rep K H' (exB Y old v.pa) v.d u
def aMz(K:Fg)(RT Y old:Addr->Prop)(H H':Hp)(v:Vl)(u:V):Prop:=∃(d:D) (cs:List D) (R2:Addr->Prop) (p:Addr) (xs:List V),v.d=.tup [d,.err 0 cs]/\(∀b,R2 b->RT b\/H b=none)/\R2 p/\old p/\H' p=some (.lst xs)/\Reps K H' (λb=>R2 b\/Y b) cs xs /\
 if v.fr=true then ∃a ys es,u=.ref a/\d=.lst es/\¬ old a/\R2 a/\H' a=some (.lst ys)/\Reps K H' (λb=>R2 b\/exB Y old v.pa b) es ys else Rep K H' (λb=>R2 b\/exB Y old v.pa b) d u
def jX(K:Fg)(RT Y old:Addr->Prop)(H:Hp)(v:Vl)(Q:VK):Prop:=∀(u:V) (H':Hp),Kp RT H H'->Tk K H'->Rtv K Y old H' v u\/aMz K RT Y old H H' v u->Q u H'
def OE(K:Fg)(RT Y old:Addr->Prop)(H:Hp)(o:O)(D:Ends):Prop:=match o with
 | .next σ'=>cH K RT Y old H σ' D.nx
 | .brk σ'=>cH K RT Y old H σ' D.bk
 | .cnt σ'=>cH K RT Y old H σ' D.ct
 | .ret v=>jX K RT Y old H v D.rt
 | .exc _ _=>False
 | .bad=>False
def wS(X:Cx)(RT Y old:Addr->Prop)(σ:Sg)(o:O):TS:=λD σV H=>Sx X.K RT Y old σ σV H/\OE X.K RT Y old H o D
section
variable {K:Fg} {RT RT' RT'' Y old:Addr->Prop} {σ:Sg} {σV:L2.St} {H H1 H2:Hp} {o:O} {D D':Ends}
theorem Kp.chain(a:Kp RT H H1)(s:∀b,RT' b->RT b\/H b=none)(b:Kp RT' H1 H2):Kp RT H H2:=λc o e n=>b c o (a c o e n) λz=>(s c z).elim n λq=>by rw[q] at e;cases e
theorem iE(a:Kp RT H H1)(s1:∀b,RT' b->RT b\/H b=none)(s2:∀b,RT'' b->RT' b\/H1 b=none):∀b,RT'' b->RT b\/H b=none:=λb z=>by
 rcases s2 b z with q|q
 . exact s1 b q
 . by_cases hr:RT b
   . exact .inl hr
   . refine .inr ?_
     cases e:H b with
     | none=>rfl
     | some o=>rw[a b o e hr] at q;cases q
theorem cH.mono{σ':Sg}{Q:L2.St->Hp->Prop}(a:Kp RT H H1)(s:∀b,RT' b->RT b\/H b=none)(h:cH K RT Y old H σ' Q):cH K RT' Y old H1 σ' Q:=λRT2 σV2 H2 k n S=>h RT2 σV2 H2 (a.chain s k) (iE a s n) S
theorem OE.mono(a:Kp RT H H1)(s:∀b,RT' b->RT b\/H b=none)(h:OE K RT Y old H o D):OE K RT' Y old H1 o D:=by
 cases o with
 | next σ'=>exact cH.mono a s h
 | brk σ'=>exact cH.mono a s h
 | cnt σ'=>exact cH.mono a s h
 | ret v=>exact λu H2 k t r=>(show jX K RT Y old H v D.rt from h) u H2 (a.chain s k) t (r.imp id λ⟨d,cs,R2,p,xs,e1,e2,q⟩=>⟨d,cs,R2,p,xs,e1,iE a s e2,q⟩)
 | exc x σ'=>exact h
 | bad=>exact h
theorem aS:∀b,RT b->RT b\/H b=none:=λ_ z=>.inl z
def tkE(K:Fg)(D:Ends):Ends:=⟨λσ H=>Tk K H->D.nx σ H,λv H=>Tk K H->D.rt v H,λσ H=>Tk K H->D.bk σ H,λσ H=>Tk K H->D.ct σ H⟩
theorem OE.from{α:Type}{x:R α}{f:α->O}(h:OE K RT Y old H (O.from σ x f) D):RE x λa=>OE K RT Y old H (f a) D:=by
 cases x with
 | ok a=>exact h
 | exc e=>exact h
 | bad=>exact h
end
section
variable {X:Cx} {st:Stmt} {t t':TS}
theorem aFA{pins:List (Addr×Obj)}{D:Ends}{f:Flow}{s':Shared}(h:SP X pins (tkE X.K D) f s'):SP X pins D f s':=by
 cases f with
 | next=>obtain⟨σ',H',I,q⟩:=h;exact⟨σ',H',I,q I.tk⟩
 | brk=>obtain⟨σ',H',I,q⟩:=h;exact⟨σ',H',I,q I.tk⟩
 | cont=>obtain⟨σ',H',I,q⟩:=h;exact⟨σ',H',I,q I.tk⟩
 | ret u=>obtain⟨v,σ',H',I,r,q⟩:=h;exact⟨v,σ',H',I,r,q I.tk⟩
theorem aV(h:PS X st t)(f:∀D σV H,Tk X.K H->t' D σV H->t (tkE X.K D) σV H):PS X st t':=λpins s σV H D I hw=>thn (h pins s σV H _ I (f D σV H I.tk hw)) λfl s' q=>aFA q
theorem jY{sts:List Stmt}(h:PSs X sts t)(f:∀D σV H,Tk X.K H->t' D σV H->t (tkE X.K D) σV H):PSs X sts t':=λpins s σV H D I hw=>thn (h pins s σV H _ I (f D σV H I.tk hw)) λfl s' q=>aFA q
theorem jZ{Y old:Addr->Prop}{sts:List Stmt}{f:Sg->O}(h:∀RT σ,PSs X sts (wS X RT Y old σ (f σ))):PSs X sts (λD σV H=>∃RT σ,wS X RT Y old σ (f σ) D σV H):=λpins s σV H D I ⟨RT,σ,hw⟩=>h RT σ pins s σV H D I hw
end
section
variable {X:Cx} {P:Pg} {Γ:Ct} {n:Nat} {RT Y old:Addr->Prop} {σ:Sg} {pos:Pos}
theorem cH.tkE{σ':Sg}{Q:L2.St->Hp->Prop}{H:Hp}(h:cH X.K RT Y old H σ' Q):cH X.K RT Y old H σ' λσ H=>Tk X.K H->Q σ H:=λRT' σV' H' k n S _=>h RT' σV' H' k n S
theorem OE.tkE{o:O}{D:Ends}{H:Hp}(h:OE X.K RT Y old H o D):OE X.K RT Y old H o (tkE X.K D):=by
 cases o with
 | next σ'=>exact cH.tkE h
 | brk σ'=>exact cH.tkE h
 | cnt σ'=>exact cH.tkE h
 | ret v=>exact λu H2 k t r _=>(show jX X.K RT Y old H v D.rt from h) u H2 k t r
 | exc x σ'=>exact h
 | bad=>exact h
theorem aKs:PSs X [] (wS X RT Y old σ (exs P (call P n) σ .nil)):=jY aDC λD σV H t ⟨S,h⟩ _=>(show cH X.K RT Y old H σ D.nx from h) RT σV H (Kp.refl RT H) aS S
theorem aHi{s:S}{ss:Ss}{x:Stmt}{xs:List Stmt}(h1:∀RT σ,PS X x (wS X RT Y old σ (ex P (call P n) σ s)))(h2:∀RT σ,PSs X xs (wS X RT Y old σ (exs P (call P n) σ ss))) :
 PSs X (x::xs) (wS X RT Y old σ (exs P (call P n) σ (.cons s ss))):=by
 refine jY (aBo (h1 RT σ) (jZ h2)) λD σV H t ⟨S,h⟩=>?_
 have h:OE X.K RT Y old H ((ex P (call P n) σ s).on λσ'=>exs P (call P n) σ' ss) D:=h
 refine⟨S,?_⟩
 cases q:ex P (call P n) σ s with
 | next σ'=>
  rw[q] at h
  exact λRT' σV' H' k nn S'=>⟨RT',σ',S',(OE.mono k nn (show OE X.K RT Y old H (exs P (call P n) σ' ss) D from h)).tkE⟩
 | brk σ'=>rw[q] at h;exact OE.tkE (D:=D) (o:=.brk σ') h
 | cnt σ'=>rw[q] at h;exact OE.tkE (D:=D) (o:=.cnt σ') h
 | ret v=>rw[q] at h;exact OE.tkE (D:=D) (o:=.ret v) h
 | exc e σ'=>rw[q] at h;exact h
 | bad=>rw[q] at h;exact h
theorem aHj:PS X (.Pass pos) (wS X RT Y old σ (ex P (call P n) σ .pass)):=aV aDD λD σV H t ⟨S,h⟩ _=>(show cH X.K RT Y old H σ D.nx from h) RT σV H (Kp.refl RT H) aS S
theorem aKt:PS X (.Break pos) (wS X RT Y old σ (ex P (call P n) σ .brk)):=aV aBp λD σV H t ⟨S,h⟩ _=>(show cH X.K RT Y old H σ D.bk from h) RT σV H (Kp.refl RT H) aS S
theorem aKu:PS X (.Continue pos) (wS X RT Y old σ (ex P (call P n) σ .cnt)):=aV tP λD σV H t ⟨S,h⟩ _=>(show cH X.K RT Y old H σ D.ct from h) RT σV H (Kp.refl RT H) aS S
theorem aKv{st:Stmt}{c:Nat}{k:Bool}{es:Es}:PS X st (wS X RT Y old σ (ex P (call P n) σ (.rse c k es))):=aV aBq λD σV H t ⟨S,h⟩=>by
 have h:OE X.K RT Y old H (O.from σ (evs P (call P n) σ es) λvs=>.exc (.err c (if k then vs.map (·.d) else [])) σ) D:=h
 obtain⟨vs,_,q⟩:=(OE.from h).eq
 exact q
theorem zD{pa:Bool}{al:List Nat}{σV:L2.St}{b:Addr}(h:exB Y old pa b):exV RT Y old σ σV pa al b:=.inr h
theorem Ro.rtv{H H':Hp}{σV:L2.St}{v:Vl}{u:V}(S:Sx X.K RT Y old σ σV H)(ro:Ro X.K RT Y old σ σV H H' v u):Rtv X.K Y old H' v u:=by
 unfold Rtv
 by_cases hf:v.fr=true
 . rw[if_pos hf]
   obtain⟨s,h⟩:=ro
   rw[if_pos hf] at h
   obtain⟨a,xs,ds,e1,e2,e3,e4,r⟩:=h
   exact⟨a,xs,ds,e1,e2,λz=>S.trk a (.inr (.inr z)) e3,e4,r.weak λb z=>z.elim .inl λz=>.inr (zD z)⟩
 . rw[if_neg hf]
   exact Rep.weak (ro.rv S) λb z=>zD z
theorem aKw{c:E}{e:Expr}(he:PE X e (WE X P n RT Y old σ c)):PS X (.Return (some e) pos) (wS X RT Y old σ (ex P (call P n) σ (.ret c))):=by
 refine aV (rA he) λD σV H t ⟨S,h⟩=>?_
 have h:=OE.from (show OE X.K RT Y old H (O.from σ (ev P (call P n) σ c) .ret) D from h)
 exact wE.one S h λx u H1 hx t1 S1 r1 _=>(show jX X.K RT Y old H x D.rt from hx) u H1 (Kp.same r1.1) t1 (.inl (r1.rtv S))
theorem aHk:PS X (.Return none pos) (wS X RT Y old σ (ex P (call P n) σ .retN)):=aV aDE λD σV H t ⟨S,h⟩ _=>(show jX X.K RT Y old H (.cl .non) D.rt from h) .non H (Kp.refl RT H) t (.inl rfl)
theorem zE{K:Fg}{H:Hp}{ex:Addr->Prop}:∀ks:List Nat,RepKV K H ex (jM ks) (ks.map λ(k:Nat)=>(.inl (k:Int),V.bl true))
 | []=>rfl
 | k::ks=>⟨_,_,_,rfl,rfl,rfl,zE ks⟩
theorem aHl{i:Nat}{x:Str}{p:Pos}(M:Mc X P Γ n)(hx:aP Γ i x=true):PS X (.Return (some (.Name x p)) pos) (wS X RT Y old σ (ex P (call P n) σ (.retv i))):=by
 have hpe:PE X (.Name x p) (wF i):=by
  unfold aP at hx
  obtain⟨h1,h2,h3⟩:=cK hx
  exact iR (by rw[M.N];exact eq_of_beq h1) (M.vis h2) (aH h3) (dE h3)
 refine aV (rA hpe) λD σV H t ⟨S,h⟩=>?_
 have h:OE X.K RT Y old H (match σ[i]? with|some (.own pa ds)=>.ret ⟨.lst ds,true,pa,[]⟩|some (.dct (.s ks))=>.ret (.cl (.dic (jM ks)))|_=>O.from σ (cA σ i) .ret) D:=h
 unfold cA at h
 cases e:σ[i]? with
 | none=>rw[e] at h;exact h.elim
 | some sl=>
  rw[e] at h
  cases sl with
  | dead=>exact h.elim
  | lent _=>exact h.elim
  | own2 _=>exact h.elim
  | dct w=>
   cases w with
   | m _=>exact h.elim
   | s ks=>
    obtain⟨a,h1,h2,h3,h4⟩:=S.dx.at' i _ e
    exact⟨.ref a,h1,λ_=>(show jX X.K RT Y old H (.cl (.dic (jM ks))) D.rt from h) _ H (Kp.refl RT H) t (.inl ⟨a,_,rfl,h4,λz=>h3 (z.elim (S.yo a) (·.2)),zE ks⟩)⟩
  | own pa ds=>
   obtain⟨a,xs,h1,h2,h3,h4,h5⟩:=S.own i pa ds e
   refine⟨.ref a,h1,λ_=>(show jX X.K RT Y old H ⟨.lst ds,true,pa,[]⟩ D.rt from h) _ H (Kp.refl RT H) t (.inl ?_)⟩
   unfold Rtv
   rw[if_pos rfl]
   exact⟨a,xs,ds,rfl,rfl,h4,h2,h5.weak λb z=>z.elim (λz=>.inl (by rw[z];exact h3)) .inr⟩
  | sh pa d=>
   obtain⟨v,h1,h2⟩:=S.sh i pa d e
   refine⟨v,h1,λ_=>(show jX X.K RT Y old H ⟨d,false,pa&&!noL d,[]⟩ D.rt from h) v H (Kp.refl RT H) t (.inl ?_)⟩
   unfold Rtv
   rw[if_neg bN]
   show Rep X.K H (exB Y old (pa&&!noL d)) d v
   cases hn:noL d with
   | true=>exact Rep.free d v hn h2
   | false=>
    refine h2.weak λb z=>.inr ?_
    rw[Ek,D1] at z
    exact z
theorem aMA{c:E}{e:Expr}(he:PE X e (WE X P n RT Y old σ c))(hs:iX e=false):PS X (.Expr e pos) (wS X RT Y old σ (ex P (call P n) σ (.ex c))):=by
 refine aV (hX he (by cases e <;> first|rfl|cases hs)) λD σV H t ⟨S,h⟩=>?_
 have h:=OE.from (show OE X.K RT Y old H (O.from σ (ev P (call P n) σ c) λ_=>.next σ) D from h)
 exact wE.one S h λx u H1 hx t1 S1 r1 _=>(show cH X.K RT Y old H σ D.nx from hx) RT σV H1 (Kp.same r1.1) aS S1
theorem aMB{c:E}{a b:Ss}{e:Expr}{xa xb:List Stmt}(hc:PT X e (WT X P n RT Y old σ c))(ha:∀RT σ,PSs X xa (wS X RT Y old σ (exs P (call P n) σ a)))(hb:∀RT σ,PSs X xb (wS X RT Y old σ (exs P (call P n) σ b))) :
 PS X (.If e xa xb pos) (wS X RT Y old σ (ex P (call P n) σ (.iff c a b))):=by
 refine aV (aFe hc (ha RT σ) (hb RT σ)) λD σV H t ⟨S,h⟩=>?_
 have h:=OE.from (show OE X.K RT Y old H (O.from σ (tst P (call P n) σ c) λk=>if k=true then exs P (call P n) σ a else exs P (call P n) σ b) D from h)
 refine⟨S,h.mono λk hk H1 t1 s1=>?_⟩
 cases k with
 | true=>rw[if_pos rfl] at hk ⊢;exact⟨S.grow s1 t1,(OE.mono (Kp.same s1) aS hk).tkE⟩
 | false=>rw[if_neg bN] at hk ⊢;exact⟨S.grow s1 t1,(OE.mono (Kp.same s1) aS hk).tkE⟩
theorem sC{σV:L2.St}{H H1:Hp}{v:Vl}{u:V}{t:T}{D:Ends}(S:Sx X.K RT Y old σ σV H)(t1:Tk X.K H1)(r1:Ro X.K RT Y old σ σV H H1 v u)(h:OE X.K RT Y old H (O.from σ (bC (freeze σ v.al) v t) .next) D):gT X.K t u σV H1 D.nx:=by
 obtain⟨σ2,e,hp⟩:=(OE.from h).eq
 have hp:cH X.K RT Y old H σ2 D.nx:=hp
 clear h
 cases t with
 | n i=>
  obtain⟨RT',S',hsub⟩:=S.store r1 t1 i
  rw[oH e] at hp
  exact hp RT' _ H1 (Kp.same r1.1) hsub S'
 | t is=>
  obtain⟨ds,hd,hl,e'⟩:=oG e
  have Sf:=(S.grow r1.1 t1).frz v.al
  have hr:Rep X.K H1 (λa=>rtF RT σ σV v.al a\/exB Y old v.pa a) v.d u:=r1.rv S
  have hf:v.fr=false\/v.fr=true:=by cases v.fr <;> simp
  rcases hf with hf|hf
  . exact yY Sf hf hr e λσ2V S2 _=>hp _ _ _ (Kp.same r1.1) (λb z=>.inl z.1) S2
  . have:=r1.2
    rw[if_pos hf] at this
    obtain⟨a,xs,ds',_,e2,_⟩:=this
    rw[hd] at e2;cases e2
theorem aHm{c:E}{e:Expr}{i:Nat}{x:Str}{p:Pos}(M:Mc X P Γ n)(hx:aR Γ i x=true)(he:PE X e (WE X P n RT Y old σ c))(hs:iX e=false):PS X (.Assign [.Name x p] e pos) (wS X RT Y old σ (ex P (call P n) σ (.set (.n i) c))):=by
 unfold aR at hx
 obtain⟨h1,h2,h3⟩:=cK hx
 refine aV (gG (i:=i) M.nd (by rw[M.N];exact eq_of_beq h1) (M.loc h2) he (by cases e <;> first|rfl|cases hs) (M.st x h2)) λD σV H t ⟨S,h⟩=>?_
 have h:=OE.from (show OE X.K RT Y old H (O.from σ (ev P (call P n) σ c) λv=>O.from σ (bC (freeze σ v.al) v (.n i)) .next) D from h)
 exact wE.one S h λv u H1 hv t1 S1 r1=>sC (t:=.n i) S t1 r1 (OE.tkE hv)
theorem aHn{c:E}{e:Expr}{is:List Nat}{es:List Expr}{k:Nat}{p:Pos}(M:Mc X P Γ n)(hx:iW Γ (.t is) (.Tuple es k p)=true)(he:PE X e (WE X P n RT Y old σ c))(hs:xC e=false):PS X (.Assign [.Tuple es k p] e pos) (wS X RT Y old σ (ex P (call P n) σ (.set (.t is) c))):=by
 refine aV (rB he (aAO M hx) (by cases e <;> rfl) (by cases e <;> first|rfl|cases hs)) λD σV H t ⟨S,h⟩=>?_
 have h:=OE.from (show OE X.K RT Y old H (O.from σ (ev P (call P n) σ c) λv=>O.from σ (bC (freeze σ v.al) v (.t is)) .next) D from h)
 exact wE.one S h λv u H1 hv t1 S1 r1=>sC (t:=.t is) S t1 r1 (OE.tkE hv)
theorem aAX{i:Nat}{x:Str}{p cpos:Pos}(M:Mc X P Γ n)(hx:aR Γ i x=true){k:Nat}{caps:List Nat}{t:T}{it:Hp.It}{cond:Es}{elt:E}{e tg iter:Expr}{ifs:List Expr}{scope:Scope}{N':List Str}(CS:cG X scope k caps N')(hnd:caps.Nodup)(hk:∀i∈tIx t,i<k)
 (hi:PI X tg iter (wI X P n RT Y old σ it))
 (hch:∀C s₀ H₀ ex,PG (cS X scope N' C s₀ H₀ ex) tg (gT X.K t)/\(∀RT Y old σ1,PTs (cS X scope N' C s₀ H₀ ex) ifs (wTs X P n RT Y old σ1 cond))/\∀RT Y old σ1,PE (cS X scope N' C s₀ H₀ ex) e (WE X P n RT Y old σ1 elt))
 (hs:∀x,foldedSetIterable iter X.env x=pure x):PS X (.Assign [.Name x p] (.ListComp e [⟨tg,iter,ifs,0⟩] scope cpos) pos) (wS X RT Y old σ (ex P (call P n) σ (.set (.n i) (.comp k caps t it cond elt)))):=by
 unfold aR at hx
 obtain⟨h1,h2,h3⟩:=cK hx
 refine aV (xF (g:=gT X.K t) (tt:=λσV H Q=>∃RT Y old σ1,wTs X P n RT Y old σ1 cond σV H Q) (te:=λσV H Q=>∃RT Y old σ1,WE X P n RT Y old σ1 elt σV H Q) CS M.calm hi (λC s₀ H₀ ex=>?_) hs M.nd (by rw[M.N];exact eq_of_beq h1) (M.loc h2) (M.st x h2)) λD σV H t0 ⟨S,h⟩=>?_
 . obtain⟨h1,h2,h3⟩:=hch C s₀ H₀ ex
   exact⟨h1,λpins s σV H Q I ⟨RT,Y,old,σ1,hw⟩=>h2 RT Y old σ1 pins s σV H Q I hw,λpins s σV H Q I ⟨RT,Y,old,σ1,hw⟩=>h3 RT Y old σ1 pins s σV H Q I hw⟩
 . have h:=OE.from (show OE X.K RT Y old H (O.from σ (ev P (call P n) σ (.comp k caps t it cond elt)) λv=>O.from σ (bC (freeze σ v.al) v (.n i)) .next) D from h)
   exact aCl (Q:=λv H'=>pR i v σV H' D.nx) hnd hk ⟨S,h.mono λv hv u H1 t1 r1=>sC (t:=.n i) S t1 r1 hv⟩
def eQ(lt:Bool)(pa:Bool)(ds:List D):Sl:=if lt then .lent ds else .own pa ds
theorem Sx.mutH{K:Fg}{σV:L2.St}{H H':Hp}{RT':Addr->Prop}(S:Sx K RT Y old σ σV H){i:Nat}{lt pa pa':Bool}{ds ds':List D}{a:Addr}{xs':List V}(e:σ[i]? = some (eQ lt pa ds))(ha:σV[i]? = some (some (.ref a)))(h1:∀b,RT b->RT' b)(h2:∀b,RT' b->RT b\/H b=none)
 (h3:∀b,RT' b->RtO H' b) (t:Tk K H') (kp:Kp (λb=>b=a) H H') (hx:H' a=some (.lst xs')) (r:Reps K H' (λb=>RT' b\/exB Y old (lt||pa') b) ds' xs'):Sx K RT' Y old (σ.set i (eQ lt pa' ds')) σV H':=by
 have hA:(∃xs,H a=some (.lst xs))/\RT a/\(if lt then old a else ¬ old a):=by
  cases lt with
  | true=>
   obtain⟨b,xs,g1,g2,g3,g4,_⟩:=S.lx.at' i ds e
   rw[ha] at g1
   cases g1
   exact⟨⟨xs,g2⟩,g3,g4⟩
  | false=>
   obtain⟨b,xs,g1,g2,g3,g4,_⟩:=S.own i pa ds e
   rw[ha] at g1
   cases g1
   exact⟨⟨xs,g2⟩,g3,g4⟩
 obtain⟨⟨xs,hax⟩,haR,hao⟩:=hA
 have nr:∀b ys,¬ RT b->SqL K H b ys->¬ RT' b:=λb ys n q z=>by
  rcases h2 b z with z'|z'
  . exact n z'
  . exact yW q ⟨z',t b (h3 b z).ne⟩
 have nd:∀b ks,¬ RT b->H b=some (.dK ks)->¬ RT' b:=λb ks n q z=>by
  rcases h2 b z with z'|z'
  . exact n z'
  . rw[z'] at q;cases q
 have kL:∀a',a'=a->RtO H a':=λa' z=>.lst (xs:=xs) (by rw[z];exact hax)
 have tr:∀{pb:Bool} {d:List D} {v:List V},Reps K H (λb=>RT b\/exB Y old pb b) d v->Reps K H' (λb=>RT' b\/exB Y old pb b) d v:=λ{pb d v} q=>
  Reps.imp (λb ys z=>kp.seqT kL z) (λb ys n z=>⟨λw=>w.elim (nr b ys (λz=>n (.inl z)) z) λw=>n (.inr w),kp.seqL (λw=>n (.inl (by rw[w];exact haR))) z⟩) (λb ks n z=>⟨λw=>w.elim (nd b ks (λz=>n (.inl z)) z) λw=>n (.inr w),kp b _ z λw=>by rw[w,hax] at z;cases z⟩) d v q
 have tr1:∀{pb:Bool} {d:D} {v:V},Rep K H (λb=>RT b\/exB Y old pb b) d v->Rep K H' (λb=>RT' b\/exB Y old pb b) d v:=λ{pb d v} q=>
  Rep.imp (λb ys z=>kp.seqT kL z) (λb ys n z=>⟨λw=>w.elim (nr b ys (λz=>n (.inl z)) z) λw=>n (.inr w),kp.seqL (λw=>n (.inl (by rw[w];exact haR))) z⟩) (λb ks n z=>⟨λw=>w.elim (nd b ks (λz=>n (.inl z)) z) λw=>n (.inr w),kp b _ z λw=>by rw[w,hax] at z;cases z⟩) d v q
 have live:∀b,H b≠none->H' b≠none:=λb z q=>by
  by_cases hb:b=a
  . rw[hb,hx] at q;cases q
  . cases o:H b with
    | none=>exact z o
    | some o'=>rw[kp b o' o hb] at q;cases q
 exact {
  sh:=λj pb d q=>by
   rcases set_some q with⟨_,z,_⟩|⟨_,q⟩
   . cases lt <;> cases z
   . obtain⟨v,g1,g2⟩:=S.sh j pb d q
     exact⟨v,g1,tr1 g2⟩
  own:=λj pb dd q=>by
   rcases set_some q with⟨rfl,z,_⟩|⟨hne,q2⟩
   . cases lt with
     | true=>cases z
     | false=>
      cases z
      exact⟨a,xs',ha,hx,h1 a haR,hao,r⟩
   . obtain⟨b,ys,g1,g2,g3,g4,g5⟩:=S.own j pb dd q2
     have hb:b≠a:=λz=>by
      subst z
      cases lt with
      | true=>exact g4 hao
      | false=>exact hne (S.inj i j pa pb ds dd b e q2 ha g1)
     exact⟨b,ys,g1,kp b _ g2 hb,h1 b g3,g4,tr g5⟩
  trk:=λb z q=>by
   rcases z with z|z
   . exact(h3 b z).ne q
   . exact live b (S.trk b (.inr z)) q
  yo:=S.yo
  tk:=t
  rt:=h3
  inj:=λj j' pb pb' dd dd' b q1 q2=>by
   have get:∀{j:Nat} {pb:Bool} {dd:List D},(σ.set i (eQ lt pa' ds'))[j]? = some (.own pb dd)->∃p2 d2,σ[j]? = some (.own p2 d2):=λ{j pb dd} q=>by
    rcases set_some q with⟨rfl,z,_⟩|⟨_,q⟩
    . cases lt with
      | true=>cases z
      | false=>exact⟨pa,ds,e⟩
    . exact⟨pb,dd,q⟩
   obtain⟨_,_,z1⟩:=get q1
   obtain⟨_,_,z2⟩:=get q2
   exact S.inj j j' _ _ _ _ b z1 z2
  len:=by rw[Ap];exact S.len
  lx:={
   at':=λj dd q=>by
    rcases set_some q with⟨rfl,z,_⟩|⟨hne,q2⟩
    . cases lt with
      | false=>cases z
      | true=>
       cases z
       exact⟨a,xs',ha,hx,h1 a haR,hao,r⟩
    . obtain⟨b,ys,g1,g2,g3,g4,g5⟩:=S.lx.at' j dd q2
      have hb:b≠a:=λz=>by
       subst z
       cases lt with
       | false=>exact hao g4
       | true=>exact hne (S.lx.inj i j ds dd b e q2 ha g1)
      exact⟨b,ys,g1,kp b _ g2 hb,h1 b g3,g4,tr g5⟩
   inj:=λj j' dd dd' b q1 q2=>by
    have get:∀{j:Nat} {dd:List D},(σ.set i (eQ lt pa' ds'))[j]? = some (.lent dd)->∃d2,σ[j]? = some (.lent d2):=λ{j dd} q=>by
     rcases set_some q with⟨rfl,z,_⟩|⟨_,q⟩
     . cases lt with
       | false=>cases z
       | true=>exact⟨ds,e⟩
     . exact⟨dd,q⟩
    obtain⟨_,z1⟩:=get q1
    obtain⟨_,z2⟩:=get q2
    exact S.lx.inj j j' _ _ b z1 z2
   at2:=λj dss q=>by
    rcases set_some q with⟨_,z,_⟩|⟨hne,q2⟩
    . cases lt <;> cases z
    . obtain⟨c,bs,g1,g2,g3,g4,g5⟩:=S.lx.at2 j dss q2
      have na:∀b,Pt RT old σ σV b->b≠a:=λb z w=>by
       subst w
       cases lt with
       | true=>exact z.2.1 hao
       | false=>exact z.2.2 i pa ds e ha
      have pt:∀b,Pt RT old σ σV b->Pt RT' old (σ.set i (eQ lt pa' ds')) σV b:=λb z=>⟨h1 b z.1,z.2.1,λk pb dd w=>by
       rcases set_some w with⟨rfl,v,_⟩|⟨_,w⟩
       . intro u
         rw[ha] at u
         cases u
         exact na _ z rfl
       . exact z.2.2 k pb dd w⟩
      exact⟨c,bs,g1,kp c _ g2 (na c (g3 c Ak)),λb hb=>pt b (g3 b hb),g4,g5.imp (λb ys z=>kp.seqT kL z) λb hb xs w=>kp b _ w (na b (g3 b (Ae _ hb)))⟩
   one:=λj j' dss dss' q1 q2=>by
    rcases set_some q1 with⟨_,z,_⟩|⟨_,q1⟩
    . cases lt <;> cases z
    rcases set_some q2 with⟨_,z,_⟩|⟨_,q2⟩
    . cases lt <;> cases z
    exact S.lx.one j j' dss dss' q1 q2 }
  dx:=S.dx.imp id (λj dd q=>by
   rcases set_some q with⟨_,z,_⟩|⟨_,q⟩
   . cases lt <;> cases z
   . exact⟨q,rfl⟩) (λ_ _ _ _ _ _ e=>e) (λb o e n z _=>⟨kp b _ e (λw=>by rw[w,hax] at e;cases e;exact n _ rfl),h1 b z⟩) (λ_ _ r=>tr r) λb ks z=>kp.seqT kL z }
theorem Sx.mutA{K:Fg}{σV:L2.St}{H:Hp}(S:Sx K RT Y old σ σV H){i:Nat}{lt pa pa':Bool}{ds ds':List D}{a:Addr}{xs':List V}(e:σ[i]? = some (eQ lt pa ds))(ha:σV[i]? = some (some (.ref a)))(r:Reps K H (λb=>RT b\/exB Y old (lt||pa') b) ds' xs') :
 Sx K RT Y old (σ.set i (eQ lt pa' ds')) σV (upd H a (.lst xs')):=by
 have hA:(∃xs,H a=some (.lst xs))/\RT a:=by
  cases lt with
  | true=>
   obtain⟨b,xs,g1,g2,g3,_⟩:=S.lx.at' i ds e
   rw[ha] at g1
   cases g1
   exact⟨⟨xs,g2⟩,g3⟩
  | false=>
   obtain⟨b,xs,g1,g2,g3,_⟩:=S.own i pa ds e
   rw[ha] at g1
   cases g1
   exact⟨⟨xs,g2⟩,g3⟩
 obtain⟨⟨xs,hax⟩,haR⟩:=hA
 have kp:Kp (λb=>b=a) H (upd H a (.lst xs')):=λb o q n=>by rw[upd_ne n];exact q
 refine S.mutH e ha (λ_ z=>z) (λ_ z=>.inl z) (λb z=>?_) (λb z=>?_) kp aL (r.kp kp (λb z=>.lst (xs:=xs) (by rw[z];exact hax)) λb z=>.inl (by rw[z];exact haR))
 . by_cases hb:b=a
   . rw[hb];exact .lst aL
   . unfold RtO;rw[upd_ne hb];exact S.rt b z
 . by_cases hb:b=a
   . rw[hb];exact S.tk a (by rw[hax];simp)
   . rw[upd_ne hb] at z;exact S.tk b z
theorem Sx.mut{K:Fg}{σV:L2.St}{H:Hp}(S:Sx K RT Y old σ σV H){i:Nat}{pa pa':Bool}{ds ds':List D}{a:Addr}{xs':List V}(e:σ[i]? = some (.own pa ds))(ha:σV[i]? = some (some (.ref a)))(r:Reps K H (λb=>RT b\/exB Y old pa' b) ds' xs') :
 Sx K RT Y old (σ.set i (.own pa' ds')) σV (upd H a (.lst xs')):=S.mutA (lt:=false) e ha r
theorem Kp.upd{H H1:Hp}{a:Addr}{xs:List V}(s:aF H H1)(h:RT a):Kp RT H (upd H1 a (.lst xs)):=λb o e nn=>by
 rw[upd_ne λz=>nn (by rw[z];exact h)]
 exact s b o e
theorem vJ{i:Nat}{pa:Bool}{ds:List D}(h:iO σ i=some (pa,ds)):σ[i]? = some (.own pa ds):=by
 unfold iO at h
 split at h
 . rename_i q;cases h;exact q
 . cases h
theorem sD{i:Nat}{v:Vl}{f:List D->Option (List D)}{H:Hp}{D:Ends}(h:OE X.K RT Y old H (put σ i v f) D):∃pa ds ds',σ[i]? = some (.own pa ds)/\i∉v.al/\f ds=some ds'/\ds'.length<=lim/\cH X.K RT Y old H ((freeze σ v.al).set i (.own (pa||v.pa) ds')) D.nx:=by
 unfold put at h
 split at h
 . rename_i pa ds q
   have q:=dG (vJ q)
   split at h
   . rename_i ds' q2
     split at h
     . rename_i hl
       exact⟨pa,ds,ds',q.1,q.2,q2,hl,h⟩
     . exact h.elim
   . exact h.elim
 . exact h.elim
theorem kA{pa pb:Bool}{b:Addr}(h:exB Y old (pa||pb) b):exB Y old pa b:=h.imp_right λz=>⟨by cases pa <;> simp_all,z.2⟩
theorem sF{pa pb:Bool}{b:Addr}(h:exB Y old (pa||pb) b):exB Y old pb b:=h.imp_right λz=>⟨by cases pb <;> simp_all,z.2⟩
theorem mW{i:Nat}{m:Str}{c:Expr}{xs:List Expr}(h:jO Γ i m c=some xs):∃x p ap cp,c=.Call (.Attribute (.Name x p) m ap) xs [] cp/\aP Γ i x=true/\(ap.endLine==cp.line)=true:=by
 unfold jO at h
 split at h
 . rename_i x p a ap xs' cp
   split at h
   . rename_i q
     obtain⟨q1,q2,q3⟩:=cK q
     cases h
     have e:a=m:=eq_of_beq q1
     subst e
     exact⟨x,p,ap,cp,rfl,q2,q3⟩
   . cases h
 . cases h
theorem dJ{i:Nat}{x:Str}{p:Pos}(M:Mc X P Γ n)(hx:aP Γ i x=true):PE X (.Name x p) (wF i):=by
 unfold aP at hx
 obtain⟨h1,h2,h3⟩:=cK hx
 exact iR (by rw[M.N];exact eq_of_beq h1) (M.vis h2) (aH h3) (dE h3)
theorem sG:lim<sizeLine:=by rw[Be];decide
theorem kB{i:Nat}{al:List Nat}{pa:Bool}{ds:List D}{σV:L2.St}{H H1:Hp}{b:Addr}{xs:List V}(S:Sx X.K RT Y old σ σV H)(s1:aF H H1)(q1:σ[i]? = some (.own pa ds))(h1:σV[i]? = some (some (.ref b)))(h2:H b=some (.lst xs)) :
 Reps X.K H1 (λc=>rtF RT σ σV al c\/exB Y old pa c) ds xs:=by
 obtain⟨b',xs',g1,g2,g3,g4,g5⟩:=S.own i pa ds q1
 rw[h1] at g1
 cases g1
 rw[h2] at g2
 cases g2
 exact(g5.grow s1).weak λc z=>z.elim (λz=>.inl z.1) .inr
theorem kC{i:Nat}{v:Vl}{pa:Bool}{ds ds':List D}{σV:L2.St}{H H1:Hp}{b:Addr}{xs':List V}{Q:L2.St->Hp->Prop}(S:Sx X.K RT Y old σ σV H)(s1:aF H H1)(t1:Tk X.K H1)(q1:σ[i]? = some (.own pa ds))(q2:i∉v.al)(h1:σV[i]? = some (some (.ref b)))
 (r:Reps X.K H1 (λc=>rtF RT σ σV v.al c\/exB Y old (pa||v.pa) c) ds' xs') (hpost:cH X.K RT Y old H ((freeze σ v.al).set i (.own (pa||v.pa) ds')) Q):Q σV (upd H1 b (.lst xs')):=by
 obtain⟨b',xs,g1,g2,g3,g4,g5⟩:=S.own i pa ds q1
 rw[h1] at g1
 cases g1
 have e':(freeze σ v.al)[i]? = some (.own pa ds):=by
  rw[cY,q1]
  simp[q2]
 exact hpost _ σV _ (Kp.upd s1 g3) (λc z=>.inl z.1) (((S.grow s1 t1).frz v.al).mut e' h1 r)
theorem aCu{σV:L2.St}{H1:Hp}{v:Vl}{u:V}{pa:Bool}(h:Rv X.K RT Y old σ σV H1 v u):Rep X.K H1 (λc=>rtF RT σ σV v.al c\/exB Y old (pa||v.pa) c) v.d u:=Rep.weak h λc z=>z.imp id sF
theorem aKx{i:Nat}{c:E}{e a:Expr}(M:Mc X P Γ n)(hc:jO Γ i "append" e=some [a])(ha:PE X a (WE X P n RT Y old σ c))(hp:aG a=true):PS X (.Expr e pos) (wS X RT Y old σ (ex P (call P n) σ (.app i c))):=by
 obtain⟨x,p,ap,cp,rfl,hx,hl⟩:=mW hc
 refine aV (hX (yM C5 D5 D6 kY (dJ M hx) (bQ ha cT (aA hp)) rfl (by rw[aA hp];rfl) hl (aA hp) rfl)) λD σV H t ⟨S,h⟩=>?_
 have h:=OE.from (show OE X.K RT Y old H (O.from σ (ev P (call P n) σ c) λv=>put σ i v λds=>some (ds++[v.d])) D from h)
 obtain⟨v,ee,h⟩:=h.eq
 obtain⟨pa,ds,ds',q1,q2,q3,q4,hpost⟩:=sD h
 cases q3
 obtain⟨b,xs,h1,h2,h3,h4,h5⟩:=S.own i pa ds q1
 refine⟨.ref b,h1,.inl ⟨rfl,xs,SqL.of h2⟩,S,?_⟩
 rw[ee]
 intro u H1 t1 r1
 have hlen:=h5.length
 refine⟨b,xs,u,rfl,rfl,r1.1 _ _ h2,?_,λ_=>?_⟩
 . rw[lA,Bq] at q4
   have:=sG
   omega
 . exact kC S r1.1 t1 q1 q2 h1 (((kB S r1.1 q1 h1 h2).weak λc z=>z.imp id kA).append (.cons (aCu (r1.rv S)) .nil)) hpost
theorem aKy{i:Nat}{c:E}{e a:Expr}(M:Mc X P Γ n)(hc:jO Γ i "extend" e=some [a])(ha:PE X a (WE X P n RT Y old σ c))(hp:aG a=true):PS X (.Expr e pos) (wS X RT Y old σ (ex P (call P n) σ (.ext i c))):=by
 obtain⟨x,p,ap,cp,rfl,hx,hl⟩:=mW hc
 refine aV (hX (yM C5 PySem.F.slot_list_extend PySem.F.type_list_extend aAs (dJ M hx) (bQ ha cT (aA hp)) rfl (by rw[aA hp];rfl) hl (aA hp) rfl)) λD σV H t ⟨S,h⟩=>?_
 have h:=OE.from (show OE X.K RT Y old H (O.from σ (ev P (call P n) σ c) λv=>(match nT v with|some (v',ds')=>put σ i v' λds=>some (ds++ds')|none=>.bad)) D from h)
 obtain⟨v,ee,h⟩:=h.eq
 unfold nT at h
 cases hf:v.fr with
 | false=>rw[hf] at h;exact h.elim
 | true=>
  rw[hf] at h
  cases hd:v.d with
  | lst es=>
   rw[hd] at h
   obtain⟨pa,ds,ds',q1,q2,q3,q4,hpost⟩:=sD h
   cases q3
   obtain⟨b,xs,h1,h2,h3,h4,h5⟩:=S.own i pa ds q1
   refine⟨.ref b,h1,.inl ⟨rfl,xs,SqL.of h2⟩,S,?_⟩
   rw[ee]
   intro u H1 t1 r1
   have hr:=r1.2
   rw[if_pos hf] at hr
   obtain⟨a',ys,es',e1,e2,e3,e4,r⟩:=hr
   rw[hd] at e2
   cases e2
   subst e1
   have hlen:=h5.length
   have hlen2:=r.length
   refine⟨b,a',xs,ys,rfl,rfl,r1.1 _ _ h2,e4,?_,λ_=>?_⟩
   . rw[lA] at q4
     have:=sG
     omega
   . refine kC S r1.1 t1 q1 q2 h1 (((kB S r1.1 q1 h1 h2).weak λc z=>z.imp id kA).append ?_) hpost
     have rr:=eJ (r.weak λb z=>.inr z)
     exact rr.weak λc z=>z.imp id sF
  | _=>rw[hd] at h;exact h.elim
theorem aEv{i:Nat}{ck c:E}{x:Str}{p p2:Pos}{ix v:Expr}(M:Mc X P Γ n)(hx:aP Γ i x=true)(hk:PE X ix (WE X P n RT Y old σ ck))(he:PE X v (WE X P n RT Y old σ c))(hpl:aG ix=true):PS X (.Assign [.Subscript (.Name x p) ix p2] v pos) (wS X RT Y old σ (ex P (call P n) σ (.setIx i ck c))):=by
 refine aV (rB he (wH (dJ M hx) hk tV (by intro _;cases ix <;> first|rfl|cases hpl)) (by cases v <;> rfl) (by cases v <;> rfl)) λD σV H t ⟨S,h⟩=>?_
 have h:=OE.from (show OE X.K RT Y old H (O.from σ (ev P (call P n) σ c) λv=>O.from σ (ev P (call P n) σ ck) λkv=>(match kv.d with
  | .int k=>put σ i v λds=>(match ixN ds.length k with|some j=>some (ds.set j v.d)|none=>none)
  | _=>.bad)) D from h)
 refine wE.one S h λv u H1 hv t1 S1 r1=>?_
 obtain⟨kv,ek,hv⟩:=(OE.from hv).eq
 cases hd:kv.d with
 | int k=>
  rw[hd] at hv
  obtain⟨pa,ds,ds',q1,q2,q3,q4,hpost⟩:=sD hv
  obtain⟨b,xs,h1,h2,h3,h4,h5⟩:=S.own i pa ds q1
  cases hj:ixN ds.length k with
  | none=>rw[hj] at q3;cases q3
  | some j=>
   rw[hj] at q3
   cases q3
   refine⟨.ref b,h1,S1,?_⟩
   rw[ek]
   intro uk H2 t2 r2
   have hlen:=h5.length
   refine⟨b,xs,k,j,rfl,(r2.rv S1).int hd,r2.1 _ _ (r1.1 _ _ h2),by rw[<-hlen,<-iY];exact hj,λ_=>?_⟩
   have s2:=r1.1.trans r2.1
   refine kC S s2 t2 q1 q2 h1 (((kB S s2 q1 h1 h2).weak λc z=>z.imp id kA).set j (aCu ((r1.rv S).grow r2.1))) hpost
 | _=>rw[hd] at hv;exact hv.elim
theorem Sx.move{K:Fg}{σV:L2.St}{H:Hp}(S:Sx K RT Y old σ σV H){i j:Nat}{pa:Bool}{ds:List D}{a:Addr}(e:σ[j]? = some (.own pa ds))(hij:i≠j)(ha:σV[j]? = some (some (.ref a))):Sx K RT Y old ((σ.set j .dead).set i (.own pa ds)) (σV.set i (some (.ref a))) H where
 sh:=λk pb d q=>by
  rcases set_some q with⟨_,z,_⟩|⟨n1,q⟩
  . cases z
  rcases set_some q with⟨_,z,_⟩|⟨n2,q⟩
  . cases z
  obtain⟨v,g1,g2⟩:=S.sh k pb d q
  exact⟨v,by rw[Ac n1];exact g1,g2⟩
 own:=λk pb dd q=>by
  rcases set_some q with⟨rfl,z,hl⟩|⟨n1,q⟩
  . cases z
    obtain⟨b,xs,g1,g2,g3⟩:=S.own j pa ds e
    rw[ha] at g1
    cases g1
    rw[Ap] at hl
    exact⟨a,xs,Am (by rw[<-S.len];exact hl),g2,g3⟩
  rcases set_some q with⟨_,z,_⟩|⟨n2,q⟩
  . cases z
  obtain⟨b,xs,g1,g2⟩:=S.own k pb dd q
  exact⟨b,xs,by rw[Ac n1];exact g1,g2⟩
 trk:=S.trk
 yo:=S.yo
 tk:=S.tk
 rt:=S.rt
 inj:=λk k' pb pb' dd dd' b q1 q2 v1 v2=>by
  have get:∀{k:Nat} {pb:Bool} {dd:List D},((σ.set j .dead).set i (.own pa ds))[k]? = some (.own pb dd)->(σV.set i (some (.ref a)))[k]? = some (some (.ref b))->(k=i/\b=a)\/(k≠i/\k≠j/\σ[k]? = some (.own pb dd)/\σV[k]? = some (some (.ref b))):=λ{k pb dd} q v=>by
   rcases set_some q with⟨rfl,z,hl⟩|⟨n1,q⟩
   . rw[Ap] at hl
     rw[Am (by rw[<-S.len];exact hl)] at v
     cases v
     exact .inl ⟨rfl,rfl⟩
   rcases set_some q with⟨_,z,_⟩|⟨n2,q⟩
   . cases z
   rw[Ac n1] at v
   exact .inr ⟨Ne.symm n1,Ne.symm n2,q,v⟩
  rcases get q1 v1 with⟨e1,b1⟩|⟨n1,m1,o1,w1⟩
  . rcases get q2 v2 with⟨e2,_⟩|⟨n2,m2,o2,w2⟩
    . rw[e1,e2]
    . subst b1
      exact absurd (S.inj k' j _ _ _ _ b o2 e w2 ha) m2
  . rcases get q2 v2 with⟨e2,b2⟩|⟨n2,m2,o2,w2⟩
    . subst b2
      exact absurd (S.inj k j _ _ _ _ b o1 e w1 ha) m1
    . exact S.inj k k' _ _ _ _ b o1 o2 w1 w2
 len:=by rw[Ap,Ap,Ap];exact S.len
 lx:=S.lx.imp id (λk dd q=>by
  rcases set_some q with⟨_,z,_⟩|⟨n1,q⟩
  . cases z
  rcases set_some q with⟨_,z,_⟩|⟨n2,q⟩
  . cases z
  exact⟨q,Ac n1⟩) (λ_ _ _ _ _ _ e=>e) (λ_ _ e z _=>⟨e,z⟩) (λ_ _ r=>r) (λk dd q=>by
  rcases set_some q with⟨_,z,_⟩|⟨n1,q⟩
  . cases z
  rcases set_some q with⟨_,z,_⟩|⟨n2,q⟩
  . cases z
  exact⟨q,Ac n1⟩) (λ_ _ _ _ _ _ e=>e) (λp xs' e' z=>⟨e',z.1,z.2.1,λk pb dd q v=>by
  rcases set_some q with⟨rfl,w,hl⟩|⟨n1,q⟩
  . rw[Am (by rw[<-S.len];simpa using hl)] at v
    cases v
    exact z.2.2 j _ _ e ha
  . rw[Ac n1] at v
    rcases set_some q with⟨_,w,_⟩|⟨n2,q⟩
    . cases w
    . exact z.2.2 k pb dd q v⟩) λ_ _ r=>r
 dx:=S.dx.imp id (λk dd q=>by
  rcases set_some q with⟨_,z,_⟩|⟨n1,q⟩
  . cases z
  rcases set_some q with⟨_,z,_⟩|⟨n2,q⟩
  . cases z
  exact⟨q,Ac n1⟩) (λ_ _ _ _ _ _ e=>e) (λ_ _ e _ z _=>⟨e,z⟩) (λ_ _ r=>r) λ_ _ r=>r
theorem aKz{i j:Nat}{x y:Str}{p p2:Pos}(M:Mc X P Γ n)(hx:aR Γ i x=true)(hy:aP Γ j y=true):PS X (.Assign [.Name x p] (.Name y p2) pos) (wS X RT Y old σ (ex P (call P n) σ (.mov i j))):=by
 unfold aR at hx
 obtain⟨h1,h2,h3⟩:=cK hx
 refine aV (gG (i:=i) M.nd (by rw[M.N];exact eq_of_beq h1) (M.loc h2) (dJ M hy) rfl (M.st x h2)) λD σV H t ⟨S,h⟩=>?_
 have h:OE X.K RT Y old H (match σ[j]? with
  | some (.own pa ds)=>if i=j then .bad else .next ((σ.set j .dead).set i (.own pa ds))
  | some (.sh pa d)=>.next (σ.set i (.sh (pa&&!noL d) d))
  | _=>.bad) D:=h
 cases e:σ[j]? with
 | none=>rw[e] at h;exact h.elim
 | some sl=>
  rw[e] at h
  cases sl with
  | dead=>exact h.elim
  | lent _=>exact h.elim
  | own2 _=>exact h.elim
  | dct _=>exact h.elim
  | own pa ds=>
   by_cases hij:i=j
   . have h:OE X.K RT Y old H (if i=j then .bad else .next ((σ.set j .dead).set i (.own pa ds))) D:=h
     rw[if_pos hij] at h;exact h.elim
   . have h:OE X.K RT Y old H (if i=j then .bad else .next ((σ.set j .dead).set i (.own pa ds))) D:=h
     rw[if_neg hij] at h
     obtain⟨a,xs,g1,g2⟩:=S.own j pa ds e
     exact⟨.ref a,g1,λ_=>(show cH X.K RT Y old H _ D.nx from h) RT _ H (Kp.refl RT H) aS (S.move e hij g1)⟩
  | sh pa d=>
   obtain⟨v,g1,g2⟩:=S.sh j pa d e
   refine⟨v,g1,λ_=>(show cH X.K RT Y old H (σ.set i (.sh (pa&&!noL d) d)) D.nx from h) RT _ H (Kp.refl RT H) aS (S.setSh ?_)⟩
   cases hn:noL d with
   | true=>exact Rep.free d v hn g2
   | false=>rw[Ek,D1];exact g2
theorem qM{t:T}{b:Ss}{xs:List Vl×List Nat}{σV:L2.St}{H H1:Hp}{J:L2.It}{D:Ends}(S1:Sx X.K RT Y old σ σV H1)(k1:Kp RT H H1)(ok:pN X.K RT Y old σ σV H1 J xs.1 xs.2)
 (hx:OE X.K RT Y old H (cN (λσ x=>O.from σ (bC σ x t) λσ'=>exs P (call P n) σ' b) xs.1 (freeze σ xs.2)) D) :
 ∃W:Nat->Nat->L2.St->Hp->Prop,(∃m,W 0 m σV H1)/\∀i m σ H,W i m σ H ->
  (J.stop i H/\D.nx σ H)\/(J.go i H/\∃N:L2.St->Hp->Prop,(∀σ' H',N σ' H'->∃m',m'<m/\W (i+1) m' σ' H')/\∀x H',J.yld i H x H'->gT X.K t x σ H' λσ2 H2=>∃RT σ,wS X RT Y old σ (exs P (call P n) σ b) { D with nx:=N,ct:=N,bk:=D.nx } σ2 H2):=by
 let f:Sg->Vl->O:=λσ x=>O.from σ (bC σ x t) λσ'=>exs P (call P n) σ' b
 have hx:OE X.K RT Y old H (cN f xs.1 (freeze σ xs.2)) D:=hx
 have Sf:=S1.frz xs.2
 refine⟨λi m σ1V Hc=>m=xs.1.length-i/\i<=xs.1.length/\∃RT1 σ1,Kp (rtF RT σ σV xs.2) H1 Hc/\(∀b,RT1 b->rtF RT σ σV xs.2 b\/H1 b=none)/\Sx X.K RT1 Y old σ1 σ1V Hc/\OE X.K RT1 Y old Hc (cN f (xs.1.drop i) σ1) D,
  ⟨_,rfl,Bj _,rtF RT σ σV xs.2,freeze σ xs.2,Kp.refl _ _,aS,Sf,OE.mono k1 (λb z=>.inl z.1) hx⟩,?_⟩
 rintro i m σ1V Hc ⟨hm,hi,RT1,σ1,kp,hsub,Sc,ho⟩
 have okc:=ok.ok (rtF RT σ σV xs.2) (λ_ z=>z) i Hc kp
 by_cases hlt:i<xs.1.length
 . refine .inr ⟨okc.1 hlt,λσ' H'=>xs.1.length-(i+1)=xs.1.length-(i+1)/\i+1<=xs.1.length/\∃RT1 σ1,Kp (rtF RT σ σV xs.2) H1 H'/\(∀b,RT1 b->rtF RT σ σV xs.2 b\/H1 b=none)/\Sx X.K RT1 Y old σ1 σ' H'/\OE X.K RT1 Y old H' (cN f (xs.1.drop (i+1)) σ1) D,
    λσ' H' hN=>⟨_,by omega,hN⟩,λx H' hy=>?_⟩
   have hxi:xs.1[i]? = some xs.1[i]:=An hlt
   obtain⟨sm,tkf,rv⟩:=okc.2.2 x H' hy xs.1[i] hxi
   have hmem:xs.1[i]∈xs.1:=Bl hlt
   rw[Dt hlt] at ho
   have Sc':=Sc.grow sm (tkf Sc.tk)
   have rep:Rep X.K H' (λa=>RT1 a\/exB Y old xs.1[i].pa a) xs.1[i].d x:=rv.weak λa z=>by
    rcases z with z|z
    . rcases hsub a z with q|q
      . exact .inl (.inl ⟨q.1,λw=>q.2 (w.mono (ok.sub _ hmem))⟩)
      . exact .inr ⟨q,Sc.tk a (Sc.trk a (.inl z))⟩
    . exact .inl (.inr z)
   have ho:OE X.K RT1 Y old Hc (match f σ1 xs.1[i] with
    | .next σ'=>cN f (xs.1.drop (i+1)) σ'
    | .cnt σ'=>cN f (xs.1.drop (i+1)) σ'
    | .brk σ'=>.next σ'
    | o=>o) D:=ho
   cases hset:bC σ1 xs.1[i] t with
   | exc e=>rw[show f σ1 xs.1[i]=.exc e σ1 by show O.from σ1 (bC σ1 xs.1[i] t) _=_;rw[hset];rfl] at ho;exact ho.elim
   | bad=>rw[show f σ1 xs.1[i]=.bad by show O.from σ1 (bC σ1 xs.1[i] t) _=_;rw[hset];rfl] at ho;exact ho.elim
   | ok σ2=>
    rw[show f σ1 xs.1[i]=exs P (call P n) σ2 b by show O.from σ1 (bC σ1 xs.1[i] t) _=_;rw[hset];rfl] at ho
    refine yY Sc' (ok.nofr _ hmem) rep hset λσ2V S2 _=>⟨RT1,σ2,S2,?_⟩
    have kS:Kp RT1 Hc H':=Kp.same sm
    have again:∀{σ':Sg} {RT':Addr->Prop} {σV':L2.St} {H'':Hp},Kp RT1 H' H''->(∀b,RT' b->RT1 b\/H' b=none)->Sx X.K RT' Y old σ' σV' H''->OE X.K RT1 Y old Hc (cN f (xs.1.drop (i+1)) σ') D ->
     (xs.1.length-(i+1)=xs.1.length-(i+1)/\i+1<=xs.1.length/\∃RT1 σ1,Kp (rtF RT σ σV xs.2) H1 H''/\(∀b,RT1 b->rtF RT σ σV xs.2 b\/H1 b=none)/\Sx X.K RT1 Y old σ1 σV' H''/\OE X.K RT1 Y old H'' (cN f (xs.1.drop (i+1)) σ1) D):=λ{σ' RT' σV' H''} k2 s2 S3 h3=>by
     have k3:Kp RT1 Hc H'':=kS.chain aS k2
     have s3:∀b,RT' b->RT1 b\/Hc b=none:=iE kS aS s2
     exact⟨rfl,hlt,RT',σ',kp.chain hsub k3,iE kp hsub s3,S3,OE.mono k3 s3 h3⟩
    cases q:exs P (call P n) σ2 b with
    | next σ'=>rw[q] at ho;exact λRT' σV' H'' k2 s2 S3=>again k2 s2 S3 ho
    | cnt σ'=>rw[q] at ho;exact λRT' σV' H'' k2 s2 S3=>again k2 s2 S3 ho
    | brk σ'=>rw[q] at ho;exact cH.mono kS aS (show cH X.K RT1 Y old Hc σ' D.nx from ho)
    | ret v=>rw[q] at ho;exact OE.mono (o:=.ret v) kS aS ho
    | exc e σ'=>rw[q] at ho;exact ho.elim
    | bad=>rw[q] at ho;exact ho.elim
 . have hie:i=xs.1.length:=by omega
   subst hie
   rw[List.drop_length] at ho
   exact .inl ⟨okc.2.1 (Ag _),(show cH X.K RT1 Y old Hc σ1 D.nx from ho) RT1 σ1V Hc (Kp.refl _ _) aS Sc⟩
theorem aKA{t:T}{it:Hp.It}{b:Ss}{tg iter:Expr}{body:List Stmt}(M:Mc X P Γ n)(hx:iW Γ t tg=true)(hi:PI X tg iter (wI X P n RT Y old σ it))(hb:∀RT σ,PSs X body (wS X RT Y old σ (exs P (call P n) σ b)))(hs:∀x,foldedSetIterable iter X.env x=pure x) :
 PS X (.For tg iter body [] pos) (wS X RT Y old σ (ex P (call P n) σ (.for t it b))):=by
 have hp:PassesOwn (model X.prog X.w) X.A X.env X.xe:=by rw[M.xe];exact PassesOwn.never
 refine aV (aBs hp M.calm hi (aAO M hx) (jZ hb) hs) λD0 σV H t0 ⟨S,h⟩=>?_
 have h:=OE.tkE h
 revert h
 generalize tkE X.K D0=D
 intro h
 let f:Sg->Vl->O:=λσ x=>O.from σ (bC σ x t) λσ'=>exs P (call P n) σ' b
 have h:=OE.from (show OE X.K RT Y old H (O.from σ (walk P (call P n) σ it) λxs=>cN f xs.1 (freeze σ xs.2)) D from h)
 exact⟨S,h.mono λxs hx J H1 t1 s1 ok=>qM (S.grow s1 t1) (Kp.same s1) ok hx⟩
end
section
variable {X:Cx} {P:Pg} {Γ:Ct} {n:Nat} {RT Y old:Addr->Prop} {σ:Sg} {pos:Pos} {l:Nat} {σV:L2.St} {H H1 H2 H':Hp} {K:Fg}
def KpL(RT:Addr->Prop)(σV:L2.St)(l:Nat)(H H':Hp):Prop:=Kp (λb=>σV[l]? = some (some (.ref b))/\RT b) H H'
theorem KpL.kp(h:KpL RT σV l H H'):Kp RT H H':=λa o e nn=>h a o e λz=>nn z.2
theorem KpL.trans(a:KpL RT σV l H H1)(b:KpL RT σV l H1 H2):KpL RT σV l H H2:=Kp.trans a b
theorem KpL.same(s:aF H H'):KpL RT σV l H H':=Kp.same s
theorem Sx.free(S:Sx K RT Y old σ σV H1)(k:Kp RT H H1){a:Addr}(h:H1 a=none):H a=none:=by
 cases e:H a with
 | none=>rfl
 | some o=>
  by_cases hr:RT a
  . exact absurd h (S.trk a (.inl hr))
  . rw[k a o e hr] at h;cases h
def RvL(K:Fg)(RT Y old:Addr->Prop)(H:Hp)(v:Vl)(u:V):Prop:=Rep K H (λb=>RT b\/exB Y old v.pa b) v.d u
theorem RvL.go{v:Vl}{u:V}(h:RvL K RT Y old H v u)(S:Sx K RT Y old σ σV H)(k:Kp RT H H'):RvL K RT Y old H' v u:=Rep.kp h k S.rt λb z=>.inl z
theorem RvL.nr{v:Vl}{u:V}(h:RvL K RT Y old H v u):Rv K RT Y old σ σV H v.nr u:=Rep.weak h λb z=>z.imp (·.1) id
def eH(K:Fg)(RT Y old:Addr->Prop)(H:Hp):List Vl->List V->Prop
 | [],us=>us=[]
 | v::vs,us=>∃u r,us=u::r/\RvL K RT Y old H v u/\eH K RT Y old H vs r
theorem eH.length:∀{vs:List Vl} {us:List V},eH K RT Y old H vs us->vs.length=us.length
 | [],_,h=>by rw[show _=[] from h];rfl
 | v::vs,_,h=>by
  obtain⟨u,r,e,_,h2⟩:=h
  subst e
  rw[lC,lC,eH.length h2]
theorem exB.mono{pa pb:Bool}{b:Addr}(h:exB Y old pb b)(hp:pa=true->pb=true):exB Y old pa b:=h.imp_right λz=>⟨by
 cases pa with
 | false=>rfl
 | true=>rw[hp rfl] at z;exact z.1,z.2⟩
theorem eH.reps:∀{vs:List Vl} {us:List V} {pa:Bool},eH K RT Y old H vs us->(∀v∈vs,v.pa=true->pa=true)->Reps K H (λb=>RT b\/exB Y old pa b) (vs.map (·.d)) us
 | [],_,_,h,_=>h
 | v::vs,_,_,h,q=>by
  obtain⟨u,r,e,h1,h2⟩:=h
  exact⟨u,r,e,Rep.weak h1 λb z=>z.imp id λz=>z.mono (q v Ak),eH.reps h2 λw hw=>q w (Ae _ hw)⟩
structure RoL (K:Fg) (RT Y old:Addr->Prop) (σ':Sg) (σV:L2.St) (l:Nat) (H H':Hp) (v:Vl) (u:V):Prop where
 sx:Sx K RT Y old σ' σV H'
 kp:KpL RT σV l H H'
 fr:v.fr=true->∃a xs ds,u=.ref a/\v.d=.lst ds/\H a=none/\H' a=some (.lst xs)/\Sx K (λb=>RT b\/b=a) Y old σ' σV H'/\Reps K H' (λb=>(RT b\/b=a)\/exB Y old v.pa b) ds xs
 rv:RvL K RT Y old H' v u
theorem RoL.from{v:Vl}{u:V}{σ':Sg}(h:RoL K RT Y old σ' σV l H1 H' v u)(S:Sx K RT Y old σ σV H1)(k:KpL RT σV l H H1):RoL K RT Y old σ' σV l H H' v u:=
 ⟨h.sx,k.trans h.kp,λhf=>let ⟨a,xs,ds,e1,e2,e3,q⟩:=h.fr hf;⟨a,xs,ds,e1,e2,S.free k.kp e3,q⟩,h.rv⟩
theorem Sx.addR(S:Sx K RT Y old σ σV H)(s:aF H H')(t:Tk K H'){a:Addr}{xs:List V}(hn:H a=none)(ha:H' a=some (.lst xs)):Sx K (λb=>RT b\/b=a) Y old σ σV H':=by
 have hk:=t a (by rw[ha];simp)
 have w:∀{pa:Bool} b,(RT b\/b=a)\/exB Y old pa b->b=a\/RT b\/exB Y old pa b:=λ{pa} b z=>by
  rcases z with(z|z)|z
  . exact .inr (.inl z)
  . exact .inl z
  . exact .inr (.inr z)
 exact {
  sh:=λj pa d e=>let ⟨v,h1,h2⟩:=S.sh j pa d e;⟨v,h1,((h2.out hn hk).grow s).weak w⟩
  own:=λj pa ds e=>let ⟨b,ys,h1,h2,h3,h4,h5⟩:=S.own j pa ds e;⟨b,ys,h1,s _ _ h2,.inl h3,h4,((h5.out hn hk).grow s).weak w⟩
  trk:=λb z q=>by
   rcases z with(z|z)|z
   . exact S.trk b (.inl z) (s.free q)
   . rw[z,ha] at q;cases q
   . exact S.trk b (.inr z) (s.free q)
  yo:=S.yo
  tk:=t
  rt:=λb z=>by
   rcases z with z|z
   . exact(S.rt b z).grow s
   . rw[z];exact .lst ha
  inj:=S.inj
  len:=S.len
  lx:=S.lx.imp id (λ_ _ e=>⟨e,rfl⟩) (λ_ _ _ _ _ _ e=>e) (λ_ _ e z _=>⟨s _ _ e,.inl z⟩) (λ_ _ r=>((r.out hn hk).grow s).weak w) (λ_ _ e=>⟨e,rfl⟩) (λ_ _ _ _ _ _ e=>e) (λp xs e z=>⟨s _ _ e,.inl z.1,z.2⟩) λ_ _ r=>aF.seqT s r
  dx:=S.dx.imp id (λ_ _ e=>⟨e,rfl⟩) (λ_ _ _ _ _ _ e=>e) (λ_ _ e _ z _=>⟨s _ _ e,.inl z⟩) (λ_ _ r=>((r.out hn hk).grow s).weak w) (λ_ _ r=>aF.seqT s r) }
theorem Sx.putOwn{a:Addr}(S0:Sx K RT Y old σ σV H)(S:Sx K (λb=>RT b\/b=a) Y old σ σV H){i:Nat}{pa:Bool}{ds:List D}{xs:List V}(hn:¬ RT a)(ho:¬ old a)(ha:H a=some (.lst xs))(r:Reps K H (λb=>(RT b\/b=a)\/exB Y old pa b) ds xs) :
 Sx K (λb=>RT b\/b=a) Y old (σ.set i (.own pa ds)) (σV.set i (some (.ref a))) H where
 sh:=λj pa' d' e=>by
  rcases set_some e with⟨rfl,e,hl⟩|⟨hij,e⟩
  . cases e
  . obtain⟨v,h1,h2⟩:=S.sh j pa' d' e
    exact⟨v,by rw[Ac hij];exact h1,h2⟩
 own:=λj pa' ds' e=>by
  rcases set_some e with⟨rfl,e,hl⟩|⟨hij,e⟩
  . cases e
    exact⟨a,xs,Am (by rw[<-S.len];exact hl),ha,.inr rfl,ho,r⟩
  . obtain⟨b,ys,h1,h2⟩:=S.own j pa' ds' e
    exact⟨b,ys,by rw[Ac hij];exact h1,h2⟩
 trk:=S.trk
 yo:=S.yo
 tk:=S.tk
 rt:=S.rt
 inj:=λj j' pa' pa'' ds1 ds2 c e1 e2 e3 e4=>by
  have fr:∀{j:Nat} {pa:Bool} {ds:List D},σ[j]? = some (.own pa ds)->σV[j]? = some (some (.ref a))->False:=λ{j pa ds} e q=>by
   obtain⟨a',xs',h1,h2,h3,_⟩:=S0.own j pa ds e
   rw[q] at h1
   cases h1
   exact hn h3
  rcases set_some e1 with⟨rfl,e,hl⟩|⟨n1,e1⟩
  . rcases set_some e2 with⟨rfl,_,_⟩|⟨n2,e2⟩
    . rfl
    . rw[Am (by rw[<-S.len];exact hl)] at e3
      cases e3
      rw[Ac n2] at e4
      exact(fr e2 e4).elim
  . rw[Ac n1] at e3
    rcases set_some e2 with⟨rfl,e,hl⟩|⟨n2,e2⟩
    . rw[Am (by rw[<-S.len];exact hl)] at e4
      cases e4
      exact(fr e1 e3).elim
    . rw[Ac n2] at e4
      exact S.inj j j' pa' pa'' ds1 ds2 c e1 e2 e3 e4
 len:=by rw[Ap,Ap];exact S.len
 lx:={
  at':=λj ds e=>by
   rcases set_some e with⟨_,z,_⟩|⟨hij,e⟩
   . cases z
   . rw[Ac hij];exact S.lx.at' j ds e
  inj:=λj j' ds ds' b e1 e2=>by
   rcases set_some e1 with⟨_,z,_⟩|⟨h1,e1⟩
   . cases z
   rcases set_some e2 with⟨_,z,_⟩|⟨h2,e2⟩
   . cases z
   rw[Ac h1,Ac h2]
   exact S.lx.inj j j' ds ds' b e1 e2
  at2:=λj dss e=>by
   rcases set_some e with⟨_,z,_⟩|⟨hij,e⟩
   . cases z
   . obtain⟨b,bs,h1,h2,h3,h4⟩:=S0.lx.at2 j dss e
     refine⟨b,bs,by rw[Ac hij];exact h1,h2,λp hp=>⟨.inl (h3 p hp).1,(h3 p hp).2.1,λk pa' ds' q v=>?_⟩,h4⟩
     rcases set_some q with⟨rfl,_,hl⟩|⟨hik,q⟩
     . rw[Am (by rw[<-S.len];exact hl)] at v
       cases v
       exact hn (h3 _ hp).1
     . rw[Ac hik] at v
       exact(h3 p hp).2.2 k pa' ds' q v
  one:=λj j' dss dss' e1 e2=>by
   rcases set_some e1 with⟨_,z,_⟩|⟨h1,e1⟩
   . cases z
   rcases set_some e2 with⟨_,z,_⟩|⟨h2,e2⟩
   . cases z
   exact S.lx.one j j' dss dss' e1 e2 }
 dx:=S.dx.imp id (λj ds e=>by
  rcases set_some e with⟨_,z,_⟩|⟨hij,e⟩
  . cases z
  . exact⟨e,Ac hij⟩) (λ_ _ _ _ _ _ e=>e) (λ_ _ e _ z _=>⟨e,z⟩) (λ_ _ r=>r) λ_ _ r=>r
theorem isEmpty_nil{al:List Nat}(h:al.isEmpty=true):al=[]:=by
 cases al with
 | nil=>rfl
 | cons _ _=>cases h
theorem sH{x:Vl}{u:V}(S:Sx K RT Y old σ σV H)(t:Tk K H1)(hal:x.al=[])(r:Ro K RT Y old σ σV H H1 x u):RoL K RT Y old σ σV l H H1 x u where
 sx:=S.grow r.1 t
 kp:=KpL.same r.1
 fr:=λhf=>by
  have q:=r.2
  rw[if_pos hf] at q
  obtain⟨a,xs,ds,e1,e2,e3,e4,rr⟩:=q
  refine⟨a,xs,ds,e1,e2,e3,e4,S.addR r.1 t e3 e4,rr.weak λb z=>?_⟩
  rcases z with(z|z)|z
  . refine .inr (.inl ⟨z,λ⟨j,hj,_⟩=>?_⟩)
    rw[hal] at hj
    cases hj
  . exact .inl z
  . exact .inr (.inr z)
 rv:=Rep.weak (r.rv S) λb z=>by
  rcases z with z|z
  . refine .inl ⟨z,λ⟨j,hj,_⟩=>?_⟩
    rw[hal] at hj
    cases hj
  . exact .inr z
theorem RE.noAl{v:Vl}{σ:Sg}{p:Vl×Sg->Prop}(h:RE (noAl v σ) p):v.al=[]/\p (v,σ):=by
 unfold Hp.noAl at h
 split at h
 . rename_i q;exact⟨isEmpty_nil q,h⟩
 . exact h.elim
def WL(X:Cx)(P:Pg)(n:Nat)(RT Y old:Addr->Prop)(l:Nat)(σ:Sg)(c:EL):TE:=λσV H Q=>Sx X.K RT Y old σ σV H/\RE (evl P (call P n) l σ c) λr=>∀u H',Tk X.K H'->RoL X.K RT Y old r.2 σV l H H' r.1 u->Q u H'
def WLs(X:Cx)(P:Pg)(n:Nat)(RT Y old:Addr->Prop)(l:Nat)(σ:Sg)(cs:ELs):TA:=λσV H Q=>Sx X.K RT Y old σ σV H/\RE (evls' P (call P n) l σ cs) λr=>∀us H',Tk X.K H'->Sx X.K RT Y old r.2 σV H'->KpL RT σV l H H'->eH X.K RT Y old H' r.1 us->Q us H'
theorem jC{ι:Type}{e:Expr}{t:ι->TE}(h:∀i,PE X e (t i)):PE X e (λσV H Q=>∃i,t i σV H Q):=λpins s σV H Q I ⟨i,hw⟩=>h i pins s σV H Q I hw
theorem aHo{ι:Type}{es:List Expr}{t:ι->TA}(h:∀i,PA X es (t i)):PA X es (λσV H Q=>∃i,t i σV H Q):=λpos pins s σV H Q I ⟨i,hw⟩=>h i pos pins s σV H Q I hw
theorem l_e{a:E}{e:Expr}(ha:PE X e (WE X P n RT Y old σ a)):PE X e (WL X P n RT Y old l σ (.e a)):=ha.imp λσV H Q t ⟨S,h⟩=>by
 have h:=RE.bind' (show RE (ev P (call P n) σ a >>= λx=>noAl x σ) _ from h)
 refine wE.one S h λx u H1 hx t1 S1 r1 t'=>?_
 obtain⟨hal,hx⟩:=RE.noAl hx
 exact hx u H1 t' (sH S t1 hal r1)
theorem aMC{o:Operator}{a b:EL}{ea eb:Expr}(ha:PE X ea (WL X P n RT Y old l σ a))(hb:∀σ,PE X eb (WL X P n RT Y old l σ b)):PE X (.BinOp ea o eb pos) (WL X P n RT Y old l σ (.op o a b)):=by
 intro pins s σV H Q I hw
 obtain⟨S,h⟩:=hw
 have h:=RE.bind' (show RE (evl P (call P n) l σ a >>= λx=>evl P (call P n) l x.2 b >>= λy=>opD o x.1.nr y.1.nr >>= λz=>noAl z y.2) _ from h)
 refine wpAny_BinOp (thn (ha pins s σV H (λux H1=>∃x,RoL X.K RT Y old x.2 σV l H H1 x.1 ux/\RE (evl P (call P n) l x.2 b) λy=>RE (opD o x.1.nr y.1.nr >>= λz=>noAl z y.2) λr=>∀u H',Tk X.K H'->RoL X.K RT Y old r.2 σV l H H' r.1 u->Q u H') I
  ⟨S,h.mono λx hx u H1 t1 r1=>⟨x,r1,RE.bind' hx⟩⟩) λv s1 ⟨x',H1,I1,rx,x,r1,hx⟩=>thn (hb x.2 pins s1 σV H1 (λuy H2=>∃y,RoL X.K RT Y old y.2 σV l H1 H2 y.1 uy/\RE (opD o x.1.nr y.1.nr >>= λz=>noAl z y.2) λr=>∀u H',Tk X.K H'->RoL X.K RT Y old r.2 σV l H H' r.1 u->Q u H') I1
  ⟨r1.sx,hx.mono λy hy u H2 t2 r2=>⟨y,r2,hy⟩⟩) λu s2 ⟨y',H2,I2,ry,y,r2,hy⟩=>?_)
 refine uE I2 r2.sx rx ry (x:=x.1.nr) (y:=y.1.nr) (r1.rv.go r1.sx r2.kp.kp).nr r2.rv.nr (λz=>by cases z) ((RE.bind' hy).mono λz hz u H' t r=>?_)
 obtain⟨hal,hz⟩:=RE.noAl hz
 exact hz u H' t ((sH r2.sx t hal r).from r2.sx (r1.kp.trans r2.kp))
theorem aKB{a b:EL}{ea eb:Expr}(ha:PE X ea (WL X P n RT Y old l σ a))(hb:∀σ,PE X eb (WL X P n RT Y old l σ b))(hp:aG eb=true):PE X (.Subscript ea eb pos) (WL X P n RT Y old l σ (.idx a b)):=by
 refine(yL rF ha (jC hb) (fK hp)).imp λσV H Q t ⟨S,h⟩=>?_
 have h:=RE.bind' (show RE (evl P (call P n) l σ a >>= λx=>evl P (call P n) l x.2 b >>= λy=>bT x.1.nr y.1.nr >>= λz=>noAl z y.2) _ from h)
 refine⟨S,h.mono λx hx u H1 t1 r1=>⟨x.2,r1.sx,(RE.bind' hx).mono λy hy uy H2 t2 r2=>?_⟩⟩
 refine qC (σ:=y.2) (σV:=σV) (RT:=RT) (Y:=Y) (old:=old) t2 (x:=x.1.nr) (y:=y.1.nr) (r1.rv.go r1.sx r2.kp.kp).nr r2.rv.nr ((RE.bind' hy).mono λz hz u H' t r=>?_)
 obtain⟨hal,hz⟩:=RE.noAl hz
 exact hz u H' t ((sH r2.sx t hal r).from r2.sx (r1.kp.trans r2.kp))
theorem aKC:PA X [] (WLs X P n RT Y old l σ .nil):=cT.imp λσV H Q t ⟨S,h⟩ t'=>
 (show ∀us H',Tk X.K H'->Sx X.K RT Y old σ σV H'->KpL RT σV l H H'->eH X.K RT Y old H' [] us->Q us H' from h) [] H t' S (KpL.same (aF.refl H)) rfl
theorem aHp{c:EL}{cs:ELs}{e:Expr}{es:List Expr}(ha:PE X e (WL X P n RT Y old l σ c))(hr:∀σ,PA X es (WLs X P n RT Y old l σ cs))(hp:aG e=true):PA X (e::es) (WLs X P n RT Y old l σ (.cons c cs)):=by
 refine(bQ ha (aHo hr) (aA hp)).imp λσV H Q t ⟨S,h⟩=>?_
 have h:=RE.bind' (show RE (evl P (call P n) l σ c >>= λx=>evls' P (call P n) l x.2 cs >>= λr=>R.ok (x.1::r.1,r.2)) _ from h)
 refine⟨S,h.mono λx hx u H1 t1 r1=>⟨x.2,r1.sx,(RE.bind' hx).mono λr hr us H2 t2 S2 k2 rs t'=>?_⟩⟩
 exact(show ∀us H',Tk X.K H'->Sx X.K RT Y old r.2 σV H'->KpL RT σV l H H'->eH X.K RT Y old H' (x.1::r.1) us->Q us H' from hr) (u::us) H2 t' S2 (r1.kp.trans k2) ⟨u,us,rfl,r1.rv.go r1.sx k2.kp,rs⟩
theorem lH:∀{cs:ELs} {es:List Expr} {σ:Sg} {r:List Vl×Sg},chkELs Γ l cs es=true->evls' P (call P n) l σ cs=.ok r->r.1.length=es.length
 | .nil,[],σ,r,_,h=>by cases(show R.ok ([],σ)=R.ok r from h);rfl
 | .nil,_::_,_,_,h,_=>by cases h
 | .cons _ _,[],_,_,h,_=>by cases h
 | .cons c cs,e::es,σ,r,hc,h=>by
  simp only[chkELs,bA] at hc
  obtain⟨x,_,h⟩:=R.bind_ok (show(evl P (call P n) l σ c >>= λx=>evls' P (call P n) l x.2 cs >>= λr=>R.ok (x.1::r.1,r.2))=R.ok r from h)
  obtain⟨q,e2,h⟩:=R.bind_ok h
  cases(show R.ok (x.1::q.1,q.2)=R.ok r from h)
  rw[lC,lC,lH hc.2 e2]
theorem aKD{cs:ELs}{es:List Expr}{k:Nat}(ha:PA X es (WLs X P n RT Y old l σ cs))(hc:chkELs Γ l cs es=true)(hl:es.length<=1000):PE X (.Tuple es k pos) (WL X P n RT Y old l σ (.tup cs)):=by
 refine(aBy ha).imp λσV H Q t ⟨S,h⟩=>?_
 obtain⟨r,e,hv⟩:=(RE.bind' (show RE (evls' P (call P n) l σ cs >>= λr=>R.ok ((⟨.tup (r.1.map (·.d)),false,aQ r.1,[]⟩:Vl),r.2)) _ from h)).eq
 refine⟨S,?_⟩
 rw[e]
 intro us H1 t1 S1 k1 rs
 have hn:us.length<=sizeLine:=by rw[<-rs.length,lH hc e,Be];omega
 refine⟨hn,λp hp t'=>(show ∀u H',Tk X.K H'->RoL X.K RT Y old r.2 σV l H H' (⟨.tup (r.1.map (·.d)),false,aQ r.1,[]⟩:Vl) u->Q u H' from hv) _ _ t' ⟨S1.grow (aF.new hp) t',k1.trans (KpL.same (aF.new hp)),(λz=>by cases z),?_⟩⟩
 exact⟨p,us,rfl,SqT.of aL,(rs.reps λv hv z=>gI hv z).grow (aF.new hp)⟩
theorem zF{σ':Sg}{vs:List Vl}{us:List V}{p:Addr}(S:Sx K RT Y old σ σV H)(S1:Sx K RT Y old σ' σV H1)(k1:KpL RT σV l H H1)(rs:eH K RT Y old H1 vs us)(hp:H1 p=none)(t':Tk K (upd H1 p (.lst us))):RoL K RT Y old σ' σV l H (upd H1 p (.lst us)) ⟨.lst (vs.map (·.d)),true,aQ vs,[]⟩ (.ref p):=by
 have sn:aF H1 (upd H1 p (.lst us)):=aF.new hp
 have hk:=t' p (by rw[aL];simp)
 have rr:Reps K (upd H1 p (.lst us)) (λb=>(RT b\/b=p)\/exB Y old (aQ vs) b) (vs.map (·.d)) us:=(((rs.reps (pa:=aQ vs) λv hv z=>gI hv z).out hp hk).grow sn).weak λb z=>by
  rcases z with(z|z)|z
  . exact .inr (.inl z)
  . exact .inl z
  . exact .inr (.inr z)
 refine⟨S1.grow sn t',k1.trans (KpL.same sn),λ_=>⟨p,us,_,rfl,rfl,S1.free k1.kp hp,aL,S1.addR sn t' hp aL,rr⟩,p,us,rfl,SqL.of aL,λz=>?_,rr.weak λb z=>z.imp .inl id⟩
 refine S1.trk p (z.imp id λz=>?_) hp
 rcases z with z|⟨_,z⟩
 . exact .inl z
 . exact .inr z
theorem aKE{cs:ELs}{es:List Expr}(ha:PA X es (WLs X P n RT Y old l σ cs))(hc:chkELs Γ l cs es=true)(hl:es.length<=1000):PE X (.List es pos) (WL X P n RT Y old l σ (.lst cs)):=by
 refine(wP ha).imp λσV H Q t ⟨S,h⟩=>?_
 obtain⟨r,e,hv⟩:=(RE.bind' (show RE (evls' P (call P n) l σ cs >>= λr=>R.ok ((⟨.lst (r.1.map (·.d)),true,aQ r.1,[]⟩:Vl),r.2)) _ from h)).eq
 refine⟨S,?_⟩
 rw[e]
 intro us H1 t1 S1 k1 rs
 have hn:us.length<=sizeLine:=by rw[<-rs.length,lH hc e,Be];omega
 exact⟨hn,λp hp t'=>(show ∀u H',Tk X.K H'->RoL X.K RT Y old r.2 σV l H H' (⟨.lst (r.1.map (·.d)),true,aQ r.1,[]⟩:Vl) u->Q u H' from hv) _ _ t' (zF S S1 k1 rs hp t')⟩
theorem aKF(M:Mc X P Γ n){o:CmpOp}{a b:EL}{ea eb:Expr}(ha:PE X ea (WL X P n RT Y old l σ a))(hb:∀σ,PE X eb (WL X P n RT Y old l σ b))(hp:aG eb=true):PE X (.Compare ea [o] [eb] pos) (WL X P n RT Y old l σ (.cmp o a b)):=by
 refine(yH (dU (RT:=RT) (Y:=Y) (old:=old) M o) ha (jC hb) (eU hp)).imp λσV H Q t ⟨S,h⟩=>?_
 have h:=RE.bind' (show RE (evl P (call P n) l σ a >>= λx=>evl P (call P n) l x.2 b >>= λy=>(match bG o x.1.d y.1.d with
  | some k=>R.ok (Vl.cl (.bl k),y.2)
  | none=>.bad)) _ from h)
 refine⟨S,h.mono λx hx u H1 t1 r1=>⟨x.2,r1.sx,(RE.bind' hx).mono λy hy uy H2 t2 r2=>?_⟩⟩
 split at hy
 . rename_i k hk
   refine⟨y.2,σV,x.1.nr,y.1.nr,k,(r1.rv.go r1.sx r2.kp.kp).nr,r2.rv.nr,hk,λt'=>?_⟩
   exact(show ∀u H',Tk X.K H'->RoL X.K RT Y old y.2 σV l H H' (.cl (.bl k)) u->Q u H' from hy) _ _ t' ⟨r2.sx,r1.kp.trans r2.kp,(λz=>by cases z),rfl⟩
 . exact hy.elim
theorem aKG(M:Mc X P Γ n){a:EL}{e:Expr}{x:Str}{p:Pos}(hx:x=("int" : Str))(hg:bL Γ x=true)(ho:bD x=true)(ha:PE X e (WL X P n RT Y old l σ a))(hp:aG e=true):PE X (.Call (.Name x p) [e] [] pos) (WL X P n RT Y old l σ (.int a)):=by
 subst hx
 refine(hZ (yS M.calm M.room.gd M.units .int rfl) (M.gl hg) (M.md.blt _ (cW .int)) (yU .int rfl) (bQ ha cT (aA hp)) (dF .int) (aH ho) (aA hp) rfl).imp λσV H Q t ⟨S,h⟩=>?_
 have h:=RE.bind' (show RE (evl P (call P n) l σ a >>= λx=>biD .int [x.1.nr] >>= λz=>noAl z x.2) _ from h)
 refine⟨S,h.mono λx hx u H1 t1 r1=>?_⟩
 refine uH (b:=.int) rfl r1.sx (vs:=[x.1.nr]) (us:=[u]) ⟨u,[],rfl,r1.rv.nr,rfl⟩ ((RE.bind' hx).mono λz hz u H' t r=>?_)
 obtain⟨hal,hz⟩:=RE.noAl hz
 exact hz u H' t ((sH r1.sx t hal r).from r1.sx r1.kp)
theorem mX{pa:Bool}{cs:List D}(S:Sx K RT Y old σ σV H)(h:cE σ l=some (pa,cs)):∃(lt:Bool) (p:Addr) (xs:List V),σ[l]? = some (eQ lt pa cs)/\σV[l]? = some (some (.ref p))/\H p=some (.lst xs)/\RT p/\Reps K H (λb=>RT b\/exB Y old pa b) cs xs/\∀pa' cs',dD σ l pa' cs'=σ.set l (eQ lt pa' cs'):=by
 unfold cE at h
 cases e:σ[l]? with
 | none=>rw[e] at h;cases h
 | some sl=>
  rw[e] at h
  cases sl with
  | own pa' ds'=>
   cases h
   obtain⟨p,xs,h1,h2,h3,h4,h5⟩:=S.own l pa cs e
   exact⟨false,p,xs,rfl,h1,h2,h3,h5,λpa' cs'=>by unfold dD;rw[e];rfl⟩
  | lent ds'=>
   cases h
   obtain⟨p,xs,h1,h2,h3,h4,h5⟩:=S.lx.at' l cs e
   exact⟨true,p,xs,rfl,h1,h2,h3,h5,λpa' cs'=>by unfold dD;rw[e];rfl⟩
  | _=>cases h
theorem aHq(M:Mc X P Γ n){f:Nat}{es:ELs}{g x:Str}{p p1:Pos}{ys:List Expr}(hf:Γ.fns[f]? = some g)(hg:bL Γ g=true)(ho:bD g=true)(hx:aP Γ l x=true)(ha:PA X ys (WLs X P n RT Y old l σ es))(hp:ys.all aG=true) :
 PE X (.Call (.Name g p) (.Name x p1::ys) [] pos) (WL X P n RT Y old l σ (.call f es)):=by
 obtain⟨fa,fd,ps,h1,h2,h3,h4⟩:=M.md.fn f g hf
 refine(mU h4 M.room (M.gl hg) h1 h2 h3 .nil tX (bQ (dJ M hx) ha (aA rfl)) (aH ho) (aA rfl) (bO hp)).imp λσV H Q t ⟨S,h⟩=>?_
 obtain⟨hc,h⟩:=(show RE (R.iff ((cE σ l).isSome&&lR P f) (evls' P (call P n) l σ es >>= λr=>(match cE r.2 l with
  | some (pa,cs)=>call P n f (.err 0 cs::r.1.map (·.d)) >>= λq=>fF r.2 l pa r.1 q
  | none=>.bad))) _ from h).iff
 rw[bA] at hc
 obtain⟨r,er,h⟩:=(RE.bind' h).eq
 obtain⟨⟨pa0,cs0⟩,e0⟩:=Option.isSome_iff_exists.mp hc.1
 obtain⟨_,q,_,_,hq,_⟩:=mX S e0
 refine⟨.ref q,hq,S,?_⟩
 rw[er]
 intro us H1 t1 S1 k1 rs
 cases e1:cE r.2 l with
 | none=>rw[e1] at h;exact h.elim
 | some pc=>
  obtain⟨pa,cs⟩:=pc
  rw[e1] at h
  obtain⟨rt,ec,h⟩:=(RE.bind' (show RE (call P n f (.err 0 cs::r.1.map (·.d)) >>= λq=>fF r.2 l pa r.1 q) _ from h)).eq
  obtain⟨lt,p',xs,g1,g2,g3,g4,g5,g6⟩:=mX S1 e1
  rw[hq] at g2
  cases g2
  have big:∀b,RT b\/exB Y old (pa||aQ r.1) b->b=q\/(H1 b≠none/\b≠q/\(RT b\/exB Y old (pa||aQ r.1) b)):=λb z=>by
   by_cases hb:b=q
   . exact .inl hb
   . refine .inr ⟨S1.trk b ?_,hb,z⟩
     rcases z with z|z|⟨_,z⟩
     . exact .inl z
     . exact .inr (.inl z)
     . exact .inr (.inr z)
  have sml:∀b,b=q\/(H1 b≠none/\b≠q/\(RT b\/exB Y old (pa||aQ r.1) b))->RT b\/exB Y old (pa||aQ r.1) b:=λb z=>z.elim (λz=>.inl (by rw[z];exact g4)) λz=>z.2.2
  refine .inr ⟨hc.2,cs,r.1.map (·.d),q,xs,us,λb=>H1 b≠none/\b≠q/\(RT b\/exB Y old (pa||aQ r.1) b),by rw[Bt],λa z=>z.1,g3,g5.weak λb z=>(sml b z).imp id kA,
   (rs.reps (pa:=pa||aQ r.1) λv hv z=>by rw[gI hv z,De]).weak sml,?_⟩
  rw[ec]
  unfold fF at h
  cases eu:aBM rt.1 with
  | none=>rw[eu] at h;exact h.elim
  | some dc=>
   obtain⟨d,cs'⟩:=dc
   rw[eu] at h
   refine⟨d,cs',eu,λu H' R2 xs' t' kp hR hR2 hx' rr hv _=>?_⟩
   have h:∀u H',Tk X.K H'->RoL X.K RT Y old (dD r.2 l (pa||aQ r.1) cs') σV l H H' (⟨d,rt.2.1,rt.2.2&&(pa||aQ r.1),[]⟩:Vl) u->Q u H':=h
   rw[g6] at h
   have kL:KpL RT σV l H1 H':=λb o e z=>kp b o e λw=>z (by rw[w];exact⟨hq,g4⟩)
   have out:∀b,RT b\/exB Y old (rt.2.2&&(pa||aQ r.1)) b->R2 b\/(H1 b≠none/\b≠q/\(RT b\/exB Y old (pa||aQ r.1) b))\/(rt.2.2=false/\H1 b≠none):=λb z=>by
    cases hpa:rt.2.2 with
    | true=>
     rw[hpa,Bool.true_and] at z
     exact(big b z).elim (λw=>.inl (by rw[w];exact hR)) λw=>.inr (.inl w)
    | false=>
     rw[hpa,Bool.false_and] at z
     rcases z with z|z
     . exact(big b (.inl z)).elim (λw=>.inl (by rw[w];exact hR)) λw=>.inr (.inl w)
     . refine .inr (.inr ⟨rfl,S1.trk b (.inr ?_)⟩)
       rcases z with z|⟨_,z⟩
       . exact .inl z
       . exact .inr z
   have exo:∀{b},exB Y old (lt||(pa||aQ r.1)) b->exB Y old (pa||aQ r.1) b:=λ{b} z=>z.mono λw=>by rw[w,De]
   have S0:Sx X.K RT Y old (r.2.set l (eQ lt (pa||aQ r.1) cs')) σV H':=by
    refine S1.mutH g1 hq (λ_ z=>z) (λ_ z=>.inl z) (λb z=>?_) t' kp hx' (rr.weak λb z=>?_)
    . by_cases hb:b=q
      . exact .lst (by rw[hb];exact hx')
      . obtain⟨zs,hz,m⟩:=S1.rt b z
        exact⟨zs,kp b _ hz hb,m⟩
    . exact(big b (z.imp id exo)).imp (λw=>by rw[w];exact hR) id
   refine h u H' t' ⟨S0,k1.trans kL,λhf=>?_,?_⟩
   . have hf:rt.2.1=true:=hf
     rw[if_pos hf] at hv
     obtain⟨a,ys',es',v1,v2,v3,v4,v5,v6⟩:=hv
     refine⟨a,ys',es',v1,v2,S1.free k1.kp v3,v5,?_,v6.weak λb z=>?_⟩
     . refine S1.mutH g1 hq (λ_ z=>.inl z) (λb z=>z.imp id λz=>by rw[z];exact v3) (λb z=>?_) t' kp hx' (rr.weak λb z=>?_)
       . rcases z with z|z
         . exact S0.rt b z
         . rw[z];exact .lst v5
       . rcases z with(z|z)|z
         . exact(big b (.inl z)).imp (λw=>by rw[w];exact hR) id
         . exact .inl (by rw[z];exact v4)
         . exact(big b (.inr (exo z))).imp (λw=>by rw[w];exact hR) id
     . rcases z with(z|z)|z
       . exact out b (.inl z)
       . exact .inl (by rw[z];exact v4)
       . exact out b (.inr z)
   . by_cases hf:rt.2.1=true
     . rw[if_pos hf] at hv
       obtain⟨a,ys',es',v1,v2,v3,v4,v5,v6⟩:=hv
       show Rep X.K H' (λb=>RT b\/exB Y old (rt.2.2&&(pa||aQ r.1)) b) d u
       rw[v1,v2]
       refine⟨a,ys',rfl,SqL.of v5,λz=>?_,v6.weak out⟩
       have:H1 a≠none:=S1.trk a (z.imp id λz=>z.elim .inl λz=>.inr z.2)
       exact this v3
     . rw[if_neg hf] at hv
       exact Rep.weak hv out
theorem Sx.reV{K:Fg}{σV σV':L2.St}{H:Hp}(S:Sx K RT Y old σ σV H)(hl:σV'.length=σV.length)(h:∀(j:Nat) (s:Sl),σ[j]? = some s->s=.dead\/σV'[j]? = σV[j]?):Sx K RT Y old σ σV' H where
 sh:=λj pa d e=>by
  rcases h j _ e with z|z
  . cases z
  . rw[z];exact S.sh j pa d e
 own:=λj pa d e=>by
  rcases h j _ e with z|z
  . cases z
  . rw[z];exact S.own j pa d e
 trk:=S.trk
 yo:=S.yo
 tk:=S.tk
 rt:=S.rt
 inj:=λj1 j2 pa pa' ds ds' a e1 e2 e3 e4=>by
  rcases h j1 _ e1 with z|z1
  . cases z
  rcases h j2 _ e2 with z|z2
  . cases z
  rw[z1] at e3
  rw[z2] at e4
  exact S.inj j1 j2 pa pa' ds ds' a e1 e2 e3 e4
 len:=by rw[hl];exact S.len
 lx:=S.lx.imp id (λj ds e=>(h j _ e).elim (λz=>by cases z) λz=>⟨e,z⟩) (λ_ _ _ _ _ _ e=>e) (λ_ _ e z _=>⟨e,z⟩) (λ_ _ r=>r) (λj ds e=>(h j _ e).elim (λz=>by cases z) λz=>⟨e,z⟩) (λ_ _ _ _ _ _ e=>e) (λp xs e z=>⟨e,z.1,z.2.1,λk pa ds q=>(h k _ q).elim (λw=>by cases w) λw=>by rw[w];exact z.2.2 k pa ds q⟩) λ_ _ r=>r
 dx:=S.dx.imp id (λj ds e=>(h j _ e).elim (λz=>by cases z) λz=>⟨e,z⟩) (λ_ _ _ _ _ _ e=>e) (λ_ _ e _ z _=>⟨e,z⟩) (λ_ _ r=>r) λ_ _ r=>r
theorem sJ{f:Sg->Vl->R (Vl×Sg)}{x:Vl}{xs rs:List Vl}{σ σ':Sg}(h:fG f (x::xs) σ=.ok (rs,σ')):∃y r,f σ x=.ok y/\fG f xs y.2=.ok (r,σ')/\rs=y.1::r:=by
 obtain⟨y,e1,h⟩:=R.bind_ok (show(f σ x >>= λy=>fG f xs y.2 >>= λr=>R.ok (y.1::r.1,r.2))=R.ok (rs,σ') from h)
 obtain⟨r,e2,h⟩:=R.bind_ok h
 cases(show R.ok (y.1::r.1,r.2)=R.ok (rs,σ') from h)
 exact⟨y,r.1,e1,e2,rfl⟩
theorem eH.snoc{K:Fg}{H:Hp}{v:Vl}{u:V}(h2:RvL K RT Y old H v u):∀{vs:List Vl} {us:List V},eH K RT Y old H vs us->eH K RT Y old H (vs++[v]) (us++[u])
 | [],_,h=>by
  rw[show _=[] from h]
  exact⟨u,[],rfl,h2,rfl⟩
 | w::vs,_,h=>by
  obtain⟨x,r,e,h1,h3⟩:=h
  subst e
  exact⟨x,r++[u],rfl,h1,eH.snoc h2 h3⟩
theorem eH.go{K:Fg}{σV:L2.St}{H H':Hp}(S:Sx K RT Y old σ σV H)(k:Kp RT H H'):∀{vs:List Vl} {us:List V},eH K RT Y old H vs us->eH K RT Y old H' vs us
 | [],_,h=>h
 | v::vs,_,h=>by
  obtain⟨u,r,e,h1,h2⟩:=h
  exact⟨u,r,e,h1.go S k,eH.go S k h2⟩
theorem aEw{K:Fg}{σV:L2.St}{H:Hp}(j:Int):pN K RT Y old σ σV H (Itr 0 j.toNat) ((cD 0 j).map .cl) []:=by
 refine rW (lo:=0) (m:=j.toNat) ?_
 rw[fL]
 simp
theorem aHr(M:Mc X P Γ n){k l':Nat}{caps:List Nat}{t:T}{c elt:EL}{e tg en:Expr}{f:Str}{p p2:Pos}{scope:Scope}{N':List Str}(CS:cG X scope k caps N')(hnd:caps.Nodup)(hk:∀i∈tIx t,i<k)(hkl:k<=l')(hcl:caps[l'-k]? = some l)
 (hf:f=("range" : Str)) (hg:bL Γ f=true) (he:PE X en (WL X P n RT Y old l σ c)) (hpl:aG en=true)
 (hch:∀C s₀ H₀ ex,PG (cS X scope N' C s₀ H₀ ex) tg (gT X.K t)/\∀RT σ1,PE (cS X scope N' C s₀ H₀ ex) e (WL X P n RT Y old l' σ1 elt)) :
 PE X (.ListComp e [⟨tg,.Call (.Name f p) [en] [] p2,[],0⟩] scope pos) (WL X P n RT Y old l σ (.comp k caps t c l' elt)):=by
 subst hf
 refine(rS (g:=gT X.K t) (tt:=λ_ H Q=>Q true H) (te:=λσV H Q=>∃RT σ1,WL X P n RT Y old l' σ1 elt σV H Q) CS M.calm (kW (M.gl hg) (M.md.blt _ (by decide +kernel)) (bQ he cT (aA hpl)) (aA hpl)) (λC s₀ H₀ ex=>⟨(hch C s₀ H₀ ex).1,yT,jC λRT=>jC ((hch C s₀ H₀ ex).2 RT)⟩) (eT rfl)).imp λσV H Q t0 ⟨S,h⟩=>?_
 let F:Sg->Vl->R (Vl×Sg):=λσ x=>bC (ch0 k caps σ) x t >>= λσ1=>evl P (call P n) l' σ1 elt >>= λy=>(match cE σ l,cE y.2 l' with
  | some _,some (pa,cs)=>R.ok (y.1,dD σ l pa cs)
  | _,_=>.bad)
 have h:=RE.bind' (show RE (evl P (call P n) l σ c >>= λr=>(match r.1.d with
  | .int j=>R.iff (aI j) (fG F ((cD 0 j).map .cl) r.2 >>= λq=>R.iff (decide (q.1.length<=lim)) (.ok ((⟨.lst (q.1.map (·.d)),true,aQ q.1,[]⟩:Vl),q.2)))
  | _=>.bad)) _ from h)
 refine⟨S,h.mono λr hr u H1 t1 ro=>?_⟩
 cases hd:r.1.d with
 | int jj=>
  rw[hd] at hr
  obtain⟨hs,hr⟩:=RE.iff (show RE (R.iff (aI jj) _) _ from hr)
  obtain⟨⟨vs,σe⟩,er,hr⟩:=(RE.bind' hr).eq
  obtain⟨hlen,hr⟩:=RE.iff (show RE (R.iff (decide (vs.length<=lim)) (.ok ((⟨.lst (vs.map (·.d)),true,aQ vs,[]⟩:Vl),σe))) _ from hr)
  have hlen:=As hlen
  have hs:=eV hs
  have ok:pN X.K RT Y old r.2 σV H1 (Itr 0 jj.toNat) ((cD 0 jj).map .cl) []:=aEw jj
  refine⟨jj,by rw[(ro.rv.nr (σ:=r.2) (σV:=σV)).int hd],hs.1,hs.2,?_⟩
  have S1:=ro.sx
  revert er ok S1
  generalize (cD 0 jj).map Vl.cl=xs
  intro er ok S1
  refine⟨λj m ys σ1V Hc=>m=xs.length-j/\j<=xs.length/\KpL RT σV l H1 Hc/\∃σc,Sx X.K RT Y old σc σV Hc/\σ1V.length=(fJ k caps σV).length/\(∀j,k<=j->σ1V[j]? = (fJ k caps σV)[j]?) /\
   ∃ws rs,vs=ws++rs/\fG F (xs.drop j) σc=.ok (rs,σe)/\eH X.K RT Y old Hc ws ys,⟨_,rfl,Bj _,KpL.same (aF.refl _),r.2,S1,rfl,λ_ _=>rfl,[],vs,rfl,er,rfl⟩,?_⟩
  rintro j m ys σ1V Hc ⟨hm,hj,kp,σc,Sc,hln,hcap,ws,rs,evs',ego,rvs⟩
  have okc:=ok.ok RT (λb z=>⟨z,λ⟨_,hj,_⟩=>by cases hj⟩) j Hc kp.kp
  have hly:=rvs.length
  have hws:ws.length<=vs.length:=by rw[evs',lA];omega
  have hlim:lim=1000000:=rfl
  by_cases hlt:j<xs.length
  . refine .inr ⟨okc.1 hlt,by rw[<-hly,Be];omega,λx H' hy=>?_⟩
    have hxi:xs[j]? = some xs[j]:=An hlt
    obtain⟨sm,tkf,rv⟩:=okc.2.2 x H' hy xs[j] hxi
    have hmem:xs[j]∈xs:=Bl hlt
    have hnf:=ok.nofr _ hmem
    rw[Dt hlt] at ego
    obtain⟨y,r',ef,ego',ers⟩:=sJ ego
    obtain⟨σ1,eσ,ef⟩:=R.bind_ok ef
    obtain⟨q,eq,ef⟩:=R.bind_ok ef
    have Sg:=Sc.grow sm (tkf Sc.tk)
    have rep:Rep X.K H' (λa=>RT a\/exB Y old xs[j].pa a) xs[j].d x:=rv.weak λa z=>by
     rcases z with z|z
     . exact .inl (.inl ⟨z,λw=>by
        obtain⟨j',hj',_⟩:=w
        have:=ok.sub _ hmem j' hj'
        cases this⟩)
     . exact .inl (.inr z)
    have Sch:Sx X.K RT Y old (ch0 k caps σc) σ1V H':=(Sg.child hnd).reV hln λj' s hs=>by
     by_cases hjk:j'<k
     . exact .inl (uW hjk hs)
     . exact .inr (hcap j' (Nat.le_of_not_lt hjk))
    refine yY Sch hnf rep eσ λσ2V S2 hkeep=>?_
    show(if true=true then _ else _)
    rw[if_pos rfl]
    refine⟨RT,σ1,S2,?_⟩
    rw[eq]
    intro u H4 t4 ro
    have capk:∀j,k<=j->σ2V[j]? = (fJ k caps σV)[j]? := λj hj=>by
     rw[hkeep j λz=>absurd (hk j z) (Nat.not_lt.mpr hj),hcap j hj]
    cases e1:cE σc l with
    | none=>simp only[e1] at ef;cases ef
    | some pc=>
     obtain⟨pa0,cs0⟩:=pc
     simp only[e1] at ef
     cases e2:cE q.2 l' with
     | none=>simp only[e2] at ef;cases ef
     | some pc=>
      obtain⟨pa,cs⟩:=pc
      simp only[e2] at ef
      cases(show R.ok (q.1,dD σc l pa cs)=R.ok y from ef)
      obtain⟨lt,a,xs',g1,g2,g3,g4,g5,g6⟩:=mX ro.sx e2
      obtain⟨lt0,a0,xs0,b1,b2,b3,b4,b5,b6⟩:=mX Sg e1
      have hV:σV[l]? = some (some (.ref a)):=by
       rw[capk l' hkl] at g2
       have hl':l'=k+(l'-k):=by omega
       rw[hl'] at g2
       exact jV hcl g2
      rw[hV] at b2
      cases b2
      have kpa:Kp (λb=>b=a) H' H4:=λb o eb nb=>ro.kp b o eb λz=>nb (by
       have z1:=z.1
       rw[g2] at z1
       exact(V.ref.inj (Ai (Ai z1))).symm)
      have kL:KpL RT σV l H' H4:=λb o eb nb=>kpa b o eb λz=>nb (by rw[z];exact⟨hV,b4⟩)
      have S4:Sx X.K RT Y old (dD σc l pa cs) σV H4:=by
       rw[b6]
       refine Sg.mutH b1 hV (λ_ z=>z) (λ_ z=>.inl z) (λb z=>ro.sx.rt b z) t4 kpa g3 (g5.weak λb z=>z.imp id λz=>z.mono λw=>by rw[w,De])
      refine⟨xs.length-(j+1),by omega,rfl,hlt,kp.trans ((KpL.same sm).trans kL),dD σc l pa cs,S4,?_,capk,ws++[q.1],r',by rw[evs',ers];simp,ego',eH.snoc ro.rv (eH.go Sc ((Kp.same sm).trans kL.kp) rvs)⟩
      rw[<-S2.len,uU eσ]
      unfold ch0 fJ
      simp
  . have hje:j=xs.length:=by omega
    subst hje
    rw[List.drop_length] at ego
    cases(show R.ok ([],σc)=R.ok (rs,σe) from ego)
    rw[Bt] at evs'
    subst evs'
    refine .inl ⟨okc.2.1 (Ag _),by rw[<-hly];exact dR hlen,λq hq t'=>?_⟩
    exact(show ∀u H',Tk X.K H'->RoL X.K RT Y old σe σV l H H' (⟨.lst (vs.map (·.d)),true,aQ vs,[]⟩:Vl) u->Q u H' from hr) _ _ t' (zF S Sc (ro.kp.trans kp) rvs hq t')
 | _=>rw[hd] at hr;exact hr.elim
theorem zG{Γ:Ct}{k l l':Nat}{caps:List Nat}{t:T}{c:EL}{elt:EL}{e:Expr}(h:aX Γ l (.comp k caps t c l' elt) e=true) :
 ∃el tg f p en p2 scope pos,e=.ListComp el [⟨tg,.Call (.Name f p) [en] [] p2,[],0⟩] scope pos/\aAW Γ tg caps scope k t/\iW (oN Γ tg caps scope) t tg=true/\(f=("range" : Str)/\bL Γ f=true/\aX Γ l c en=true)/\(k<=l'/\caps[l'-k]? = some l)/\aX (oN Γ tg caps scope) l' elt el=true:=by
 unfold aX at h
 obtain⟨⟨el,gens,scope⟩,⟨pos,rfl⟩,g⟩:=aB h
 clear h
 have h:=g
 clear g
 rcases gens with _|⟨⟨tg,iter,ifs,as⟩,_|⟨_,_⟩⟩
 . cases h
 . cases ifs with
   | cons _ _=>cases h
   | nil=>
    have h:(as==0&&(cO tg).length==k&&(caps.all λi=>decide (i<Γ.N.length))&&decide caps.Nodup&&scope.kind==.function&&decide (cO tg++caps.filterMap λi=>Γ.N[i]?).Nodup &&
     ((caps.filterMap λi=>Γ.N[i]?).all λx=>scope.names.lookup x==some .free&&Γ.sc.lookup x==some .cell) &&
     (scope.names.all λp=>p.2 != .cell&&(p.2 != .local||scope.names.lookup p.1==some .local)&&(p.2 != .free||Γ.sc.lookup p.1==some .cell)) &&
     ((tIx t).all λi=>decide (i<k)) &&
     iW (oN Γ tg caps scope) t tg&&(oS (fH iter) λq=>(q.1==("range" : Str))&&bL Γ q.1&&(match q.2 with|[x]=>aX Γ l c x|_=>false))&&(decide (k<=l')&&(caps[l'-k]?==some l))&&aX (oN Γ tg caps scope) l' elt el)=true:=h
    simp only[bA,D9,Bx,A4,Cv,bne_iff_ne,ne_eq] at h
    obtain⟨⟨⟨⟨⟨⟨⟨⟨⟨⟨⟨⟨h0,h1⟩,h2⟩,h3⟩,h4⟩,h5⟩,h6⟩,h7⟩,h8⟩,h10⟩,h11⟩,h12⟩,h13⟩:=h
    subst h0
    obtain⟨⟨f,xs⟩,⟨p1,p2,e2⟩,g⟩:=aB h11
    have e2:iter=.Call (.Name f p1) xs [] p2:=e2
    subst e2
    obtain⟨g1,g2,g3⟩:=cK g
    rcases xs with _|⟨x,_|⟨_,_⟩⟩
    . cases g3
    . refine⟨el,tg,f,p1,x,p2,scope,pos,rfl,⟨h1,h2,h3,h4,h5,h6,λp hp=>?_,h8⟩,h10,⟨eq_of_beq g1,g2,g3⟩,h12,h13⟩
      obtain⟨⟨q1,q2⟩,q3⟩:=h7 p hp
      exact⟨q1,λe=>q2.resolve_left λz=>z e,λe=>q3.resolve_left λz=>z e⟩
    . cases g3
 . cases ifs <;> cases h
theorem cC{c:EL}{e:Expr}(h:aX Γ l c e=true):aG e=true:=by
 cases c with
 | e a=>exact aE (c:=a) (by exact h)
 | op o a b=>obtain⟨_,⟨_,rfl⟩,_⟩:=aB (by unfold aX at h;exact h);rfl
 | idx a b=>obtain⟨_,⟨_,rfl⟩,_⟩:=aB (by unfold aX at h;exact h);rfl
 | tup es=>obtain⟨_,⟨_,_,rfl⟩,_⟩:=aB (by unfold aX at h;exact h);rfl
 | call f es=>obtain⟨_,⟨_,_,rfl⟩,_⟩:=aB (by unfold aX at h;exact h);rfl
 | lst es=>obtain⟨_,⟨_,rfl⟩,_⟩:=aB (by unfold aX at h;exact h);rfl
 | cmp o a b=>obtain⟨_,⟨_,rfl⟩,_⟩:=aB (by unfold aX at h;exact h);rfl
 | int a=>obtain⟨_,⟨_,_,rfl⟩,_⟩:=aB (by unfold aX at h;exact h);rfl
 | comp k caps t c l' elt=>obtain⟨_,_,_,_,_,_,_,_,rfl,_⟩:=zG h;rfl
theorem kE:∀{cs:ELs} {es:List Expr},chkELs Γ l cs es=true->es.all aG=true
 | .nil,[],_=>rfl
 | .nil,_::_,h=>by cases h
 | .cons _ _,[],h=>by cases h
 | .cons c cs,e::es,h=>by
  simp only[chkELs,bA] at h
  rw[List.all_cons,cC h.1,kE h.2]
  rfl
mutual
theorem qEL{X:Cx}{Γ:Ct}{l:Nat}(M:Mc X P Γ n):(c:EL)->∀{e:Expr},aX Γ l c e=true->∀(RT:Addr->Prop) (σ:Sg),PE X e (WL X P n RT Y old l σ c)
 | .e a,e,h,RT,σ=>l_e (sE a M (by unfold aX at h;exact h) RT Y old σ)
 | .op o a b,e,h,RT,σ=>by
  unfold aX at h
  obtain⟨⟨x,o',y⟩,⟨p,rfl⟩,g⟩:=aB h
  obtain⟨h1,h2,h3⟩:=cK g
  have e:o=o':=eq_of_beq h1
  subst e
  exact aMC (qEL M a h2 RT σ) λσ=>qEL M b h3 RT σ
 | .idx a b,e,h,RT,σ=>by
  unfold aX at h
  obtain⟨⟨x,y⟩,⟨p,rfl⟩,g⟩:=aB h
  obtain⟨h1,h2⟩:=bY g
  exact aKB (qEL M a h1 RT σ) (λσ=>qEL M b h2 RT σ) (cC h2)
 | .tup es,e,h,RT,σ=>by
  unfold aX at h
  obtain⟨xs,⟨k,p,rfl⟩,g⟩:=aB h
  obtain⟨h1,h2⟩:=bY g
  exact aKD (qELs M es h2 RT σ) h2 (As h1)
 | .call f es,e,h,RT,σ=>by
  unfold aX at h
  obtain⟨⟨g,xs⟩,⟨p1,p2,rfl⟩,q⟩:=aB h
  obtain⟨h1,h2,h3,h4⟩:=xR q
  cases xs with
  | nil=>cases h4
  | cons x xs=>
   obtain⟨h4,h5⟩:=bY h4
   obtain⟨y,⟨p3,e3⟩,h4⟩:=aB h4
   subst e3
   exact aHq M (eq_of_beq h1) h2 h3 h4 (qELs M es h5 RT σ) (kE h5)
 | .lst es,e,h,RT,σ=>by
  unfold aX at h
  obtain⟨xs,⟨p,rfl⟩,g⟩:=aB h
  obtain⟨h1,h2⟩:=bY g
  exact aKE (qELs M es h2 RT σ) h2 (As h1)
 | .cmp o a b,e,h,RT,σ=>by
  unfold aX at h
  obtain⟨⟨x,os,rs⟩,⟨p,rfl⟩,g⟩:=aB h
  rcases os with _|⟨o',_|⟨_,_⟩⟩
  . cases g
  . rcases rs with _|⟨r,_|⟨_,_⟩⟩
    . cases g
    . obtain⟨h1,h2,h3⟩:=cK g
      have e:o=o':=eq_of_beq h1
      subst e
      exact aKF M (qEL M a h2 RT σ) (λσ=>qEL M b h3 RT σ) (cC h3)
    . cases g
  . cases g
 | .int a,e,h,RT,σ=>by
  unfold aX at h
  obtain⟨⟨g,xs⟩,⟨p1,p2,rfl⟩,q⟩:=aB h
  obtain⟨h1,h2,h3,h4⟩:=xR q
  rcases xs with _|⟨x,_|⟨_,_⟩⟩
  . cases h4
  . exact aKG M (eq_of_beq h1) h2 h3 (qEL M a h4 RT σ) (cC h4)
  . cases h4
 | .comp k caps t c l' elt,e,h,RT,σ=>by
  obtain⟨el,tg,f,p,en,p2,scope,pos,rfl,O,g1,⟨f1,f2,f3⟩,⟨k1,k2⟩,g3⟩:=zG h
  refine aHr M (O.scope M) O.ndc O.tk k1 k2 f1 f2 (qEL M c f3 RT σ) (cC f3) λC s₀ H₀ ex=>?_
  have M':=O.mc M C s₀ H₀ ex
  exact⟨aAO M' g1,λRT σ1=>qEL (l:=l') M' elt g3 RT σ1⟩
theorem qELs{X:Cx}{Γ:Ct}{l:Nat}(M:Mc X P Γ n):(cs:ELs)->∀{es:List Expr},chkELs Γ l cs es=true->∀(RT:Addr->Prop) (σ:Sg),PA X es (WLs X P n RT Y old l σ cs)
 | .nil,[],_,RT,σ=>aKC
 | .nil,_::_,h,_,_=>by cases h
 | .cons _ _,[],h,_,_=>by cases h
 | .cons c cs,e::es,h,RT,σ=>by
  obtain⟨h1,h2⟩:=bY (show(aX Γ l c e&&chkELs Γ l cs es)=true from h)
  exact aHp (qEL M c h1 RT σ) (λσ=>qELs M cs h2 RT σ) (cC h1)
end
end
section
variable {X:Cx} {P:Pg} {Γ:Ct} {n:Nat} {RT Y old:Addr->Prop} {σ:Sg} {pos:Pos} {l:Nat}
theorem aHs{i:Nat}{ck c:E}{x:Str}{p p2:Pos}{ix v:Expr}(M:Mc X P Γ n)(hx:aP Γ i x=true)(hk:PE X ix (WE X P n RT Y old σ ck))(he:PE X v (WE X P n RT Y old σ c))(hpl:aG ix=true):PS X (.Assign [.Subscript (.Name x p) ix p2] v pos) (wS X RT Y old σ (ex P (call P n) σ (.lset i ck c))):=by
 refine aV (rB he (wH (dJ M hx) hk tV (by intro _;cases ix <;> first|rfl|cases hpl)) (by cases v <;> rfl) (by cases v <;> rfl)) λD σV H t ⟨S,h⟩=>?_
 have h:=OE.from (show OE X.K RT Y old H (O.from σ (ev P (call P n) σ c) λv=>O.from σ (ev P (call P n) σ ck) λkv=>(match σ[i]?,kv.d with
  | some (.lent ds),.int k=>(match ixN ds.length k with|some j=>if noL v.d then .next (σ.set i (.lent (ds.set j v.d))) else .bad|none=>.bad)
  | _,_=>.bad)) D from h)
 refine wE.one S h λv u H1 hv t1 S1 r1=>?_
 obtain⟨kv,ek,hv⟩:=(OE.from hv).eq
 cases e:σ[i]? with
 | none=>rw[e] at hv;exact hv.elim
 | some sl=>
  rw[e] at hv
  cases sl with
  | lent ds=>
   cases hd:kv.d with
   | int k=>
    rw[hd] at hv
    have hv:OE X.K RT Y old H (match ixN ds.length k with|some j=>if noL v.d then .next (σ.set i (.lent (ds.set j v.d))) else .bad|none=>.bad) D:=hv
    obtain⟨b,xs,h1,h2,h3,h4,h5⟩:=S.lx.at' i ds e
    cases hj:ixN ds.length k with
    | none=>rw[hj] at hv;exact hv.elim
    | some j=>
     rw[hj] at hv
     have hv:OE X.K RT Y old H (if noL v.d then .next (σ.set i (.lent (ds.set j v.d))) else .bad) D:=hv
     split at hv
     . rename_i hn
       refine⟨.ref b,h1,S1,?_⟩
       rw[ek]
       intro uk H2 t2 r2
       have hlen:=h5.length
       refine⟨b,xs,k,j,rfl,(r2.rv S1).int hd,r2.1 _ _ (r1.1 _ _ h2),by rw[<-hlen,<-iY];exact hj,λ_=>?_⟩
       have s2:=r1.1.trans r2.1
       exact(show cH X.K RT Y old H (σ.set i (.lent (ds.set j v.d))) D.nx from hv) RT σV _ (Kp.upd s2 h3) aS ((S.grow s2 t2).mutA (lt:=true) (pa:=true) (pa':=true) e h1 ((h5.grow s2).set j (Rep.free _ _ hn ((r1.rv S).grow r2.1))))
     . exact hv.elim
   | _=>rw[hd] at hv;exact hv.elim
  | _=>exact hv.elim
theorem aEx{σ':Sg}{σV:L2.St}{H H1:Hp}{v:Vl}{u:V}(S:Sx X.K RT Y old σ σV H)(ro:RoL X.K RT Y old σ' σV l H H1 v u)(i:Nat):∃RT',Sx X.K RT' Y old (σ'.set i v.slot) (σV.set i (some u)) H1/\∀b,RT' b->RT b\/H b=none:=by
 by_cases hf:v.fr=true
 . obtain⟨a,xs,ds,e1,e2,e3,e4,S2,r⟩:=ro.fr hf
   rw[yX hf e2,e1]
   exact⟨_,ro.sx.putOwn S2 (λz=>S.trk a (.inl z) e3) (λz=>S.trk a (.inr (.inr z)) e3) e4 r,λb z=>z.imp id λz=>by rw[z];exact e3⟩
 . rw[eW (by simpa using hf)]
   exact⟨_,ro.sx.setSh ro.rv,aS⟩
theorem Kp.rtF{H H1:Hp}{σV:L2.St}{al:List Nat}(k:Kp (rtF RT σ σV al) H H1):Kp RT H H1:=λa o e nn=>k a o e λz=>nn z.1
theorem aHt{c:EL}{e:Expr}{i:Nat}{fz:List Nat}{x:Str}{p:Pos}(M:Mc X P Γ n)(hx:aR Γ i x=true)(he:∀RT σ,PE X e (WL X P n RT Y old l σ c))(hs:iX e=false):PS X (.Assign [.Name x p] e pos) (wS X RT Y old σ (ex P (call P n) σ (.setL i l fz c))):=by
 unfold aR at hx
 obtain⟨h1,h2,h3⟩:=cK hx
 refine aV (gG (i:=i) M.nd (by rw[M.N];exact eq_of_beq h1) (M.loc h2) (jC λRT=>jC (he RT)) (by cases e <;> first|rfl|cases hs) (M.st x h2)) λD σV H t ⟨S,h⟩=>?_
 have h:=OE.from (show OE X.K RT Y old H (O.from σ (evl P (call P n) l (freeze σ fz) c) λr=>.next (r.2.set i r.1.slot)) D from h)
 refine⟨rtF RT σ σV fz,freeze σ fz,S.frz fz,h.mono λr hr u H1 t1 ro=>?_⟩
 obtain⟨RT',S',hsub⟩:=aEx (S.frz fz) ro i
 exact λ_=>(show cH X.K RT Y old H (r.2.set i r.1.slot) D.nx from hr) RT' _ H1 (Kp.rtF ro.kp.kp) (λb z=>(hsub b z).imp (·.1) id) S'
theorem aHu{i:Nat}{c:EL}{e a:Expr}(M:Mc X P Γ n)(hc:jO Γ i "append" e=some [a])(ha:PE X a (WL X P n RT Y old l σ c))(hp:aG a=true):PS X (.Expr e pos) (wS X RT Y old σ (ex P (call P n) σ (.appL i l c))):=by
 obtain⟨x,p,ap,cp,rfl,hx,hl⟩:=mW hc
 refine aV (hX (yM C5 D5 D6 kY (dJ M hx) (bQ ha cT (aA hp)) rfl (by rw[aA hp];rfl) hl (aA hp) rfl)) λD σV H t ⟨S,h⟩=>?_
 have h:OE X.K RT Y old H (if (iO σ i).isSome then O.from σ (evl P (call P n) l σ c) λr=>put r.2 i r.1.nr λds=>some (ds++[r.1.d]) else .bad) D:=h
 split at h
 . rename_i ho
   obtain⟨⟨pa0,ds0⟩,ho⟩:=Option.isSome_iff_exists.mp ho
   have q0:=vJ ho
   obtain⟨r,ee,h⟩:=(OE.from h).eq
   obtain⟨b,xs,g1,g2,g3,g4,g5⟩:=S.own i pa0 ds0 q0
   refine⟨.ref b,g1,.inl ⟨rfl,xs,SqL.of g2⟩,S,?_⟩
   rw[ee]
   intro u H1 t1 ro
   obtain⟨pa,ds,ds',q1,q2,q3,q4,hpost⟩:=sD h
   cases q3
   obtain⟨b',xs',k1,k2,k3,k4,k5⟩:=ro.sx.own i pa ds q1
   rw[g1] at k1
   cases k1
   have hlen:=k5.length
   refine⟨b,xs',u,rfl,rfl,k2,?_,λ_=>?_⟩
   . rw[lA,Bq] at q4
     have:=sG
     omega
   . exact kC ro.sx (aF.refl H1) t1 q1 q2 g1 (((kB ro.sx (aF.refl H1) q1 g1 k2).weak λc z=>z.imp id kA).append (.cons (Rep.weak ro.rv λc z=>z.imp (·.1) sF) .nil)) (hpost.mono ro.kp.kp aS)
 . exact h.elim
theorem vK{v:Vl}{D:Ends}{H:Hp}(h:OE X.K RT Y old H (lT v σ) D):∃cs,σ[(0:Nat)]? = some (.lent cs)/\jX X.K RT Y old H ⟨.tup [v.d,.err 0 cs],v.fr,v.pa,[]⟩ D.rt:=by
 unfold lT at h
 split at h
 . rename_i cs e;exact⟨cs,e,h⟩
 . exact h.elim
theorem aCv{b:Addr}(h:Y b):exB Y old true b:=.inl h
theorem aHv{c:EL}{e:Expr}(he:PE X e (WL X P n RT Y old 0 σ c)):PS X (.Return (some e) pos) (wS X RT Y old σ (ex P (call P n) σ (.retL c))):=by
 refine aV (rA he) λD σV H t ⟨S,h⟩=>?_
 have h:=OE.from (show OE X.K RT Y old H (O.from σ (evl P (call P n) 0 σ c) λr=>lT r.1 r.2) D from h)
 refine⟨S,h.mono λr hr u H1 t1 ro _=>?_⟩
 obtain⟨cs,e0,hr⟩:=vK hr
 refine hr u H1 ro.kp.kp t1 (.inr ?_)
 by_cases hf:r.1.fr=true
 . obtain⟨a,ys,es,e1,e2,e3,e4,S2,rr⟩:=ro.fr hf
   obtain⟨p,xs,h1,h2,h3,h4,h5⟩:=S2.lx.at' 0 cs e0
   refine⟨r.1.d,cs,λb=>RT b\/b=a,p,xs,rfl,λb z=>z.imp id λz=>by rw[z];exact e3,h3,h4,h2,h5.weak λb z=>z.imp id aCv,?_⟩
   rw[if_pos hf]
   exact⟨a,ys,es,e1,e2,λz=>S.trk a (.inr (.inr z)) e3,.inr rfl,e4,rr⟩
 . obtain⟨p,xs,h1,h2,h3,h4,h5⟩:=ro.sx.lx.at' 0 cs e0
   refine⟨r.1.d,cs,RT,p,xs,rfl,aS,h3,h4,h2,h5.weak λb z=>z.imp id aCv,?_⟩
   rw[if_neg hf]
   exact ro.rv
theorem aEy{i:Nat}{x:Str}{p:Pos}(M:Mc X P Γ n)(hx:aP Γ i x=true):PS X (.Return (some (.Name x p)) pos) (wS X RT Y old σ (ex P (call P n) σ (.retvL i))):=by
 refine aV (rA (dJ M hx)) λD σV H t ⟨S,h⟩=>?_
 have h:OE X.K RT Y old H (match σ[i]? with|some (.own pa ds)=>lT ⟨.lst ds,true,pa,[]⟩ σ|_=>.bad) D:=h
 split at h
 . rename_i pa ds e
   obtain⟨cs,e0,hr⟩:=vK h
   obtain⟨a,ys,h1,h2,h3,h4,h5⟩:=S.own i pa ds e
   obtain⟨p,xs,g1,g2,g3,g4,g5⟩:=S.lx.at' 0 cs e0
   exact⟨.ref a,h1,λ_=>hr (.ref a) H (Kp.refl RT H) t (.inr ⟨.lst ds,cs,RT,p,xs,rfl,aS,g3,g4,g2,g5.weak λb z=>z.imp id aCv,by rw[if_pos rfl];exact⟨a,ys,ds,rfl,rfl,h4,h3,h2,h5⟩⟩)⟩
 . exact h.elim
theorem aHw(M:Mc X P Γ n){o:CmpOp}{a:EL}{b:E}{x y:Ss}{ea eb:Expr}{xa xb:List Stmt}{p:Pos}(ha:PE X ea (WL X P n RT Y old 0 σ a))(hb:∀σ,PE X eb (WE X P n RT Y old σ b))(hp:aG eb=true)(hx:∀RT σ,PSs X xa (wS X RT Y old σ (exs P (call P n) σ x)))(hy:∀RT σ,PSs X xb (wS X RT Y old σ (exs P (call P n) σ y))) :
 PS X (.If (.Compare ea [o] [eb] p) xa xb pos) (wS X RT Y old σ (ex P (call P n) σ (.iffL o a b x y))):=by
 refine aV (aFe (rC (dU (RT:=RT) (Y:=Y) (old:=old) M o) ha (jC hb) (eU hp)) (jZ hx) (jZ hy)) λD σV H t ⟨S,h⟩=>?_
 have h:=OE.from (show OE X.K RT Y old H (O.from σ (evl P (call P n) 0 σ a) λr=>O.from r.2 (ev P (call P n) r.2 b) λz=>(match bG o r.1.d z.d with
  | some k=>if k then exs P (call P n) r.2 x else exs P (call P n) r.2 y
  | none=>.bad)) D from h)
 refine⟨S,h.mono λr hr u H1 t1 ro=>⟨r.2,ro.sx,(OE.from hr).mono λz hz uz H2 t2 rz=>?_⟩⟩
 have S2:=ro.sx.grow rz.1 t2
 have k2:Kp RT H H2:=ro.kp.kp.trans (Kp.same rz.1)
 split at hz
 . rename_i k hk
   refine⟨r.2,σV,r.1.nr,z,k,(ro.rv.nr).grow rz.1,rz.rv ro.sx,hk,k,rfl,?_⟩
   cases k with
   | true=>rw[if_pos rfl] at hz ⊢;exact⟨RT,r.2,S2,(OE.mono k2 aS hz).tkE⟩
   | false=>rw[if_neg bN] at hz ⊢;exact⟨RT,r.2,S2,(OE.mono k2 aS hz).tkE⟩
 . exact hz.elim
theorem aHx{t:T}{c:EL}{b:Ss}{tg e:Expr}{body:List Stmt}{f:Str}{p p2:Pos}(M:Mc X P Γ n)(hx:iW Γ t tg=true)(hf:f=("range" : Str))(hg:bL Γ f=true)(he:PE X e (WL X P n RT Y old 0 σ c))(hpl:aG e=true)(hb:∀RT σ,PSs X body (wS X RT Y old σ (exs P (call P n) σ b))) :
 PS X (.For tg (.Call (.Name f p) [e] [] p2) body [] pos) (wS X RT Y old σ (ex P (call P n) σ (.forL t c b))):=by
 subst hf
 have hp:PassesOwn (model X.prog X.w) X.A X.env X.xe:=by rw[M.xe];exact PassesOwn.never
 refine aV (aBs hp M.calm (kW (M.gl hg) (M.md.blt _ (by decide +kernel)) (bQ he cT (aA hpl)) (aA hpl)) (aAO M hx) (jZ hb) (eT rfl)) λD0 σV H t0 ⟨S,h⟩=>?_
 have h:=OE.tkE h
 revert h
 generalize tkE X.K D0=D
 intro h
 have h:=OE.from (show OE X.K RT Y old H (O.from σ (evl P (call P n) 0 σ c) λr=>(match r.1.d with
  | .int j=>if aI j then cN (λσ x=>O.from σ (bC σ x t) λσ'=>exs P (call P n) σ' b) ((cD 0 j).map .cl) r.2 else .bad
  | _=>.bad)) D from h)
 refine⟨S,h.mono λr hr u H1 t1 ro=>?_⟩
 cases hd:r.1.d with
 | int j=>
  rw[hd] at hr
  have hr:OE X.K RT Y old H (if aI j then cN (λσ x=>O.from σ (bC σ x t) λσ'=>exs P (call P n) σ' b) ((cD 0 j).map .cl) r.2 else .bad) D:=hr
  split at hr
  . rename_i hs
    have hs:=eV hs
    refine⟨j,by rw[(ro.rv.nr (σ:=r.2) (σV:=σV)).int hd],hs.1,hs.2,qM (xs:=((cD 0 j).map .cl,[])) ro.sx ro.kp.kp (rW ?_) hr⟩
    rw[fL]
    simp
  . exact hr.elim
 | _=>rw[hd] at hr;exact hr.elim
end
section
variable {K:Fg}
theorem vL{ds:List D}{vs:List V}{H:Hp}{Y:Addr->Prop}{m:Nat}{R0:Addr->Prop}(hY:∀a,Y a->H a≠none)(t:Tk K H)(hR:∀a,R0 a->RtO H a)(r:Reps K H (λb=>R0 b\/Y b) ds vs):Sx K R0 Y (λb=>H b≠none) ((ds.map λd=>Sl.sh true d)++List.replicate m Sl.dead) (vs.map some++List.replicate m none) H:=by
 have len:=r.length
 have get:∀{i:Nat} {s:Sl},((ds.map λd=>Sl.sh true d)++List.replicate m Sl.dead)[i]? = some s->s=.dead\/∃d,s=.sh true d/\ds[i]? = some d:=λ{i s} e=>by
  by_cases hi:i<ds.length
  . rw[Bz (by simpa using hi),Ax,An hi] at e
    cases e
    exact .inr ⟨ds[i],rfl,An hi⟩
  . rw[Bk (by simpa using hi),Ci] at e
    split at e
    . cases e;exact .inl rfl
    . cases e
 exact {
  sh:=λi pa d e=>by
   rcases get e with z|⟨d',z,q⟩
   . cases z
   . cases z
     obtain⟨v,hv,rv⟩:=r.get q
     have hi:i<vs.length:=(Ay.mp hv).1
     refine⟨v,?_,rv.weak λa z=>?_⟩
     . rw[Bz (by simpa using hi),Ax,hv];rfl
     . rcases z with z|z|⟨z,_⟩
       . exact .inl z
       . exact .inr z
       . cases z
  own:=λi pa ds' e=>by
   rcases get e with z|⟨d',z,q⟩
   . cases z
   . cases z
  trk:=λa z=>by
   rcases z with z|z|z
   . exact(hR a z).ne
   . exact hY a z
   . exact z
  yo:=hY
  tk:=t
  rt:=hR
  inj:=λi j pa pa' ds1 ds2 a e=>by
   rcases get e with z|⟨d',z,q⟩
   . cases z
   . cases z
  len:=by rw[lA,lA,lM,lM,Bc,Bc,len]
  lx:={
   at':=λi ds' e=>by
    rcases get e with z|⟨d',z,q⟩
    . cases z
    . cases z
   inj:=λi j ds1 ds2 a e=>by
    rcases get e with z|⟨d',z,q⟩
    . cases z
    . cases z
   at2:=λi ds' e=>by
    rcases get e with z|⟨d',z,q⟩
    . cases z
    . cases z
   one:=λi j ds1 ds2 e=>by
    rcases get e with z|⟨d',z,q⟩
    . cases z
    . cases z }
  dx:={
   at':=λi t e=>by
    rcases get e with z|⟨d',z,q⟩
    . cases z
    . cases z
   inj:=λi j t t' a e=>by
    rcases get e with z|⟨d',z,q⟩
    . cases z
    . cases z } }
end
section
variable {K:Fg} {H H':Hp}
theorem Rws.get:∀{dss:List (List D)} {bs:List Addr},Rws K H dss bs->dss.length=bs.length/\∀(k:Nat) (ds:List D) (c:Addr),dss[k]? = some ds->bs[k]? = some c->∃xs,H c=some (.lst xs)/\noLs ds=true/\Reps K H (λ_=>False) ds xs
 | [],_,h=>by
  rw[show _=[] from h]
  exact⟨rfl,λk ds c e=>by simp at e⟩
 | ds::dss,_,h=>by
  obtain⟨b,r,xs,rfl,h1,h2,h3,h4⟩:=h
  obtain⟨g1,g2⟩:=Rws.get h4
  refine⟨by rw[lC,lC,g1],λk ds' c e1 e2=>?_⟩
  cases k with
  | zero=>cases e1;cases e2;exact⟨xs,h1,h2,h3⟩
  | succ k=>exact g2 k ds' c e1 e2
theorem Rws.of:∀{dss:List (List D)} {bs:List Addr},dss.length=bs.length->(∀(k:Nat) (ds:List D) (c:Addr),dss[k]? = some ds->bs[k]? = some c->∃xs,H c=some (.lst xs)/\noLs ds=true/\Reps K H (λ_=>False) ds xs)->Rws K H dss bs
 | [],bs,h,_=>by
  cases bs with
  | nil=>rfl
  | cons _ _=>cases h
 | ds::dss,bs,h,g=>by
  cases bs with
  | nil=>cases h
  | cons b r=>
   obtain⟨xs,h1,h2,h3⟩:=g 0 ds b rfl rfl
   exact⟨b,r,xs,rfl,h1,h2,h3,Rws.of (by simpa using h) λk ds' c e1 e2=>g (k+1) ds' c e1 e2⟩
theorem aHy{α:Type}{l:List α}{i:Nat}{x:α}(h:l[i]? = some x):l.set i x=l:=by
 apply List.ext_getElem?
 intro j
 by_cases hj:i=j
 . subst hj
   rw[Am (Ay.mp h).1,h]
 . rw[Ac hj]
end
section
variable {RT Y old:Addr->Prop} {σ:Sg}
theorem Sx.put2{K:Fg}{σV:L2.St}{H H':Hp}{N:Addr->Prop}(S:Sx K RT Y old σ σV H){i:Nat}{dss:List (List D)}{a:Addr}{bs:List Addr}
 (u:∀j dd,σ[j]? = some (.own2 dd)->j=i) (t:Tk K H') (hN:∀b,N b->H b=none/\∃xs,H' b=some (.lst xs))
 (kp:∀b o,H b=some o->¬ (Pt RT old σ σV b/\∃xs,o=.lst xs)->H' b=some o) (kr:∀b xs,Pt RT old σ σV b->H b=some (.lst xs)->∃xs,H' b=some (.lst xs))
 (hb:∀b∈a::bs,N b\/Pt RT old σ σV b) (nd:(a::bs).Nodup) (ha:H' a=some (.lst (bs.map V.ref))) (hr:Rws K H' dss bs) :
 Sx K (λb=>RT b\/N b) Y old (σ.set i (.own2 dss)) (σV.set i (some (.ref a))) H':=by
 have np:∀b o,H b=some o->(∀xs,o≠.lst xs)->¬ (Pt RT old σ σV b/\∃xs,o=.lst xs):=λb o e n z=>let ⟨xs,w⟩:=z.2;n xs w
 have kT:∀b ks,SqT K H b ks->SqT K H' b ks:=λb ks q=>by
  rcases q with(q|⟨o,q⟩)|q
  . exact .inl (.inl (kp _ _ q (np _ _ q λ_ e=>by cases e)))
  . exact .inl (.inr ⟨o,kp _ _ q (np _ _ q λ_ e=>by cases e)⟩)
  . exact .inr q
 have kL:∀b xs,¬ RT b->SqL K H b xs->¬ N b/\SqL K H' b xs:=λb xs n q=>by
  have np:∀{o:HO},¬ (Pt RT old σ σV b/\∃xs,o=.lst xs):=λz=>n z.1.1
  refine⟨λz=>?_,?_⟩
  . obtain⟨z1,ys,z2⟩:=hN b z
    rcases q with(q|⟨o,q⟩)|⟨o,its,m,q,_⟩
    . rw[z1] at q;cases q
    . rw[z1] at q;cases q
    . rw[t b (by rw[z2];simp)] at q;cases q
  . rcases q with(q|⟨o,q⟩)|q
    . exact .inl (.inl (kp _ _ q np))
    . exact .inl (.inr ⟨o,kp _ _ q np⟩)
    . exact .inr q
 have kD:∀(pa:Bool) b ks,¬ (RT b\/exB Y old pa b)->H b=some (.dK ks)->¬ ((RT b\/N b)\/exB Y old pa b)/\H' b=some (.dK ks):=λpa b ks n q=>by
  refine⟨λz=>?_,kp _ _ q (np _ _ q λ_ e=>by cases e)⟩
  rcases z with(z|z)|z
  . exact n (.inl z)
  . rw[(hN b z).1] at q;cases q
  . exact n (.inr z)
 have kX:∀(pa:Bool) b xs,¬ (RT b\/exB Y old pa b)->SqL K H b xs->¬ ((RT b\/N b)\/exB Y old pa b)/\SqL K H' b xs:=λpa b xs n q=>by
  obtain⟨k1,k2⟩:=kL b xs (λz=>n (.inl z)) q
  refine⟨λz=>?_,k2⟩
  rcases z with(z|z)|z
  . exact n (.inl z)
  . exact k1 z
  . exact n (.inr z)
 have hne:∀b,H b≠none->H' b≠none:=λb q=>by
  cases e:H b with
  | none=>exact absurd e q
  | some o=>
   by_cases hp:Pt RT old σ σV b/\∃xs,o=.lst xs
   . obtain⟨hp,xs,rfl⟩:=hp
     obtain⟨ys,e'⟩:=kr b xs hp e
     rw[e'];simp
   . rw[kp b o e hp];simp
 exact {
  sh:=λj pa d e=>by
   rcases set_some e with⟨_,z,_⟩|⟨hij,e⟩
   . cases z
   . obtain⟨v,h1,h2⟩:=S.sh j pa d e
     exact⟨v,by rw[Ac hij];exact h1,Rep.imp kT (kX pa) (kD pa) d v h2⟩
  own:=λj pa ds e=>by
   rcases set_some e with⟨_,z,_⟩|⟨hij,e⟩
   . cases z
   . obtain⟨b,xs,h1,h2,h3,h4,h5⟩:=S.own j pa ds e
     exact⟨b,xs,by rw[Ac hij];exact h1,kp _ _ h2 λz=>z.1.2.2 j pa ds e h1,.inl h3,h4,Reps.imp kT (kX pa) (kD pa) ds xs h5⟩
  trk:=λb z=>by
   rcases z with(z|z)|z
   . exact hne b (S.trk b (.inl z))
   . obtain⟨_,xs,e⟩:=hN b z
     rw[e];simp
   . exact hne b (S.trk b (.inr z))
  yo:=S.yo
  tk:=t
  rt:=λb z=>by
   rcases z with z|z
   . obtain⟨o,e,m⟩:=S.rt b z
     by_cases hp:Pt RT old σ σV b/\∃xs,o=.lst xs
     . obtain⟨hp,xs,rfl⟩:=hp
       obtain⟨ys,e'⟩:=kr b xs hp e
       exact .lst e'
     . exact⟨o,kp _ _ e hp,m⟩
   . obtain⟨_,xs,e⟩:=hN b z
     exact .lst e
  inj:=λj j' pa pa' ds ds' b e1 e2 e3 e4=>by
   rcases set_some e1 with⟨_,z,_⟩|⟨h1,e1⟩
   . cases z
   rcases set_some e2 with⟨_,z,_⟩|⟨h2,e2⟩
   . cases z
   rw[Ac h1] at e3
   rw[Ac h2] at e4
   exact S.inj j j' pa pa' ds ds' b e1 e2 e3 e4
  len:=by rw[Ap,Ap];exact S.len
  lx:={
   at':=λj ds e=>by
    rcases set_some e with⟨_,z,_⟩|⟨hij,e⟩
    . cases z
    . obtain⟨b,xs,h1,h2,h3,h4,h5⟩:=S.lx.at' j ds e
      exact⟨b,xs,by rw[Ac hij];exact h1,kp _ _ h2 λz=>z.1.2.1 h4,.inl h3,h4,Reps.imp kT (kX true) (kD true) ds xs h5⟩
   inj:=λj j' ds ds' b e1 e2 e3 e4=>by
    rcases set_some e1 with⟨_,z,_⟩|⟨h1,e1⟩
    . cases z
    rcases set_some e2 with⟨_,z,_⟩|⟨h2,e2⟩
    . cases z
    rw[Ac h1] at e3
    rw[Ac h2] at e4
    exact S.lx.inj j j' ds ds' b e1 e2 e3 e4
   at2:=λj dd e=>by
    rcases set_some e with⟨rfl,z,hl⟩|⟨hij,e⟩
    . cases z
      refine⟨a,bs,Am (by rw[<-S.len];exact hl),ha,λb hm=>?_,nd,hr⟩
      have own:∀(p:∀(k:Nat) (pa:Bool) (ds:List D),σ[k]? = some (.own pa ds)->σV[k]?≠some (some (.ref b))) (k:Nat) (pa:Bool) (ds:List D),(σ.set i (.own2 dss))[k]? = some (.own pa ds)->(σV.set i (some (.ref a)))[k]?≠some (some (.ref b)):=λp k pa ds e=>by
       rcases set_some e with⟨_,z,_⟩|⟨hik,e⟩
       . cases z
       . rw[Ac hik];exact p k pa ds e
      rcases hb b hm with z|z
      . have z1:=(hN b z).1
        refine⟨.inr z,λo=>S.trk b (.inr (.inr o)) z1,own λk pa ds e v=>?_⟩
        obtain⟨c,xs,h1,h2,_⟩:=S.own k pa ds e
        rw[v] at h1
        cases h1
        rw[z1] at h2
        cases h2
      . exact⟨.inl z.1,z.2.1,own z.2.2⟩
    . exact absurd (u j dd e).symm hij
   one:=λj j' dd dd' e1 e2=>by
    have k:∀j dd,(σ.set i (.own2 dss))[j]? = some (.own2 dd)->j=i:=λj dd e=>by
     rcases set_some e with⟨rfl,_,_⟩|⟨_,e⟩
     . rfl
     . exact u j dd e
    rw[k j dd e1,k j' dd' e2] }
  dx:=S.dx.imp id (λj dd e=>by
   rcases set_some e with⟨_,z,_⟩|⟨hij,e⟩
   . cases z
   . exact⟨e,Ac hij⟩) (λ_ _ _ _ _ _ e=>e) (λb o e n z _=>⟨kp _ _ e (np _ _ e n),.inl z⟩) (λds xs r=>Reps.imp kT (kX true) (kD true) ds xs r) kT }
end
section
variable {X:Cx} {P:Pg} {Γ:Ct} {n:Nat} {RT Y old:Addr->Prop} {σ:Sg} {pos:Pos}
theorem vM:∀(a b:List D),noLs (a++b)=(noLs a&&noLs b)
 | [],_=>rfl
 | x::a,b=>by
  show(noL x&&noLs (a++b))=(noL x&&noLs a&&noLs b)
  rw[vM a b,Bool.and_assoc]
theorem aHz{b:Ss}{body:List Stmt}{h0:ExceptHandler}{hs:List ExceptHandler}(M:Mc X P Γ n)(hb:PSs X body (wS X RT Y old σ (exs P (call P n) σ b))) :
 PS X (.Try body (h0::hs) [] [] pos) (wS X RT Y old σ (ex P (call P n) σ (.tryN b))):=by
 intro pins s σV H D I h
 refine wpAny_Try_except (C8 (hb pins s σV H D I h) (λf s1 q=>?_) λe s1 q=>?_)
 . cases f with
   | next=>exact wpAny_execs_nil q
   | _=>exact q
 . rw[M.xe] at q
   exact q.elim
end
section
variable {RT Y old:Addr->Prop} {σ:Sg} {K:Fg} {H H':Hp} {σV:L2.St}
theorem Sx.putDct(S:Sx K RT Y old σ σV H){p:Addr}{t:DT}{o:HO}(s:aF H H')(tk:Tk K H')(hn:H p=none)(ha:H' p=some o)(m:Mb o)(hd:DOb K H' (λb=>(RT b\/b=p)\/exB Y old true b) p t)(i:Nat) :
 Sx K (λb=>RT b\/b=p) Y old (σ.set i (.dct t)) (σV.set i (some (.ref p))) H':=by
 have hk:=tk p (by rw[ha];simp)
 have w:∀{pa:Bool} b,(RT b\/b=p)\/exB Y old pa b->b=p\/RT b\/exB Y old pa b:=λ{pa} b z=>by
  rcases z with(z|z)|z
  . exact .inr (.inl z)
  . exact .inl z
  . exact .inr (.inr z)
 exact {
  sh:=λj pa d e=>by
   rcases set_some e with⟨_,z,_⟩|⟨hij,e⟩
   . cases z
   . obtain⟨v,h1,h2⟩:=S.sh j pa d e
     exact⟨v,by rw[Ac hij];exact h1,((h2.out hn hk).grow s).weak w⟩
  own:=λj pa ds e=>by
   rcases set_some e with⟨_,z,_⟩|⟨hij,e⟩
   . cases z
   . obtain⟨b,ys,h1,h2,h3,h4,h5⟩:=S.own j pa ds e
     exact⟨b,ys,by rw[Ac hij];exact h1,s _ _ h2,.inl h3,h4,((h5.out hn hk).grow s).weak w⟩
  trk:=λb z q=>by
   rcases z with(z|z)|z
   . exact S.trk b (.inl z) (s.free q)
   . rw[z,ha] at q;cases q
   . exact S.trk b (.inr z) (s.free q)
  yo:=S.yo
  tk:=tk
  rt:=λb z=>by
   rcases z with z|z
   . exact(S.rt b z).grow s
   . rw[z];exact⟨o,ha,m⟩
  inj:=λj j' pa' pa'' ds ds' a e1 e2 e3 e4=>by
   rcases set_some e1 with⟨_,e,_⟩|⟨n1,e1⟩
   . cases e
   rcases set_some e2 with⟨_,e,_⟩|⟨n2,e2⟩
   . cases e
   rw[Ac n1] at e3
   rw[Ac n2] at e4
   exact S.inj j j' pa' pa'' ds ds' a e1 e2 e3 e4
  len:=by rw[Ap,Ap];exact S.len
  lx:=S.lx.imp id (λj ds e=>by
   rcases set_some e with⟨_,z,_⟩|⟨hij,e⟩
   . cases z
   . exact⟨e,Ac hij⟩) (λ_ _ _ _ _ _ e=>e) (λ_ _ e z _=>⟨s _ _ e,.inl z⟩) (λ_ _ r=>((r.out hn hk).grow s).weak w) (λj ds e=>by
   rcases set_some e with⟨_,z,_⟩|⟨hij,e⟩
   . cases z
   . exact⟨e,Ac hij⟩) (λ_ _ _ _ _ _ e=>e) (λq xs e z=>⟨s _ _ e,.inl z.1,z.2.1,λk pa' ds q v=>by
   rcases set_some q with⟨_,w,_⟩|⟨hij,q⟩
   . cases w
   . rw[Ac hij] at v;exact z.2.2 k pa' ds q v⟩) λ_ _ r=>aF.seqT s r
  dx:={
   at':=λj t' e=>by
    rcases set_some e with⟨rfl,z,hl⟩|⟨hij,e⟩
    . cases z
      exact⟨p,Am (by rw[<-S.len];exact hl),.inr rfl,λz=>S.trk p (.inr (.inr z)) hn,hd⟩
    . obtain⟨a,h1,h2,h3,h4⟩:=S.dx.at' j t' e
      exact⟨a,by rw[Ac hij];exact h1,.inl h2,h3,h4.imp (λo q _ _=>s _ _ q) (λ_ _ r=>aF.seqT s r) λ_ _ r=>((r.out hn hk).grow s).weak w⟩
   inj:=λj j' t1 t2 a e1 e2 e3 e4=>by
    have fr:∀{j:Nat} {t:DT},σ[j]? = some (.dct t)->σV[j]? = some (some (.ref p))->False:=λ{j t} e q=>by
     obtain⟨a',h1,h2,_⟩:=S.dx.at' j t e
     rw[q] at h1
     cases h1
     exact S.trk p (.inl h2) hn
    rcases set_some e1 with⟨rfl,e,hl⟩|⟨n1,e1⟩
    . rcases set_some e2 with⟨rfl,_,_⟩|⟨n2,e2⟩
      . rfl
      . rw[Am (by rw[<-S.len];exact hl)] at e3
        cases e3
        rw[Ac n2] at e4
        exact(fr e2 e4).elim
    . rw[Ac n1] at e3
      rcases set_some e2 with⟨rfl,e,hl⟩|⟨n2,e2⟩
      . rw[Am (by rw[<-S.len];exact hl)] at e4
        cases e4
        exact(fr e1 e3).elim
      . rw[Ac n2] at e4
        exact S.dx.inj j j' t1 t2 a e1 e2 e3 e4 } }
theorem Sx.mutD(S:Sx K RT Y old σ σV H){i:Nat}{t t':DT}{a:Addr}{o o':HO}(e:σ[i]? = some (.dct t))(ha:σV[i]? = some (some (.ref a)))(hax:H a=some o)(mo:Mb o)(hno:∀xs,o≠.lst xs)(mo':Mb o')(hd:DOb K (upd H a o') (λb=>RT b\/exB Y old true b) a t') :
 Sx K RT Y old (σ.set i (.dct t')) σV (upd H a o'):=by
 obtain⟨a',g1,haR,hao,_⟩:=S.dx.at' i t e
 rw[ha] at g1
 cases g1
 have kp:Kp (λb=>b=a) H (upd H a o'):=λb o q n=>by rw[upd_ne n];exact q
 have hR:∀b,b=a->RtO H b:=λb z=>⟨o,by rw[z];exact hax,mo⟩
 have hl:∀{b:Addr} {ys:List V},H b=some (.lst ys)->b≠a:=λ{b ys} q z=>by rw[z,hax] at q;cases q;exact hno _ rfl
 have kr:∀{pa:Bool} {ds:List D} {xs:List V},Reps K H (λb=>RT b\/exB Y old pa b) ds xs->Reps K (upd H a o') (λb=>RT b\/exB Y old pa b) ds xs:=λr=>r.kp kp hR λb z=>.inl (by rw[z];exact haR)
 exact {
  sh:=λj pb d q=>by
   rcases set_some q with⟨_,z,_⟩|⟨_,q⟩
   . cases z
   . obtain⟨v,g1,g2⟩:=S.sh j pb d q
     exact⟨v,g1,g2.kp kp hR λb z=>.inl (by rw[z];exact haR)⟩
  own:=λj pb dd q=>by
   rcases set_some q with⟨_,z,_⟩|⟨_,q⟩
   . cases z
   . obtain⟨b,ys,g1,g2,g3,g4,g5⟩:=S.own j pb dd q
     exact⟨b,ys,g1,kp b _ g2 (hl g2),g3,g4,kr g5⟩
  trk:=λb z q=>by
   by_cases hb:b=a
   . rw[hb,aL] at q;cases q
   . rw[upd_ne hb] at q;exact S.trk b z q
  yo:=S.yo
  tk:=λb z=>by
   by_cases hb:b=a
   . rw[hb];exact S.tk a (by rw[hax];simp)
   . rw[upd_ne hb] at z;exact S.tk b z
  rt:=λb z=>by
   by_cases hb:b=a
   . rw[hb];exact⟨o',aL,mo'⟩
   . unfold RtO;rw[upd_ne hb];exact S.rt b z
  inj:=λj j' pa' pa'' ds ds' b e1 e2 e3 e4=>by
   rcases set_some e1 with⟨_,e,_⟩|⟨n1,e1⟩
   . cases e
   rcases set_some e2 with⟨_,e,_⟩|⟨n2,e2⟩
   . cases e
   exact S.inj j j' pa' pa'' ds ds' b e1 e2 e3 e4
  len:=by rw[Ap];exact S.len
  lx:=S.lx.imp id (λj ds q=>by
   rcases set_some q with⟨_,z,_⟩|⟨_,q⟩
   . cases z
   . exact⟨q,rfl⟩) (λ_ _ _ _ _ _ e=>e) (λb xs q z _=>⟨kp b _ q (hl q),z⟩) (λ_ _ r=>kr r) (λj ds q=>by
   rcases set_some q with⟨_,z,_⟩|⟨_,q⟩
   . cases z
   . exact⟨q,rfl⟩) (λ_ _ _ _ _ _ e=>e) (λq xs eq z=>⟨kp q _ eq (hl eq),z.1,z.2.1,λk pa' ds q=>by
   rcases set_some q with⟨_,w,_⟩|⟨_,q⟩
   . cases w
   . exact z.2.2 k pa' ds q⟩) λb ks z=>kp.seqT hR z
  dx:={
   at':=λj t2 q=>by
    rcases set_some q with⟨rfl,z,_⟩|⟨hij,q⟩
    . cases z
      exact⟨a,ha,haR,hao,hd⟩
    . obtain⟨b,g1,g2,g3,g4⟩:=S.dx.at' j t2 q
      have hb:b≠a:=λz=>by
       subst z
       exact hij (S.dx.inj i j t t2 b e q ha g1)
      exact⟨b,g1,g2,g3,g4.imp (λo q _ _=>kp b o q hb) (λb ks z=>kp.seqT hR z) λ_ _ r=>kr r⟩
   inj:=λj j' t1 t2 b q1 q2=>by
    have get:∀{j:Nat} {t2:DT},(σ.set i (.dct t'))[j]? = some (.dct t2)->∃t3,σ[j]? = some (.dct t3):=λ{j t2} q=>by
     rcases set_some q with⟨rfl,_,_⟩|⟨_,q⟩
     . exact⟨t,e⟩
     . exact⟨t2,q⟩
    obtain⟨_,z1⟩:=get q1
    obtain⟨_,z2⟩:=get q2
    exact S.dx.inj j j' _ _ b z1 z2 } }
end
theorem lI{K:Fg}{H:Hp}{ex:Addr->Prop}:∀{kvs:List (D×D)} {ks:List Nat} {xs:List (Key×V)},eD kvs=some ks->RepKV K H ex kvs xs->xs=kT ks
 | [],ks,xs,e,r=>by cases e;exact r
 | (k,d)::kvs,ks,xs,e,r=>by
  obtain⟨k',x,r',rfl,h1,h2,h3⟩:=r
  unfold eD at e
  split at e
  . rename_i q;cases q
  . rename_i i r2 q
    cases q
    split at e
    . rename_i hi
      cases q:eD kvs with
      | none=>rw[q] at e;cases e
      | some js=>
       rw[q] at e
       cases e
       rw[lI q h3]
       have hx:x=.bl true:=h2
       have hk:k'=.inl i:=by
        cases k' with
        | inl j=>cases h1;rfl
        | inr _=>cases h1
       rw[hx,hk]
       show _=(Sum.inl ((i.toNat:Nat):Int),V.bl true)::kT js
       rw[C1 hi]
    . cases e
  . cases e
theorem sK{RT:Addr->Prop}{H H1:Hp}{b:Addr}{o:HO}(s:aF H H1)(h:RT b):Kp RT H (L2.upd H1 b o):=λc q e n=>by rw[L2.upd_ne λz=>n (by rw[z];exact h)];exact s _ _ e
section
variable {X:Cx} {P:Pg} {Γ:Ct} {n:Nat} {RT Y old:Addr->Prop} {σ:Sg} {pos:Pos}
theorem aHA{i:Nat}{m:Bool}{x:Str}{p p2:Pos}(M:Mc X P Γ n)(hx:aR Γ i x=true):PS X (.Assign [.Name x p] (.Dict [] [] p2) pos) (wS X RT Y old σ (ex P (call P n) σ (.dnew i m))):=by
 unfold aR at hx
 obtain⟨h1,h2,h3⟩:=cK hx
 cases m with
 | true=>
  refine aV (gG (i:=i) M.nd (by rw[M.N];exact eq_of_beq h1) (M.loc h2) aDY rfl (M.st x h2)) λD σV H t ⟨S,h⟩=>?_
  exact λq hq t'=>(show cH X.K RT Y old H (σ.set i (.dct (.m []))) D.nx from h) (λb=>RT b\/b=q) _ _ (Kp.same (aF.new hq)) (λb z=>z.imp id λz=>by rw[z];exact hq) (S.putDct (t:=.m []) (aF.new hq) t' hq aL (.inr (.inr ⟨_,rfl⟩)) ⟨[],aL,rfl⟩ i)
 | false=>
  refine aV (gG (i:=i) M.nd (by rw[M.N];exact eq_of_beq h1) (M.loc h2) aDW rfl (M.st x h2)) λD σV H t ⟨S,h⟩=>?_
  exact λq hq t'=>(show cH X.K RT Y old H (σ.set i (.dct (.s []))) D.nx from h) (λb=>RT b\/b=q) _ _ (Kp.same (aF.new hq)) (λb z=>z.imp id λz=>by rw[z];exact hq) (S.putDct (t:=.s []) (aF.new hq) t' hq aL (.inr (.inl ⟨_,rfl⟩)) aL i)
theorem aCw(M:Mc X P Γ n){f:Nat}{cs:Es}{x:Str}{p:Pos}{e:Expr}{es:List Expr}(hf:Γ.fns[f]? = some x)(hg:bL Γ x=true)(ho:bD x=true)(ha:PA X (e::es) (WA X P n RT Y old σ cs))(hp:(e::es).all aG=true) :
 PE X (.Call (.Name x p) (e::es) [] pos) (λσV H Q=>Sx X.K RT Y old σ σV H/\RE (evs P (call P n) σ cs) λvs=>RE (call P n f (vs.map (·.d))) λr=>∃kvs ks,r=(.dic kvs,false,false)/\eD kvs=some ks/\∀q H',Tk X.K H'->aF H H'->H q=none->H' q=some (.dK (kT ks))->Q (.ref q) H'):=by
 obtain⟨fa,fd,ps,h1,h2,h3,h4⟩:=M.md.fn f x hf
 have hp':aG e=true/\es.all aG=true:=by simpa using hp
 refine(mU h4 M.room (M.gl hg) h1 h2 h3 .nil tX ha (aH ho) (aA hp'.1) (bO hp'.2)).imp λσV H Q t ⟨S,h⟩=>⟨S,h.mono λvs hv us H1 t1 s1 r1=>?_⟩
 refine .inl ⟨vs.map (·.d),λb=>H1 b≠none/\exV RT Y old σ σV (aQ vs) (bR vs) b,λa z=>z.1,by rw[Bt];exact r1.all.weak λa z=>z.2,hv.mono λr ⟨kvs,ks,er,ek,hq⟩ u H' t' s' rr _=>?_⟩
 subst er
 unfold Rr at rr
 rw[if_neg bN] at rr
 obtain⟨a,ks',rfl,e1,e2,e3⟩:=rr
 rw[lI ek e3] at e1
 refine hq a H' t' (s1.trans s') (s1.free ?_) e1
 cases q:H1 a with
 | none=>rfl
 | some o=>exact absurd (.inr ⟨rfl,by rw[q];simp⟩) e2
theorem aHB(M:Mc X P Γ n){i f:Nat}{cs:Es}{x g:Str}{p pg cp:Pos}{e:Expr}{es:List Expr}(hx:aR Γ i x=true)(hf:Γ.fns[f]? = some g)(hg:bL Γ g=true)(ho:bD g=true)(ha:PA X (e::es) (WA X P n RT Y old σ cs))(hp:(e::es).all aG=true) :
 PS X (.Assign [.Name x p] (.Call (.Name g pg) (e::es) [] cp) pos) (wS X RT Y old σ (ex P (call P n) σ (.dset i f cs))):=by
 unfold aR at hx
 obtain⟨h1,h2,h3⟩:=cK hx
 refine aV (gG (i:=i) M.nd (by rw[M.N];exact eq_of_beq h1) (M.loc h2) (aCw M hf hg ho ha hp) rfl (M.st x h2)) λD σV H t ⟨S,h⟩=>?_
 have h:=OE.from (show OE X.K RT Y old H (O.from σ (evs P (call P n) σ cs) λvs=>O.from σ (call P n f (vs.map (·.d))) λr=>(match r with
  | (.dic kvs,false,false)=>(match eD kvs with
   | some ks=>.next (σ.set i (.dct (.s ks)))
   | none=>.bad)
  | _=>.bad)) D from h)
 refine⟨S,h.mono λvs hv=>(OE.from hv).mono λr hr=>?_⟩
 split at hr
 . rename_i kvs
   cases e1:eD kvs with
   | none=>rw[e1] at hr;exact hr.elim
   | some ks=>
    rw[e1] at hr
    refine⟨kvs,ks,rfl,e1,λq H' t' s' hq hd t2=>?_⟩
    exact(show cH X.K RT Y old H (σ.set i (.dct (.s ks))) D.nx from hr) (λb=>RT b\/b=q) _ _ (Kp.same s') (λb z=>z.imp id λz=>by rw[z];exact hq) (S.putDct (t:=.s ks) s' t' hq hd (.inr (.inl ⟨_,rfl⟩)) hd i)
 . exact hr.elim
theorem aHC(M:Mc X P Γ n){i:Nat}{c:E}{e a:Expr}(hc:jO Γ i "update" e=some [a])(ha:PE X a (WE X P n RT Y old σ c))(hp:aG a=true):PS X (.Expr e pos) (wS X RT Y old σ (ex P (call P n) σ (.dupd i c))):=by
 obtain⟨x,p,ap,cp,rfl,hx,hl⟩:=mW hc
 refine aV (hX (aDX (dJ M hx) (bQ ha cT (aA hp)) rfl (by rw[aA hp];rfl) hl (aA hp) rfl)) λD σV H t ⟨S,h⟩=>?_
 have h:=OE.from (show OE X.K RT Y old H (O.from σ (ev P (call P n) σ c) λv=>(match v.d with
  | .dic kvs=>(match mK σ i,eD kvs with
   | some ks,some js=>if v.al.isEmpty&&decide (ks.length+js.length<=1000) then .next (σ.set i (.dct (.s (mrg ks js)))) else .bad
   | _,_=>.bad)
  | _=>.bad)) D from h)
 obtain⟨v,ee,h⟩:=h.eq
 cases hd:v.d with
 | dic kvs=>
  rw[hd] at h
  cases e1:mK σ i with
  | none=>simp only[e1] at h;exact h.elim
  | some ks=>
   cases e2:eD kvs with
   | none=>simp only[e1,e2] at h;exact h.elim
   | some js=>
    simp only[e1,e2] at h
    split at h
    . rename_i hcnd
      obtain⟨hal,hle⟩:=bY hcnd
      have hal:v.al=[]:=List.isEmpty_iff.mp hal
      obtain⟨b,g1,g2,g3,g4⟩:=S.dx.at' i _ (rY e1)
      refine⟨.ref b,g1,b,ks,rfl,g4,S,?_⟩
      rw[ee]
      intro u H1 t1 r1
      have rv:=r1.rv S
      unfold Rv at rv
      rw[hd] at rv
      obtain⟨c',ks',rfl,k1,k2,k3⟩:=rv
      rw[lI e2 k3] at k1
      refine⟨c',js,rfl,λz=>k2 (.inl ⟨z▸g2,λ⟨j,hj,_⟩=>by rw[hal] at hj;cases hj⟩),r1.1 _ _ g4,k1,As hle,λt'=>?_⟩
      exact(show cH X.K RT Y old H (σ.set i (.dct (.s (mrg ks js)))) D.nx from h) RT σV _ (sK r1.1 g2) aS
       ((S.grow r1.1 t1).mutD (t':=.s (mrg ks js)) (rY e1) g1 (r1.1 _ _ g4) (.inr (.inl ⟨_,rfl⟩)) (λ_ z=>by cases z) (.inr (.inl ⟨_,rfl⟩)) aL)
    . exact h.elim
 | _=>rw[hd] at h;exact h.elim
theorem dB.put{K:Fg}{H:Hp}{ex:Addr->Prop}{k:List Int}{d:D}{v:V}{u:Value}(hv:aW v u)(hr:Rep K H ex d v):∀{kvs:List (List Int×D)} {xs:TKV},dB K H ex kvs xs->dB K H ex (kvs.map λkv=>if kv.1=k then (kv.1,d) else kv) (xs.map (putAt k u))
 | [],_,h=>by rw[show _=[] from h];rfl
 | kv::kvs,_,h=>by
  obtain⟨x,r,e,h1,h2,h4,h5⟩:=h
  subst e
  refine⟨putAt k u x,_,rfl,?_,?_,?_,dB.put hv hr h5⟩
  all_goals
   unfold putAt
   by_cases hk:kv.1=k
   . simp only[hk,if_true,show x.1=k from h1▸hk]
     first|exact⟨v,hv,hr⟩|(rw[<-show x.1=k from h1▸hk];exact h4)|rfl|skip
   . simp only[hk,if_false,show ¬ x.1=k from λz=>hk (h1.trans z)]
     first|exact h1|exact h2|exact h4
theorem dB.snoc{K:Fg}{H:Hp}{ex:Addr->Prop}{k:List Int}{d:D}{b:Addr}{v:V}{u:Value}(hv:aW v u)(hr:Rep K H ex d v)(hb:SqT K H b (k.map V.int)):∀{kvs:List (List Int×D)} {xs:TKV},dB K H ex kvs xs->dB K H ex (kvs++[(k,d)]) (xs++[(k,b,u)])
 | [],_,h=>by
  rw[show _=[] from h]
  exact⟨_,[],rfl,rfl,⟨v,hv,hr⟩,hb,rfl⟩
 | kv::kvs,_,h=>by
  obtain⟨y,r,e,h1,h2,h3,h4⟩:=h
  subst e
  exact⟨y,_,rfl,h1,h2,h3,dB.snoc hv hr hb h4⟩
theorem dB.mem{K:Fg}{H:Hp}{ex:Addr->Prop}(k:List Int):∀{kvs:List (List Int×D)} {xs:TKV},dB K H ex kvs xs->(k∈kvs.map (·.1)↔(atKey xs k).isSome=true)
 | [],_,h=>by rw[show _=[] from h];simp[atKey]
 | kv::kvs,_,h=>by
  obtain⟨x,r,e,h1,h2,h4,h5⟩:=h
  subst e
  have ih:=dB.mem k h5
  unfold atKey at ih ⊢
  rw[mC,Al,List.find?_cons,h1]
  by_cases hk:x.1=k
  . simp[hk]
  . simp only[Aw hk]
    rw[<-ih]
    exact⟨λz=>z.elim (λz=>absurd z.symm hk) id,.inr⟩
theorem dB.stored{K:Fg}{H:Hp}{ex:Addr->Prop}{k:List Int}{d:D}{b:Addr}{v:V}{u:Value}{kvs:List (List Int×D)}{xs:TKV}(h:dB K H ex kvs xs)(hv:aW v u)(hr:Rep K H ex d v)(hb:SqT K H b (k.map V.int)):dB K H ex (eE kvs k d) (storedH xs k b u):=by
 unfold eE storedH
 by_cases hk:k∈kvs.map (·.1)
 . rw[if_pos hk,if_pos ((h.mem k).mp hk)]
   exact h.put hv hr
 . rw[if_neg hk,if_neg λz=>hk ((h.mem k).mpr z)]
   exact h.snoc hv hr hb
theorem aHD(M:Mc X P Γ n){i:Nat}{k c:E}{x:Str}{p sp:Pos}{e ek:Expr}(hx:aP Γ i x=true)(hk:PE X ek (WE X P n RT Y old σ k))(ha:PE X e (WE X P n RT Y old σ c))(hpl:aG ek=true):PS X (.Assign [.Subscript (.Name x p) ek sp] e pos) (wS X RT Y old σ (ex P (call P n) σ (.dput i k c))):=by
 have hu:X.A.units+100<cLine:=by have:=M.units;omega
 refine aV (rB ha (wH (dJ M hx) hk (aGq hu) (by intro _;cases ek <;> first|rfl|cases hpl)) (by cases e <;> rfl) (by cases e <;> rfl)) λD σV H t ⟨S,h⟩=>?_
 have h:=OE.from (show OE X.K RT Y old H (O.from σ (ev P (call P n) σ c) λv=>O.from σ (ev P (call P n) σ k) λx=>(match mL (freeze σ v.al) i,fY x.d with
  | some kvs,some is=>if kvs.length<=1000 then .next ((freeze σ v.al).set i (.dct (.m (eE kvs is v.d)))) else .bad
  | _,_=>.bad)) D from h)
 obtain⟨v,ev',h⟩:=h.eq
 obtain⟨y,ey,h⟩:=(OE.from h).eq
 cases e1:mL (freeze σ v.al) i with
 | none=>simp only[e1] at h;exact h.elim
 | some kvs=>
  cases e2:fY y.d with
  | none=>simp only[e1,e2] at h;exact h.elim
  | some is=>
   simp only[e1,e2] at h
   split at h
   . rename_i hle
     refine⟨S,?_⟩
     rw[ev']
     intro u H1 t1 r1
     have S1:=S.grow r1.1 t1
     have F1:=S1.frz v.al
     obtain⟨a,g1,g2,g3,xs,g4,g5⟩:=F1.dx.at' i _ (rZ e1)
     refine⟨.ref a,g1,S1,?_⟩
     rw[ey]
     intro u2 H2 t2 r2
     obtain⟨b,rfl,kb⟩:=qK e2 (r2.rv S1)
     have F2:=F1.grow r2.1 t2
     have g6:dB X.K H2 _ kvs xs:=g5.imp (λ_ _ z=>aF.seqT r2.1 z) λ_ _ z=>z.grow r2.1
     refine⟨a,b,xs,is,rfl,rfl,r2.1 _ _ g4,g6.keys,kb,by rw[<-g6.length,Be];omega,λw hw t'=>?_⟩
     have rv:Rep X.K H2 (λc=>rtF RT σ σV v.al c\/exB Y old true c) v.d u:=Rep.grow (Rep.weak (r1.rv S) λc z=>z.imp id λz=>z.imp id λz=>by cases z.1) r2.1
     have kp:Kp (λc=>c=a) H2 (upd H2 a (fZ a (storedH xs is b w))):=λc o q nn=>by rw[upd_ne nn];exact q
     have hR:∀c,c=a->RtO H2 c:=λc z=>by subst z;exact⟨_,r2.1 _ _ g4,.inr (.inr ⟨_,rfl⟩)⟩
     have hd:DOb X.K (upd H2 a (fZ a (storedH xs is b w))) (λc=>rtF RT σ σV v.al c\/exB Y old true c) a (.m (eE kvs is v.d)):=
      ⟨_,aL,(g6.stored hw rv kb).imp (λc ks z=>kp.seqT hR z) λds ys z=>z.kp kp hR λc w=>.inl (by rw[w];exact g2)⟩
     exact(show cH X.K RT Y old H ((freeze σ v.al).set i (.dct (.m (eE kvs is v.d)))) D.nx from h) _ σV _ (sK (r1.1.trans r2.1) g2.1) (λc z=>.inl z.1) (F2.mutD (rZ e1) g1 (r2.1 _ _ g4) (.inr (.inr ⟨_,rfl⟩)) (λ_ z=>by cases z) (.inr (.inr ⟨_,rfl⟩)) hd)
   . exact h.elim
theorem aEz{i j:Nat}{dd:List (List D)}(h:aBJ (σ.set i .dead)=true)(e:σ[j]? = some (.own2 dd)):j=i:=by
 by_cases hij:i=j
 . exact hij.symm
 . have e2:(σ.set i .dead)[j]? = some (.own2 dd):=by rw[Ac hij];exact e
   cases Bx.mp h _ (mG e2)
theorem aHE(M:Mc X P Γ n){i:Nat}{c1 c2:E}{x:Str}{p p2:Pos}{e1 e2:Expr}(hx:aR Γ i x=true)(h1:PE X e1 (WE X P n RT Y old σ c1))(h2:PE X e2 (WE X P n RT Y old σ c2))(hp1:aG e1=true)(hp2:aG e2=true) :
 PS X (.Assign [.Name x p] (.List [e1,e2] p2) pos) (wS X RT Y old σ (ex P (call P n) σ (.set2 i c1 c2))):=by
 unfold aR at hx
 obtain⟨k1,k2,k3⟩:=cK hx
 refine aV (gG (i:=i) M.nd (by rw[M.N];exact eq_of_beq k1) (M.loc k2) (wP (bQ h1 (bQ h2 cT (aA hp2)) (aA hp1))) rfl (M.st x k2)) λD σV H t ⟨S,h⟩=>?_
 have h:=OE.from (show OE X.K RT Y old H (O.from σ (ev P (call P n) σ c1) λx=>O.from σ (ev P (call P n) σ c2) λy=>(match x.fr,x.d,y.fr,y.d with
  | true,.lst ds,true,.lst es=>if noLs ds&&noLs es&&aBJ (σ.set i .dead) then .next (σ.set i (.own2 [ds,es])) else .bad
  | _,_,_,_=>.bad)) D from h)
 refine⟨S,h.mono λx hx u1 H1 t1 r1=>⟨S.grow r1.1 t1,(OE.from hx).mono λy hy u2 H2 t2 r2=>?_⟩⟩
 obtain⟨s1,r1⟩:=r1
 obtain⟨s2,r2⟩:=r2
 split at hy
 . rename_i ds es f1 d1 f2 d2
   split at hy
   . rename_i hcnd
     obtain⟨n1,n2,n3⟩:=cK hcnd
     rw[if_pos f1] at r1
     rw[if_pos f2] at r2
     obtain⟨a1,xs,ds',rfl,z1,b1,b2,b3⟩:=r1
     obtain⟨a2,ys,es',rfl,z2,b4,b5,b6⟩:=r2
     rw[d1] at z1
     cases z1
     rw[d2] at z2
     cases z2
     refine⟨by rw[Be];exact(by decide:2<=16777216),λq hq t'=>?_⟩
     have s3:aF H2 (upd H2 q (.lst [V.ref a1,V.ref a2])):=aF.new hq
     have q1:H2 a1=some (.lst xs):=s2 _ _ b2
     have n12:a1≠a2:=λz=>by rw[z,b4] at b2;cases b2
     have nq1:q≠a1:=λz=>by rw[z,q1] at hq;cases hq
     have nq2:q≠a2:=λz=>by rw[z,b5] at hq;cases hq
     have s4:aF H (upd H2 q (.lst [V.ref a1,V.ref a2])):=(s1.trans s2).trans s3
     have S2:=S.put2 (N:=λb=>b=a1\/b=a2\/b=q) (i:=i) (dss:=[ds,es]) (a:=q) (bs:=[a1,a2]) (λj dd ej=>aEz n3 ej) t' (λb z=>by
      rcases z with z|z|z
      . subst z;exact⟨b1,xs,s3 _ _ q1⟩
      . subst z;exact⟨s1.free b4,ys,s3 _ _ b5⟩
      . subst z;exact⟨(s1.trans s2).free hq,_,aL⟩) (λb o eo _=>s4 _ _ eo) (λb ws _ eo=>⟨ws,s4 _ _ eo⟩) (λb hb=>.inl (by
      simp only[Al,Bw,or_false] at hb
      rcases hb with z|z|z
      . exact .inr (.inr z)
      . exact .inl z
      . exact .inr (.inl z))) (by simp[nq1,nq2,n12]) aL ⟨a1,[a2],xs,rfl,s3 _ _ q1,n1,Reps.weak (Reps.grow b3 (s2.trans s3)) λ_ z=>z.elim,a2,[],ys,rfl,s3 _ _ b5,n2,Reps.weak (Reps.grow b6 s3) λ_ z=>z.elim,rfl⟩
     exact(show cH X.K RT Y old H (σ.set i (.own2 [ds,es])) D.nx from hy) _ _ _ (Kp.same s4) (λb z=>z.imp id λz=>by
      rcases z with z|z|z
      . rw[z];exact b1
      . rw[z];exact s1.free b4
      . rw[z];exact(s1.trans s2).free hq) S2
   . exact hy.elim
 . exact hy.elim
theorem aHF(M:Mc X P Γ n){i k:Nat}{c:E}{x:Str}{p sp kp ap cp:Pos}{tt:Nat}{a:Expr}(hx:aP Γ i x=true)(hl:(ap.endLine==cp.line)=true)(ha:PE X a (WE X P n RT Y old σ c))(hp:aG a=true) :
 PS X (.Expr (.Call (.Attribute (.Subscript (.Name x p) (.Constant (.int k) tt kp) sp) "append" ap) [a] [] cp) pos) (wS X RT Y old σ (ex P (call P n) σ (.app2 i k c))):=by
 refine aV (hX (yM C5 D5 D6 kY (aFy M hx) (bQ ha cT (aA hp)) rfl (by rw[aA hp];rfl) hl (aA hp) rfl)) λD σV H t ⟨S,h⟩=>?_
 have h:=OE.from (show OE X.K RT Y old H (O.from σ (ev P (call P n) σ c) λv=>(match pL σ i with
  | some dss=>(match dss[k]? with
   | some ds=>if noL v.d&&decide (ds.length<lim) then .next (σ.set i (.own2 (dss.set k (ds++[v.d])))) else .bad
   | none=>.bad)
  | none=>.bad)) D from h)
 obtain⟨v,ee,h⟩:=h.eq
 cases e1:pL σ i with
 | none=>simp only[e1] at h;exact h.elim
 | some dss=>
  cases e2:dss[k]? with
  | none=>simp only[e1,e2] at h;exact h.elim
  | some ds=>
   simp only[e1,e2] at h
   split at h
   . rename_i hcnd
     obtain⟨n1,n2⟩:=bY hcnd
     have n2:=As n2
     have ei:=yV e1
     obtain⟨b0,bs,g1,g2,g3,g4,g5⟩:=S.lx.at2 i dss ei
     obtain⟨b,xs,k1,k2,k3,k4⟩:=g5.get' e2
     have hbm:b∈bs:=mG k1
     refine⟨b0,bs,b,g1,g2,k1,.inl ⟨rfl,xs,SqL.of k2⟩,S,?_⟩
     rw[ee]
     intro u H1 t1 r1
     have hlen:=k4.length
     refine⟨b,xs,u,rfl,rfl,r1.1 _ _ k2,by have:=sG;omega,λt'=>?_⟩
     have S1:=S.grow r1.1 t1
     obtain⟨b0',bs',j1,j2,j3,j4,j5⟩:=S1.lx.at2 i dss ei
     rw[g1] at j1
     cases j1
     have j2':=r1.1 _ _ g2
     rw[j2'] at j2
     have ebs:bs=bs':=by
      have z:bs.map V.ref=bs'.map V.ref:=HO.lst.inj (Ai j2)
      exact(List.map_inj_right λa b z=>by cases z;rfl).mp z
     subst ebs
     obtain⟨gl,gg⟩:=j5.get
     have nb:b≠b0:=λz=>(Bu.mp j4).1 (by rw[<-z];exact hbm)
     have hk:Kp (λd=>d=b) H1 (upd H1 b (.lst (xs++[u]))):=λd o q nn=>by rw[upd_ne nn];exact q
     have hR:∀d,d=b->RtO H1 d:=λd z=>by subst z;exact⟨_,r1.1 _ _ k2,.inl ⟨_,rfl⟩⟩
     have hT:∀d ks,SqT X.K H1 d ks->SqT X.K (upd H1 b (.lst (xs++[u]))) d ks:=λd ks z=>hk.seqT hR z
     have S2:=S1.put2 (N:=λ_=>False) (i:=i) (dss:=dss.set k (ds++[v.d])) (a:=b0) (bs:=bs) (λj dd ej=>S1.lx.one j i dd dss ej ei) t' (λ_ z=>z.elim) (λd o q nn=>by
      rw[upd_ne λz=>nn ⟨by rw[z];exact j3 b (Ae _ hbm),by subst z;rw[r1.1 _ _ k2] at q;cases q;exact⟨_,rfl⟩⟩]
      exact q) (λd ws _ q=>by
      by_cases hd:d=b
      . subst hd;exact⟨_,aL⟩
      . exact⟨ws,by rw[upd_ne hd];exact q⟩) (λd hd=>.inr (j3 d hd)) j4 (by rw[upd_ne λz=>nb z.symm];exact j2') (Rws.of (by rw[Ap];exact gl) λm es c' em ec=>by
      by_cases hm:k=m
      . subst hm
        rw[Am (by rw[gl];exact(Ay.mp ec).1)] at em
        cases em
        rw[k1] at ec
        cases ec
        refine⟨xs++[u],aL,by rw[vM,k3];simp[noLs,n1],?_⟩
        refine Reps.append (Reps.noT hT ds xs k3 (Reps.grow k4 r1.1)) (.cons (Rep.noT hT v.d u n1 (Rep.free v.d u n1 (r1.rv S))) .nil)
      . rw[Ac hm] at em
        obtain⟨ws,w1,w2,w3⟩:=gg m es c' em ec
        have hne:c'≠b:=λz=>by
         subst z
         exact hm ((List.getElem?_inj (Ay.mp k1).1 (Bu.mp j4).2).mp (k1.trans ec.symm))
        exact⟨ws,by rw[upd_ne hne];exact w1,w2,Reps.noT hT es ws w2 w3⟩)
     rw[aHy g1] at S2
     exact(show cH X.K RT Y old H (σ.set i (.own2 (dss.set k (ds++[v.d])))) D.nx from h) _ σV _ (sK r1.1 (g3 b (Ae _ hbm)).1) (λd z=>z.elim .inl λz=>z.elim) S2
   . exact h.elim
end
section
variable {X:Cx} {P:Pg} {Γ:Ct} {n:Nat} {RT Y old:Addr->Prop} {σ:Sg} {pos:Pos}
theorem Rvs.snoc{K:Fg}{σV:L2.St}{H:Hp}{v:Vl}{u:V}(h2:Rv K RT Y old σ σV H v u):∀{vs:List Vl} {us:List V},Rvs K RT Y old σ σV H vs us->Rvs K RT Y old σ σV H (vs++[v]) (us++[u])
 | [],_,h=>by
  rw[show _=[] from h]
  exact⟨u,[],rfl,h2,rfl⟩
 | w::vs,_,h=>by
  obtain⟨x,r,e,h1,h3⟩:=h
  subst e
  exact⟨x,r++[u],rfl,h1,Rvs.snoc h2 h3⟩
end
section
variable {P:Pg} {n:Nat} {Y old:Addr->Prop}
theorem aCx{Γ:Ct}{is:List Nat}{tg:Expr}(h:iW Γ (.t is) tg=true):∃es k p,tg=.Tuple es k p:=by
 cases tg with
 | Tuple es k p=>exact⟨es,k,p,rfl⟩
 | _=>cases h
theorem aAY{Γ:Ct}{i:Nat}{tg:Expr}(h:iW Γ (.n i) tg=true):∃x p,tg=.Name x p/\aR Γ i x=true:=by
 cases tg with
 | Name x p=>exact⟨x,p,rfl,h⟩
 | _=>cases h
theorem aAZ{Γ:Ct}{c:E}{e:Expr}(h:aK Γ c e=true)(hc:iX e=true):∃k caps t it cond elt,c=.comp k caps t it cond elt:=by
 cases c with
 | comp k caps t it cond elt=>exact⟨k,caps,t,it,cond,elt,rfl⟩
 | c d=>
  rcases(Cv _ _).mp (show(oS (asC e) (eqC d)||oS (asN e) λx=>bL Γ x&&bD x&&oB (Γ.cns.lookup x) (eqK d))=true from h) with h|h
  . obtain⟨_,⟨_,_,rfl⟩,_⟩:=aB h;cases hc
  . obtain⟨_,⟨_,rfl⟩,_⟩:=aB h;cases hc
 | v i=>obtain⟨_,⟨_,rfl⟩,_⟩:=aB h;cases hc
 | op o a b=>obtain⟨_,⟨_,rfl⟩,_⟩:=aB h;cases hc
 | neg _=>cases h
 | nt a=>obtain⟨_,⟨_,rfl⟩,_⟩:=aB h;cases hc
 | an a b=>obtain⟨_,rfl,_⟩:=aB h;cases hc
 | orr a b=>obtain⟨_,rfl,_⟩:=aB h;cases hc
 | ife t a b=>obtain⟨_,⟨_,rfl⟩,_⟩:=aB h;cases hc
 | cmp o a b=>obtain⟨_,⟨_,rfl⟩,_⟩:=aB h;cases hc
 | cmp2 o1 o2 a b c=>obtain⟨_,⟨_,rfl⟩,_⟩:=aB h;cases hc
 | idx a b=>obtain⟨_,⟨_,rfl⟩,_⟩:=aB h;cases hc
 | sli a lo hi=>obtain⟨_,⟨_,rfl⟩,_⟩:=aB h;cases hc
 | tup es=>obtain⟨_,⟨_,_,rfl⟩,_⟩:=aB h;cases hc
 | lst es=>obtain⟨_,⟨_,rfl⟩,_⟩:=aB h;cases hc
 | call f es=>obtain⟨_,⟨_,_,rfl⟩,_⟩:=aB h;cases hc
 | bi b es=>obtain⟨_,⟨_,_,rfl⟩,_⟩:=aB h;cases hc
 | mth _ _ _=>cases h
 | isi a cs=>obtain⟨_,⟨_,_,rfl⟩,_⟩:=aB h;cases hc
 | numset _=>cases h
 | tget i a=>obtain⟨_,⟨_,_,rfl,_⟩,_⟩:=aB h;cases hc
 | lzip _ _=>cases h
 | dic ks vs=>obtain⟨_,_,_,_,⟨_,rfl⟩,_⟩:=aBX h;cases hc
 | lix i k=>obtain⟨_,⟨_,rfl⟩,_⟩:=aB h;cases hc
 | stp a k=>obtain⟨_,⟨_,rfl⟩,_⟩:=aB h;cases hc
 | sset a=>obtain⟨_,⟨_,_,rfl⟩,_⟩:=aB h;cases hc
 | callP f es=>obtain⟨_,⟨_,_,rfl⟩,_⟩:=aB h;cases hc
 | o2 i k=>obtain⟨_,⟨_,rfl⟩,_⟩:=aB h;cases hc
 | dgne i k a=>obtain⟨_,⟨_,rfl⟩,_⟩:=aB h;cases hc
 | srtD i=>obtain⟨_,⟨_,_,rfl⟩,_⟩:=aB h;cases hc
 | attr _ _=>cases h
theorem m1{Γ:Ct}{i:Nat}{m:Str}{c:Expr}{f:Expr->Bool}(h:(match jO Γ i m c with|some [a]=>f a|_=>false)=true):∃a,jO Γ i m c=some [a]/\f a=true:=by
 split at h
 . rename_i a q;exact⟨a,q,h⟩
 . cases h
theorem m0{Γ:Ct}{i:Nat}{m:Str}{c:Expr}(h:(match jO Γ i m c with|some []=>true|_=>false)=true):jO Γ i m c=some []:=by
 split at h
 . rename_i q;exact q
 . cases h
abbrev QS(P:Pg)(n:Nat)(Y old:Addr->Prop)(c:S):Prop:=∀{X:Cx} {Γ:Ct},Mc X P Γ n->∀{st:Stmt},cP Γ c st=true->∀(RT:Addr->Prop) (σ:Sg),PS X st (wS X RT Y old σ (ex P (call P n) σ c))
abbrev QSs(P:Pg)(n:Nat)(Y old:Addr->Prop)(c:Ss):Prop:=∀{X:Cx} {Γ:Ct},Mc X P Γ n->∀{st:List Stmt},chkSs Γ c st=true->∀(RT:Addr->Prop) (σ:Sg),PSs X st (wS X RT Y old σ (exs P (call P n) σ c))
theorem aKH{t:T}{e:E}:QS P n Y old (.set t e):=λ{X Γ} M {st} h RT σ=>by
 unfold cP at h
 obtain⟨⟨tg,v⟩,⟨p,rfl⟩,g⟩:=aB h
 clear h
 obtain⟨h1,h2,h3⟩:=cK g
 clear g
 cases t with
 | n i=>
  obtain⟨x,p,e1,hx⟩:=aAY h1
  have e1:tg=.Name x p:=e1
  subst e1
  cases hc:iX v with
  | false=>exact aHm M hx (sE e M h2 RT Y old σ) hc
  | true=>
   obtain⟨k,caps,t,it,cond,elt,rfl⟩:=aAZ h2 hc
   obtain⟨el,tg,iter,ifs,scope,cpos,e2,O,g1,g2,g3,g4,g5⟩:=zB h2
   have e2:v=.ListComp el [⟨tg,iter,ifs,0⟩] scope cpos:=e2
   subst e2
   refine aAX M hx (O.scope M) O.ndc O.tk (sI it M g3 RT Y old σ) (λC s₀ H₀ ex=>?_) (eT (jB g3))
   have M':=O.mc M C s₀ H₀ ex
   exact⟨aAO M' g2,λRT Y old σ1=>sTs cond M' g1 g4 RT Y old σ1,λRT Y old σ1=>sE elt M' g5 RT Y old σ1⟩
 | t is=>
  obtain⟨es,k,p,e1⟩:=aCx h1
  have e1:tg=.Tuple es k p:=e1
  subst e1
  refine aHn M h1 (sE e M h2 RT Y old σ) ?_
  have:(false||!xC v)=true:=h3
  simpa using this
theorem aKI{i j:Nat}:QS P n Y old (.mov i j):=λ{X Γ} M {st} h RT σ=>by
 unfold cP at h
 obtain⟨⟨tg,v⟩,⟨p,rfl⟩,g⟩:=aB h
 clear h
 obtain⟨x,⟨p1,e1⟩,g⟩:=aB g
 obtain⟨y,⟨p2,e2⟩,g⟩:=aB g
 have e1:tg=.Name x p1:=e1
 have e2:v=.Name y p2:=e2
 subst e1 e2
 obtain⟨h1,h2⟩:=bY g
 exact aKz M h1 h2
theorem aEA{i:Nat}{k e:E}:QS P n Y old (.setIx i k e):=λ{X Γ} M {st} h RT σ=>by
 unfold cP at h
 obtain⟨⟨tg,v⟩,⟨p,rfl⟩,g⟩:=aB h
 clear h
 obtain⟨⟨o,ix⟩,⟨p1,e1⟩,g⟩:=aB g
 obtain⟨x,⟨p2,e2⟩,g⟩:=aB g
 have e1:tg=.Subscript o ix p1:=e1
 have e2:o=.Name x p2:=e2
 subst e1 e2
 obtain⟨h1,h2,h3⟩:=cK g
 exact aEv M h1 (sE k M h2 RT Y old σ) (sE e M h3 RT Y old σ) (aE h2)
theorem aKJ{i:Nat}{e:E}:QS P n Y old (.app i e):=λ{X Γ} M {st} h RT σ=>by
 unfold cP at h
 obtain⟨c,⟨p,rfl⟩,g⟩:=aB h
 obtain⟨a,h1,h2⟩:=m1 (f:=λa=>aK Γ e a) g
 exact aKx M h1 (sE e M h2 RT Y old σ) (aE h2)
theorem aKK{i:Nat}{e:E}:QS P n Y old (.ext i e):=λ{X Γ} M {st} h RT σ=>by
 unfold cP at h
 obtain⟨c,⟨p,rfl⟩,g⟩:=aB h
 obtain⟨a,h1,h2⟩:=m1 (f:=λa=>aK Γ e a) g
 exact aKy M h1 (sE e M h2 RT Y old σ) (aE h2)
theorem aKL{e:E}:QS P n Y old (.ret e):=λ{X Γ} M {st} h RT σ=>by
 unfold cP at h
 obtain⟨r,⟨p,rfl⟩,g⟩:=aB h
 clear h
 obtain⟨v,e1,g⟩:=uK g
 subst e1
 exact aKw (sE e M g RT Y old σ)
theorem aHG{i:Nat}:QS P n Y old (.retv i):=λ{X Γ} M {st} h RT σ=>by
 unfold cP at h
 obtain⟨r,⟨p,rfl⟩,g⟩:=aB h
 clear h
 obtain⟨v,e1,g⟩:=uK g
 subst e1
 obtain⟨x,⟨p1,e2⟩,g⟩:=aB g
 have e2:v=.Name x p1:=e2
 subst e2
 exact aHl M g
theorem aHH:QS P n Y old .retN:=λ{X Γ} M {st} h RT σ=>by
 unfold cP at h
 obtain⟨r,⟨p,rfl⟩,g⟩:=aB h
 cases r with
 | none=>exact aHk
 | some _=>cases g
theorem aKM{c:E}{a b:Ss}(ha:QSs P n Y old a)(hb:QSs P n Y old b):QS P n Y old (.iff c a b):=λ{X Γ} M {st} h RT σ=>by
 unfold cP at h
 obtain⟨⟨t,x,y⟩,⟨p,rfl⟩,g⟩:=aB h
 obtain⟨h1,h2,h3⟩:=cK g
 exact aMB (sT c M h1 RT Y old σ) (ha M h2) (hb M h3)
theorem aKN{t:T}{it:Hp.It}{b:Ss}(hb:QSs P n Y old b):QS P n Y old (.for t it b):=λ{X Γ} M {st} h RT σ=>by
 unfold cP at h
 obtain⟨⟨tg,iter,body⟩,⟨p,rfl⟩,g⟩:=aB h
 obtain⟨h1,h2,h3⟩:=cK g
 exact aKA M h1 (sI it M h2 RT Y old σ) (hb M h3) (eT (jB h2))
theorem aKO:QS P n Y old .brk:=λ{X Γ} M {st} h RT σ=>by
 unfold cP at h
 obtain⟨_,⟨p,rfl⟩,_⟩:=aB h
 exact aKt
theorem aKP:QS P n Y old .cnt:=λ{X Γ} M {st} h RT σ=>by
 unfold cP at h
 obtain⟨_,⟨p,rfl⟩,_⟩:=aB h
 exact aKu
theorem aHI:QS P n Y old .pass:=λ{X Γ} M {st} h RT σ=>by
 unfold cP at h
 obtain⟨_,⟨p,rfl⟩,_⟩:=aB h
 exact aHj
theorem aMD{e:E}:QS P n Y old (.ex e):=λ{X Γ} M {st} h RT σ=>by
 unfold cP at h
 obtain⟨v,⟨p,rfl⟩,g⟩:=aB h
 obtain⟨h1,h2⟩:=bY g
 exact aMA (sE e M h1 RT Y old σ) (by simpa using h2)
theorem aKQ{c:Nat}{k:Bool}{es:Es}:QS P n Y old (.rse c k es):=by
 intro X Γ M st h RT σ
 exact aKv
theorem lX{c:S}(z:∀Γ st,cP Γ c st=false):QS P n Y old c:=by
 intro X Γ M st h RT σ
 rw[z] at h
 cases h
theorem aHJ{b:Ss}(hb:QSs P n Y old b):QS P n Y old (.tryN b):=λ{X Γ} M {st} h RT σ=>by
 unfold cP at h
 obtain⟨r,⟨hd,hs,p,rfl⟩,g⟩:=aB h
 exact aHz M (hb M g RT σ)
theorem aHK{i:Nat}{m:Bool}:QS P n Y old (.dnew i m):=λ{X Γ} M {st} h RT σ=>by
 unfold cP at h
 obtain⟨⟨tg,v⟩,⟨p,rfl⟩,g⟩:=aB h
 clear h
 obtain⟨x,⟨p1,e1⟩,g⟩:=aB g
 obtain⟨h1,h2⟩:=bY g
 obtain⟨_,⟨p2,e2⟩,_⟩:=aB h2
 have e1:tg=.Name x p1:=e1
 have e2:v=.Dict [] [] p2:=e2
 subst e1 e2
 exact aHA M h1
theorem aHL{i f:Nat}{es:Es}:QS P n Y old (.dset i f es):=λ{X Γ} M {st} h RT σ=>by
 unfold cP at h
 obtain⟨⟨tg,v⟩,⟨p,rfl⟩,g⟩:=aB h
 clear h
 obtain⟨x,⟨p1,e1⟩,g⟩:=aB g
 obtain⟨h1,h2⟩:=bY g
 obtain⟨⟨f',xs⟩,⟨p2,p3,e2⟩,g2⟩:=aB h2
 have e1:tg=.Name x p1:=e1
 have e2:v=.Call (.Name f' p2) xs [] p3:=e2
 subst e1 e2
 obtain⟨k1,k2,k3,k4,k5⟩:=vI g2
 cases xs with
 | nil=>cases k4
 | cons y ys=>exact aHB M h1 (eq_of_beq k1) k2 k3 ((qA es).a M k5 RT Y old σ) (dO k5)
theorem aHM{i:Nat}{e:E}:QS P n Y old (.dupd i e):=λ{X Γ} M {st} h RT σ=>by
 unfold cP at h
 obtain⟨c,⟨p,rfl⟩,g⟩:=aB h
 obtain⟨a,h1,h2⟩:=m1 (f:=λa=>aK Γ e a) g
 exact aHC M h1 (sE e M h2 RT Y old σ) (aE h2)
theorem aHN{i:Nat}{k e:E}:QS P n Y old (.dput i k e):=λ{X Γ} M {st} h RT σ=>by
 unfold cP at h
 obtain⟨⟨tg,v⟩,⟨p,rfl⟩,g⟩:=aB h
 clear h
 obtain⟨⟨o,ix⟩,⟨p1,e1⟩,g⟩:=aB g
 obtain⟨x,⟨p2,e2⟩,g⟩:=aB g
 have e1:tg=.Subscript o ix p1:=e1
 have e2:o=.Name x p2:=e2
 subst e1 e2
 obtain⟨h1,h2,h3⟩:=cK g
 exact aHD M h1 (sE k M h2 RT Y old σ) (sE e M h3 RT Y old σ) (aE h2)
theorem aHO{i:Nat}{a b:E}:QS P n Y old (.set2 i a b):=λ{X Γ} M {st} h RT σ=>by
 unfold cP at h
 obtain⟨⟨tg,v⟩,⟨p,rfl⟩,g⟩:=aB h
 clear h
 obtain⟨x,⟨p1,e1⟩,g⟩:=aB g
 obtain⟨h1,h2⟩:=bY g
 obtain⟨xs,⟨p2,e2⟩,g2⟩:=aB h2
 have e1:tg=.Name x p1:=e1
 have e2:v=.List xs p2:=e2
 subst e1 e2
 rcases xs with _|⟨y,_|⟨z,_|⟨_,_⟩⟩⟩
 . cases g2
 . cases g2
 . obtain⟨k1,k2⟩:=bY g2
   exact aHE M h1 (sE a M k1 RT Y old σ) (sE b M k2 RT Y old σ) (aE k1) (aE k2)
 . cases g2
theorem aHP{i k:Nat}{e:E}:QS P n Y old (.app2 i k e):=λ{X Γ} M {st} h RT σ=>by
 unfold cP at h
 obtain⟨c,⟨p,rfl⟩,g⟩:=aB h
 clear h
 obtain⟨⟨o,m,xs,l⟩,h4,g1⟩:=aB g
 clear g
 obtain⟨ap,cp,e4,hl⟩:=h4
 have e4:c=.Call (.Attribute o m ap) xs [] cp:=e4
 subst e4
 obtain⟨k1,k2,k3,k4⟩:=xR g1
 obtain⟨⟨y,ix⟩,⟨sp,e5⟩,g5⟩:=aB k3
 have e5:o=.Subscript y ix sp:=e5
 subst e5
 obtain⟨g6,g7⟩:=bY g5
 obtain⟨x,⟨p2,e6⟩,g6⟩:=aB g6
 have e6:y=.Name x p2:=e6
 subst e6
 obtain⟨cc,⟨_,_,e7⟩,g7⟩:=aB g7
 have e7:ix=_:=e7
 rw[sB g7] at e7
 subst e7
 have e8:m=("append" : Str):=eq_of_beq k1
 subst e8
 rw[show l=true from k2] at hl
 rcases xs with _|⟨a,_|⟨_,_⟩⟩
 . cases k4
 . exact aHF M g6 hl (sE e M k4 RT Y old σ) (aE k4)
 . cases k4
theorem aHQ{i:Nat}{k e:E}:QS P n Y old (.lset i k e):=λ{X Γ} M {st} h RT σ=>by
 unfold cP at h
 obtain⟨⟨tg,v⟩,⟨p,rfl⟩,g⟩:=aB h
 clear h
 obtain⟨⟨o,ix⟩,⟨p1,e1⟩,g⟩:=aB g
 obtain⟨x,⟨p2,e2⟩,g⟩:=aB g
 have e1:tg=.Subscript o ix p1:=e1
 have e2:o=.Name x p2:=e2
 subst e1 e2
 obtain⟨h1,h2,h3⟩:=cK g
 exact aHs M h1 (sE k M h2 RT Y old σ) (sE e M h3 RT Y old σ) (aE h2)
theorem aHR{i l:Nat}{fz:List Nat}{e:EL}:QS P n Y old (.setL i l fz e):=λ{X Γ} M {st} h RT σ=>by
 unfold cP at h
 obtain⟨⟨tg,v⟩,⟨p,rfl⟩,g⟩:=aB h
 clear h
 obtain⟨x,⟨p1,e1⟩,g⟩:=aB g
 have e1:tg=.Name x p1:=e1
 subst e1
 obtain⟨h1,h2,h3⟩:=cK g
 exact aHt M h1 (qEL M e h2) (by simpa using h3)
theorem aHS{i l:Nat}{e:EL}:QS P n Y old (.appL i l e):=λ{X Γ} M {st} h RT σ=>by
 unfold cP at h
 obtain⟨c,⟨p,rfl⟩,g⟩:=aB h
 obtain⟨a,h1,h2⟩:=m1 (f:=λa=>aX Γ l e a) g
 exact aHu M h1 (qEL M e h2 RT σ) (cC h2)
theorem aHT{e:EL}:QS P n Y old (.retL e):=λ{X Γ} M {st} h RT σ=>by
 unfold cP at h
 obtain⟨r,⟨p,rfl⟩,g⟩:=aB h
 clear h
 obtain⟨v,e1,g⟩:=uK g
 subst e1
 exact aHv (qEL M e g RT σ)
theorem aEB{i:Nat}:QS P n Y old (.retvL i):=λ{X Γ} M {st} h RT σ=>by
 unfold cP at h
 obtain⟨r,⟨p,rfl⟩,g⟩:=aB h
 clear h
 obtain⟨v,e1,g⟩:=uK g
 subst e1
 obtain⟨x,⟨p1,e2⟩,g⟩:=aB g
 have e2:v=.Name x p1:=e2
 subst e2
 exact aEy M g
theorem aHU{o:CmpOp}{a:EL}{b:E}{x y:Ss}(hx:QSs P n Y old x)(hy:QSs P n Y old y):QS P n Y old (.iffL o a b x y):=λ{X Γ} M {st} h RT σ=>by
 unfold cP at h
 obtain⟨⟨t,u,v⟩,⟨p,rfl⟩,g0⟩:=aB h
 obtain⟨h1,h2,h3⟩:=cK g0
 obtain⟨⟨l,os,rs⟩,⟨p2,e2⟩,g⟩:=aB h1
 clear h1 g0 h
 have e2:t=.Compare l os rs p2:=e2
 subst e2
 rcases os with _|⟨o',_|⟨_,_⟩⟩
 . cases g
 . rcases rs with _|⟨z,_|⟨_,_⟩⟩
   . cases g
   . obtain⟨g1,g2,g3⟩:=cK g
     have e3:o=o':=eq_of_beq g1
     subst e3
     exact aHw M (qEL M a g2 RT σ) (λσ=>sE b M g3 RT Y old σ) (aE g3) (hx M h2) (hy M h3)
   . cases g
 . cases g
theorem aHV{t:T}{e:EL}{b:Ss}(hb:QSs P n Y old b):QS P n Y old (.forL t e b):=λ{X Γ} M {st} h RT σ=>by
 unfold cP at h
 obtain⟨⟨tg,iter,body⟩,⟨p,rfl⟩,g0⟩:=aB h
 obtain⟨h1,h2,h3⟩:=cK g0
 obtain⟨⟨f,xs⟩,⟨p1,p2,e2⟩,g⟩:=aB h2
 clear h2 g0 h
 have e2:iter=.Call (.Name f p1) xs [] p2:=e2
 subst e2
 obtain⟨g1,g2,g3⟩:=cK g
 rcases xs with _|⟨x,_|⟨_,_⟩⟩
 . cases g3
 . exact aHx M h1 (eq_of_beq g1) g2 (qEL M e g3 RT σ) (cC g3) (hb M h3)
 . cases g3
theorem aHW{cs:Ss}:QSs P n Y old (.cons .lend cs):=λ{X Γ} M {st} h RT σ=>jY (t:=λ_ _ _=>False) (λpins s σV H D I hw=>hw.elim) λD σV H t ⟨S,hh⟩=>by
 have hh:OE X.K RT Y old H (O.on (match σ[(0:Nat)]? with|some (.sh true (.err 0 cs))=>.next (σ.set 0 (.lent cs))|_=>.bad) λσ'=>exs P (call P n) σ' cs) D:=hh
 split at hh
 . rename_i ds e
   obtain⟨v,_,h2⟩:=S.sh 0 true (.err 0 ds) e
   exact h2
 . exact hh
theorem aKR:QSs P n Y old .nil:=λ{X Γ} M {st} h RT σ=>by
 cases st with
 | nil=>exact aKs
 | cons _ _=>exact nf h
theorem xS{Γ:Ct}{c:S}{cs:Ss}{st:List Stmt}(hl:pZ (.cons c .nil)=false)(h:chkSs Γ (.cons c cs) st=true):∃x xs,st=x::xs/\cP Γ c x=true/\chkSs Γ cs xs=true:=by
 cases st with
 | nil=>cases c <;> first|exact nf h|cases hl
 | cons x xs=>
  have h:(cP Γ c x&&chkSs Γ cs xs)=true:=by
   cases c <;> first|exact h|cases hl
  obtain⟨h1,h2⟩:=bY h
  exact⟨x,xs,rfl,h1,h2⟩
theorem aHX{c:S}{cs:Ss}(hc:QS P n Y old c)(hs:QSs P n Y old cs)(hl:pZ (.cons c .nil)=false):QSs P n Y old (.cons c cs):=λ{X Γ} M {st} h RT σ=>by
 obtain⟨x,xs,rfl,h1,h2⟩:=xS hl h
 exact aHi (hc M h1) (hs M h2)
theorem aEC{c:S}{cs:Ss}(hc:QS P n Y old c)(hs:QSs P n Y old cs):QSs P n Y old (.cons c cs):=by
 cases c with
 | lend=>exact aHW
 | _=>exact aHX hc hs rfl
mutual
theorem sS:(c:S)->QS P n Y old c
 | .set _ _=>aKH
 | .mov _ _=>aKI
 | .setIx _ _ _=>aEA
 | .app _ _=>aKJ
 | .ext _ _=>aKK
 | .pop _ _ _=>lX λ_ _=>rfl
 | .clr _=>lX λ_ _=>rfl
 | .ins _ _ _=>lX λ_ _=>rfl
 | .rev _=>lX λ_ _=>rfl
 | .appCall _ _ _=>lX λ_ _=>rfl
 | .ret _=>aKL
 | .retv _=>aHG
 | .retN=>aHH
 | .iff _ a b=>aKM (sSs a) (sSs b)
 | .for _ _ b=>aKN (sSs b)
 | .whl _ _=>lX λ_ _=>rfl
 | .brk=>aKO
 | .cnt=>aKP
 | .pass=>aHI
 | .ex _=>aMD
 | .rse _ _ _=>aKQ
 | .try _ _=>lX λ_ _=>rfl
 | .tryN b=>aHJ (sSs b)
 | .set2 _ _ _=>aHO
 | .app2 _ _ _=>aHP
 | .dnew _ _=>aHK
 | .dset _ _ _=>aHL
 | .dupd _ _=>aHM
 | .dput _ _ _=>aHN
 | .lend=>lX λ_ _=>rfl
 | .lset _ _ _=>aHQ
 | .setL _ _ _ _=>aHR
 | .appL _ _ _=>aHS
 | .retL _=>aHT
 | .retvL _=>aEB
 | .iffL _ _ _ x y=>aHU (sSs x) (sSs y)
 | .forL _ _ b=>aHV (sSs b)
theorem sSs:(c:Ss)->QSs P n Y old c
 | .nil=>aKR
 | .cons c cs=>aEC (sS c) (sSs cs)
end
end
structure Tx where
 x:Str
 qual:Str
 st:Stmt
 N:List Str
def qN(Γ:Ct)(F:Fn)(t:Tx):Bool:=
 t.N.length==F.ns&&decide (F.np<=F.ns)&&decide t.N.Nodup&&(bH t.st).kind==.function&&!(bH t.st).isCoroutine&&!(bH t.st).isGenerator &&
 ((t.N.take F.np).all λx=>(bH t.st).names.lookup x==some .local||(bH t.st).names.lookup x==some .cell)&&((bH t.st).names.all λp=>p.2 != .free) &&
 chkSs { Γ with N:=t.N,sc:=(bH t.st).names,fn:=true } F.body (iB t.st)
def gP(Γ:Ct):List Fn->List Tx->Bool
 | [],[]=>true
 | F::Fs,t::ts=>qN Γ F t&&gP Γ Fs ts
 | _,_=>false
theorem fP{Γ:Ct}:∀{Fs:List Fn} {ts:List Tx},gP Γ Fs ts=true->∀{f:Nat} {t:Tx},ts[f]? = some t->∃F,Fs[f]? = some F/\qN Γ F t=true
 | [],[],_,_,_,e=>by simp at e
 | [],_::_,h,_,_,_=>by cases h
 | _::_,[],h,_,_,_=>by cases h
 | F::Fs,t::ts,h,0,t',e=>by
  obtain⟨h1,h2⟩:=bY (show(qN Γ F t&&gP Γ Fs ts)=true from h)
  have e':t=t':=by simpa using e
  subst e'
  exact⟨F,rfl,h1⟩
 | F::Fs,t::ts,h,f+1,t',e=>by
  obtain⟨h1,h2⟩:=bY (show(qN Γ F t&&gP Γ Fs ts)=true from h)
  obtain⟨F',q1,q2⟩:=fP h2 (f:=f) (t:=t') (by simpa using e)
  exact⟨F',by simpa using q1,q2⟩
section
variable {prog:Program} {w:World} {K:Fg} {mg:Str->Option Value} {base:Heap} {P:Pg} {Γ:Ct} {txs:List Tx}
structure Top (prog:Program) (w:World) (K:Fg) (mg:Str->Option Value) (P:Pg) (Γ:Ct) (txs:List Tx):Prop where
 fn:∀(f:Nat) (t:Tx),txs[f]? = some t->∃fa fd,mg t.x=some (.ref fa)/\Fun K t.x t.qual t.st fa fd/\∀F,P.fns[f]? = some F->iL K fd (t.N.take F.np) []
 fns:∀(f:Nat) (x:Str),Γ.fns[f]? = some x->∃t,txs[f]? = some t/\t.x=x
 blt:∀x∈bltNames,mg x=none
 cns:∀(x:Str) (d:D),Γ.cns.lookup x=some d->∃u v,mg x=some u/\aW v u/\∀H ex,Rep K H ex d v
 tab:∀(i:Nat) (x:Str),Γ.tbs[i]? = some x->∃a t,mg x=some (.ref a)/\P.tabs[i]? = some t/\qB prog w K a t
 chk:gP Γ P.fns txs=true
theorem zH{k f:Nat}{F:Fn}(hF:P.fns[f]? = some F){vs:List V}{H:Hp}{Q:VK}{E:XK}(h:spF K P (k+1) f vs H Q E):vs.length=F.np:=by
 obtain⟨ds,Y,_,r,hr⟩:=h
 obtain⟨x,e,_⟩:=hr.eq
 have e:mM P (call P k) f ds=.ok x:=e
 unfold mM at e
 rw[hF] at e
 have e:(if ds.length=F.np then _ else R.bad)=R.ok x:=e
 split at e
 . rename_i hl;rw[<-r.length];exact hl
 . cases e
theorem zI{k f:Nat}{F:Fn}(hF:P.fns[f]? = some F){vs:List V}{H:Hp}{Q:VK}{E:XK}(h:spL K P (k+1) f vs H Q E):vs.length=F.np:=by
 obtain⟨_,cs,ds,p,xs,us,Y,rfl,_,_,_,r,hr⟩:=h
 obtain⟨x,e,_⟩:=hr.eq
 have e:mM P (call P k) f (.err 0 cs::ds)=.ok x:=e
 unfold mM at e
 rw[hF] at e
 have e:(if (D.err 0 cs::ds).length=F.np then _ else R.bad)=R.ok x:=e
 split at e
 . rename_i hl
   rw[<-hl,lC,lC,r.length]
 . cases e
theorem aED{ds cs:List D}{us xs:List V}{p:Addr}{H:Hp}{Y:Addr->Prop}{m:Nat}(hY:∀a,Y a->H a≠none)(t:Tk K H)(hp:H p=some (.lst xs))(rc:Reps K H (λb=>b=p\/Y b) cs xs)(r:Reps K H (λb=>b=p\/Y b) ds us) :
 Sx K (λb=>b=p) Y (λb=>H b≠none) ((((D.err 0 cs::ds).map λd=>Sl.sh true d)++List.replicate m Sl.dead).set 0 (.lent cs)) (((V.ref p::us).map some)++List.replicate m none) H:=by
 have S0:Sx K (λb=>b=p) Y (λb=>H b≠none) (((D.non::ds).map λd=>Sl.sh true d)++List.replicate m Sl.dead) (((V.non::us).map some)++List.replicate m none) H:=vL hY t (λa z=>.lst (xs:=xs) (by rw[z];exact hp)) (.cons rfl r)
 have tl:∀{j:Nat},0≠j->(((V.ref p::us).map some)++List.replicate m none)[j]? = (((V.non::us).map some)++List.replicate m none)[j]? := λ{j} hj=>by
  cases j with
  | zero=>exact absurd rfl hj
  | succ j=>rfl
 have sl:∀{j:Nat} {s:Sl},((((D.err 0 cs::ds).map λd=>Sl.sh true d)++List.replicate m Sl.dead).set 0 (.lent cs))[j]? = some s->(j=0/\s=.lent cs)\/(0≠j/\(((D.non::ds).map λd=>Sl.sh true d)++List.replicate m Sl.dead)[j]? = some s):=λ{j s} e=>by
  cases j with
  | zero=>exact .inl ⟨rfl,(Ai e).symm⟩
  | succ j=>exact .inr ⟨by omega,e⟩
 have nol:∀{j:Nat} {ds':List D},(((D.non::ds).map λd=>Sl.sh true d)++List.replicate m Sl.dead)[j]? = some (.lent ds')->False:=λ{j ds'} e=>by
  rcases A3.mp (mG e) with z|z
  . obtain⟨_,_,e⟩:=A2.mp z
    cases e
  . cases List.eq_of_mem_replicate z
 have no2:∀{j:Nat} {ds':List (List D)},(((D.non::ds).map λd=>Sl.sh true d)++List.replicate m Sl.dead)[j]? = some (.own2 ds')->False:=λ{j ds'} e=>by
  rcases A3.mp (mG e) with z|z
  . obtain⟨_,_,e⟩:=A2.mp z
    cases e
  . cases List.eq_of_mem_replicate z
 exact {
  sh:=λj pa d e=>by
   rcases sl e with⟨_,z⟩|⟨hj,e⟩
   . cases z
   . rw[tl hj];exact S0.sh j pa d e
  own:=λj pa d e=>by
   rcases sl e with⟨_,z⟩|⟨hj,e⟩
   . cases z
   . rw[tl hj];exact S0.own j pa d e
  trk:=S0.trk
  yo:=S0.yo
  tk:=S0.tk
  rt:=S0.rt
  inj:=λi j pa pa' ds1 ds2 a e1 e2 e3 e4=>by
   rcases sl e1 with⟨_,z⟩|⟨h1,e1⟩
   . cases z
   rcases sl e2 with⟨_,z⟩|⟨h2,e2⟩
   . cases z
   rw[tl h1] at e3
   rw[tl h2] at e4
   exact S0.inj i j pa pa' ds1 ds2 a e1 e2 e3 e4
  len:=by
   rw[Ap]
   exact S0.len
  lx:={
   at':=λj ds' e=>by
    rcases sl e with⟨rfl,z⟩|⟨hj,e⟩
    . cases z
      exact⟨p,xs,rfl,hp,rfl,by rw[hp];simp,rc.weak λb z=>z.imp id λz=>z.elim id λz=>by cases z.1⟩
    . exact(nol e).elim
   inj:=λi j ds1 ds2 a e1 e2 e3 e4=>by
    rcases sl e1 with⟨rfl,_⟩|⟨h1,e1⟩
    . rcases sl e2 with⟨rfl,_⟩|⟨h2,e2⟩
      . rfl
      . exact(nol e2).elim
    . exact(nol e1).elim
   at2:=λj ds' e=>by
    rcases sl e with⟨rfl,z⟩|⟨hj,e⟩
    . cases z
    . exact(no2 e).elim
   one:=λi j ds1 ds2 e=>by
    rcases sl e with⟨rfl,z⟩|⟨hj,e⟩
    . cases z
    . exact(no2 e).elim }
  dx:={
   at':=λj t e=>by
    rcases sl e with⟨_,z⟩|⟨hj,e⟩
    . cases z
    . rw[tl hj];exact S0.dx.at' j t e
   inj:=λi j t t' a e1 e2 e3 e4=>by
    rcases sl e1 with⟨_,z⟩|⟨h1,e1⟩
    . cases z
    rcases sl e2 with⟨_,z⟩|⟨h2,e2⟩
    . cases z
    rw[tl h1] at e3
    rw[tl h2] at e4
    exact S0.dx.inj i j t t' a e1 e2 e3 e4 } }
theorem aCy{b:Ss}(h:pZ b=true):∃r,b=.cons .lend r:=by
 unfold pZ at h
 split at h
 . exact⟨_,rfl⟩
 . cases h
theorem xT{Γ:Ct}{cs:Ss}{st:List Stmt}(h:chkSs Γ (.cons .lend cs) st=true):chkSs Γ cs st=true:=by
 cases st <;> exact h
theorem aEE{x d:D}{cs:List D}(h:aBM x=some (d,cs)):x=.tup [d,.err 0 cs]:=by
 unfold aBM at h
 split at h
 . cases h;rfl
 . cases h
theorem zJ{k f:Nat}{t:Tx}{F:Fn}{fa:Addr}{fd:FuncData}(hmd:∀(f:Nat) (x:Str),Γ.fns[f]? = some x->∃fa fd ps,mg x=some (.ref fa)/\PySem.W.keepIn K (.ref fa)=true/\iL K fd ps []/\mI prog w K mg base CX0 k fa fd ps (spA K P k f))
 (hblt:∀x∈bltNames,mg x=none) (hcns:∀(x:Str) (d:D),Γ.cns.lookup x=some d->∃u v,mg x=some u/\aW v u/\∀H ex,Rep K H ex d v) (htab:∀(i:Nat) (x:Str),Γ.tbs[i]? = some x->∃a t,mg x=some (.ref a)/\P.tabs[i]? = some t/\qB prog w K a t) (h2:Fun K t.x t.qual t.st fa fd) (hF:P.fns[f]? = some F) (hc:qN Γ F t=true) :
 mI prog w K mg base CX0 (k+1) fa fd (t.N.take F.np) (spA K P (k+1) f):=by
 unfold qN at hc
 simp only[bA,D9,A4,Bool.not_eq_true',Bx,Cv,bne_iff_ne,ne_eq] at hc
 obtain⟨⟨⟨⟨⟨⟨⟨⟨c1,c2⟩,c3⟩,c4⟩,c5⟩,c6⟩,c7⟩,c8⟩,c9⟩:=hc
 have lt:(t.N.take F.np).length=F.np:=by rw[Cd];omega
 have sc:mV t.N (t.N.take F.np) (bH t.st):=⟨c4,c5,c6,c3,by rw[lt],c7,c8⟩
 refine h2.ok sc (λvs H Q E h=>by rw[lt];exact h.elim (zH hF) (zI hF)) λcdv A outer s H vs Q E hr h=>?_
 have M:Mc (wR CX0 prog w K mg base t.N t.qual (bH t.st) fa cdv A outer s H E).nox P { Γ with N:=t.N,sc:=(bH t.st).names,fn:=true } k:={
  md:=⟨hmd,hblt,hcns,htab⟩
  N:=rfl
  nd:=c3
  sc:=rfl
  calm:=rfl
  room:=hr
  xe:=rfl
  st:=λ_ _=>.inl rfl
  fk:=c4 }
 rcases h with h|h
 . have hlen:=zH hF h
   obtain⟨ds,Y,hY,r,hq⟩:=h
   obtain⟨res,er,hq⟩:=hq.eq
   have er:mM P (call P k) f ds=.ok res:=er
   unfold mM at er
   rw[hF] at er
   have er:(if ds.length=F.np then (match exs P (call P k) ((ds.map λd=>Sl.sh true d)++List.replicate (F.ns-F.np) Sl.dead) F.body with
    | .ret v=>R.ok (v.d,v.fr,v.pa)
    | .next _=>R.ok (.non,false,false)
    | .exc x _=>R.exc x
    | _=>R.bad) else R.bad)=R.ok res:=er
   have hdl:ds.length=F.np:=by rw[r.length];exact hlen
   rw[if_pos hdl] at er
   refine⟨_,jY (t':=λD σV H'=>Tk K H'->wS _ (λ_=>False) Y (λb=>H b≠none) ((ds.map λd=>Sl.sh true d)++List.replicate (F.ns-F.np) Sl.dead) (exs P (call P k) ((ds.map λd=>Sl.sh true d)++List.replicate (F.ns-F.np) Sl.dead) F.body) D σV H') (sSs (Y:=Y) (old:=λb=>H b≠none) F.body M c9 (λ_=>False) ((ds.map λd=>Sl.sh true d)++List.replicate (F.ns-F.np) Sl.dead)) (λD σV H' tk hw=>⟨(hw tk).1,OE.tkE (hw tk).2⟩),λtk=>⟨?_,?_⟩⟩
   . have e:L2.start t.N vs=vs.map some++List.replicate (F.ns-F.np) none:=by unfold L2.start;rw[hlen,c1]
     rw[e]
     exact vL hY tk (λ_ z=>z.elim) (r.weak λa z=>z.elim False.elim id)
   . have same:∀{H':Hp},Kp (λ_=>False) H H'->aF H H':=λk b o e=>k b o e id
     show OE K (λ_=>False) Y (λb=>H b≠none) H (exs P (call P k) ((ds.map λd=>Sl.sh true d)++List.replicate (F.ns-F.np) Sl.dead) F.body) _
     cases q:exs P (call P k) ((ds.map λd=>Sl.sh true d)++List.replicate (F.ns-F.np) Sl.dead) F.body with
     | next σ'=>
      rw[q] at er
      cases(show R.ok (D.non,false,false)=R.ok res from er)
      exact λRT' σV' H' kp sub S'=>hq .non H' S'.tk (same kp) (show(if false=true then _ else _) from aJh rfl)
     | ret v=>
      rw[q] at er
      cases(show R.ok (v.d,v.fr,v.pa)=R.ok res from er)
      refine λu H' kp tk' rt=>hq u H' tk' (same kp) ?_
      replace rt:Rtv K Y (λb=>H b≠none) H' v u:=rt.resolve_right λ⟨_,_,R2,p,_,_,hsub,hR,ho,_⟩=>(hsub p hR).elim id ho
      unfold Rr
      unfold Rtv at rt
      cases hfr:v.fr with
      | true=>
       rw[hfr,if_pos rfl] at rt
       obtain⟨a,xs,ds',e1,e2,e3,e4,rr⟩:=rt
       exact aMc ⟨a,xs,ds',e1,e2,Classical.not_not.mp e3,e4,rr⟩
      | false=>
       rw[hfr,if_neg bN] at rt
       exact aJh rt
     | brk σ'=>rw[q] at er;cases er
     | cnt σ'=>rw[q] at er;cases er
     | exc e σ'=>rw[q] at er;cases er
     | bad=>rw[q] at er;cases er
 . have hlen:=zI hF h
   obtain⟨hl,cs,ds,p,xs,us,Y,rfl,hY,hp,rc,r,hq⟩:=h
   unfold lR at hl
   rw[hF] at hl
   obtain⟨rest,hb⟩:=aCy (show pZ F.body=true from hl)
   rw[hb] at c9
   have c9:=xT c9
   obtain⟨res,er,hq⟩:=hq.eq
   obtain⟨d,cs',eu,hq⟩:=hq
   have er:mM P (call P k) f (.err 0 cs::ds)=.ok res:=er
   unfold mM at er
   rw[hF] at er
   have er:(if (D.err 0 cs::ds).length=F.np then (match exs P (call P k) (((D.err 0 cs::ds).map λd=>Sl.sh true d)++List.replicate (F.ns-F.np) Sl.dead) F.body with
    | .ret v=>R.ok (v.d,v.fr,v.pa)
    | .next _=>R.ok (.non,false,false)
    | .exc x _=>R.exc x
    | _=>R.bad) else R.bad)=R.ok res:=er
   have hdl:(D.err 0 cs::ds).length=F.np:=by rw[lC,r.length,<-lC (a:=V.ref p)];exact hlen
   rw[if_pos hdl,hb] at er
   have er:(match exs P (call P k) ((((D.err 0 cs::ds).map λd=>Sl.sh true d)++List.replicate (F.ns-F.np) Sl.dead).set 0 (.lent cs)) rest with
    | .ret v=>R.ok (v.d,v.fr,v.pa)
    | .next _=>R.ok (.non,false,false)
    | .exc x _=>R.exc x
    | _=>R.bad)=R.ok res:=er
   have S0:Tk K H->Sx K (λb=>b=p) Y (λb=>H b≠none) ((((D.err 0 cs::ds).map λd=>Sl.sh true d)++List.replicate (F.ns-F.np) Sl.dead).set 0 (.lent cs)) (((V.ref p::us).map some)++List.replicate (F.ns-F.np) none) H:=λtk=>aED hY tk hp rc r
   revert er S0
   generalize (((D.err 0 cs::ds).map λd=>Sl.sh true d)++List.replicate (F.ns-F.np) Sl.dead).set 0 (.lent cs)=σ0
   intro er S0
   refine⟨_,jY (t':=λD σV H'=>Tk K H'->wS _ (λb=>b=p) Y (λb=>H b≠none) σ0 (exs P (call P k) σ0 rest) D σV H') (sSs (Y:=Y) (old:=λb=>H b≠none) rest M c9 (λb=>b=p) σ0) (λD σV H' tk hw=>⟨(hw tk).1,OE.tkE (hw tk).2⟩),λtk=>⟨?_,?_⟩⟩
   . have e:L2.start t.N (V.ref p::us)=(V.ref p::us).map some++List.replicate (F.ns-F.np) none:=by unfold L2.start;rw[hlen,c1]
     rw[e]
     exact S0 tk
   . show OE K (λb=>b=p) Y (λb=>H b≠none) H (exs P (call P k) σ0 rest) _
     cases q:exs P (call P k) σ0 rest with
     | next σ'=>
      rw[q] at er
      cases(show R.ok (D.non,false,false)=R.ok res from er)
      cases eu
     | ret v=>
      rw[q] at er
      cases(show R.ok (v.d,v.fr,v.pa)=R.ok res from er)
      have eu:=aEE eu
      intro u H' kp tk' rt
      rcases rt with rt|⟨d2,cs2,R2,p2,xs2,e2,hsub,hR,ho,hx,rr,hv⟩
      . exfalso
        unfold Rtv at rt
        cases hfr:v.fr with
        | true=>
         rw[hfr,if_pos rfl] at rt
         obtain⟨_,_,_,_,e3,_⟩:=rt
         rw[show v.d=_ from eu] at e3
         cases e3
        | false=>
         rw[hfr,if_neg bN,show v.d=_ from eu] at rt
         obtain⟨_,_,_,_,x1,r1,_,_,x2,r2,_,z,_⟩:=rt
         exact z
      . rw[show v.d=_ from eu] at e2
        cases e2
        have hpp:p2=p:=(hsub p2 hR).resolve_right ho
        subst hpp
        refine hq u H' R2 xs2 tk' kp hR hsub hx rr ?_
        show(if v.fr=true then _ else _)
        by_cases hfr:v.fr=true
        . rw[if_pos hfr] at hv ⊢
          obtain⟨a,ys,es,v1,v2,v3,v4,v5,v6⟩:=hv
          exact⟨a,ys,es,v1,v2,Classical.not_not.mp v3,v4,v5,v6⟩
        . rw[if_neg hfr] at hv ⊢
          exact hv
     | brk σ'=>rw[q] at er;cases er
     | cnt σ'=>rw[q] at er;cases er
     | exc e σ'=>rw[q] at er;cases er
     | bad=>rw[q] at er;cases er
theorem aCz(T:Top prog w K mg P Γ txs):∀(k f:Nat) (x:Str),Γ.fns[f]? = some x->∃fa fd ps,mg x=some (.ref fa)/\PySem.W.keepIn K (.ref fa)=true/\iL K fd ps []/\mI prog w K mg base CX0 k fa fd ps (spA K P k f)
 | 0,f,x,hf=>by
  obtain⟨t,ht,rfl⟩:=T.fns f x hf
  obtain⟨fa,fd,h1,h2,h3⟩:=T.fn f t ht
  obtain⟨F,hF,_⟩:=fP T.chk ht
  have no:∀vs H Q E,¬ spA K P 0 f vs H Q E:=λvs H Q E h=>by
   rcases h with⟨ds,Y,_,r,hr⟩|⟨_,_,_,_,_,_,_,_,_,_,_,_,hr⟩
   . exact hr
   . exact hr
  exact⟨fa,fd,_,h1,h2.kp,h3 F hF,λvs H Q E h=>absurd h (no vs H Q E),λA outer s H args us vs Q E _ _ _ _ h=>absurd h (no vs H Q E)⟩
 | k+1,f,x,hf=>by
  obtain⟨t,ht,rfl⟩:=T.fns f x hf
  obtain⟨fa,fd,h1,h2,h3⟩:=T.fn f t ht
  obtain⟨F,hF,hc⟩:=fP T.chk ht
  exact⟨fa,fd,_,h1,h2.kp,h3 F hF,zJ (λf x hf=>aCz T k f x hf) T.blt T.cns T.tab h2 hF hc⟩
theorem aHY(T:Top prog w K mg P Γ txs){f:Nat}{t:Tx}{F:Fn}{fa:Addr}{fd:FuncData}(ht:txs[f]? = some t)(hF:P.fns[f]? = some F)(h2:Fun K t.x t.qual t.st fa fd)(k:Nat):mI prog w K mg base CX0 (k+1) fa fd (t.N.take F.np) (spF K P (k+1) f):=by
 obtain⟨F',hF',hc⟩:=fP T.chk ht
 rw[hF] at hF'
 cases hF'
 have h:=zJ (aCz (base:=base) T k) T.blt T.cns T.tab h2 hF hc
 exact⟨λvs H Q E q=>h.1 vs H Q E (.inl q),λA outer s H args us vs Q E a b c d q=>h.2 A outer s H args us vs Q E a b c d (.inl q)⟩
theorem aHZ{k f:Nat}{K:Fg}{H:Hp}{a:Addr}{ns:List Int}(hO:aDU H)(hS:SqL K H a (ns.map V.int))(h:∃fr pa,call P k f [.lst (ns.map D.int)]=.ok (.bl true,fr,pa)) :
 spF K P k f [.ref a] H (λv _=>v=.bl true) λ_ _ _=>False:=by
 obtain⟨fr,pa,e⟩:=h
 have ri:∀(ns:List Int),Reps K H (λ_=>False) (ns.map D.int) (ns.map V.int):=by
  intro ns
  induction ns with
  | nil=>exact .nil
  | cons i ns ih=>exact .cons rfl ih
 refine⟨[.lst (ns.map D.int)],λ_=>False,λ_ z=>z.elim,.cons ⟨a,_,rfl,hS,id,ri ns⟩ .nil,?_⟩
 rw[e]
 intro u H' _ _ rr
 unfold Rr at rr
 cases fr with
 | true=>
  rw[if_pos rfl] at rr
  obtain⟨_,_,_,_,e2,_⟩:=rr
  cases e2
 | false=>
  rw[if_neg bN] at rr
  exact rr
end
end Hp
end
noncomputable section
namespace Hp
open PySem PySem.Spec PyProof.Rows L2
def ER(w:World)(K:Fg)(e:DictEntry)(p:Str×D):Prop:=e.hash=hashStr w p.1/\(∃tk,e.key=.str p.1 tk)/\∃v,aW v e.val/\∀(H:Hp) (ex:Addr->Prop),Rep K H ex p.2 v
theorem qO{K:Fg}{H:Hp}{ex:Addr->Prop}:∀xs:List Str,Reps K H ex (xs.map D.str) (xs.map V.str)
 | []=>rfl
 | x::xs=>⟨.str x,xs.map V.str,rfl,rfl,qO xs⟩
theorem aCA{K:Fg}{b:Addr}{od:Option Addr}{its:Array Value}{n:Nat}{sl:Array (Option Value)}(h:K.lookup b=some ⟨.type "tuple",od,.seq its n,sl⟩)(xs:List Str)(hz:its.size<=1000)(hv:aM (xs.map V.str) its.toList) :
 ∀(H:Hp) (ex:Addr->Prop),Rep K H ex (.tup (xs.map D.str)) (.ref b):=λH ex=>
 ⟨b,xs.map V.str,rfl,.inr ⟨_,its,n,h,rfl,rfl,Av hz (by rw[Be];decide),hv⟩,qO xs⟩
theorem aCB{prog:Program}{w:World}{K:Fg}:∀{es:List DictEntry} {t:List (Str×D)},Paired (ER w K) es t->∃vs:List (Key×Value),(∀e∈es,∃k:Key,(bS prog w).is k e.key=true/\e.hash=(bS prog w).hash k) /\
 Pairs (bS prog w) es vs/\vs.map (·.1)=t.map (λp=>(Sum.inr p.1:Key)) /\
 ∀k:Str,(t.lookup k=none/\valueAt vs (Sum.inr k:Key)=none)\/∃d u v,t.lookup k=some d/\valueAt vs (Sum.inr k:Key)=some u/\aW v u/\∀(H:Hp) (ex:Addr->Prop),Rep K H ex d v
 | _,_,.nil=>⟨[],λe he=>absurd he (by simp),.nil,rfl,λk=>.inl ⟨rfl,rfl⟩⟩
 | e::es,p::t,.cons ⟨h1,⟨tk,h2⟩,v,h3,h4⟩ r=>by
  obtain⟨vs,g1,g2,g3,g4⟩:=aCB (prog:=prog) r
  have hk:jJ (Sum.inr p.1:Key) e.key=true:=by rw[h2];exact pP p.1 tk
  refine⟨(Sum.inr p.1,e.val)::vs,λe' he=>?_,.cons hk rfl g2,by rw[mC,mC,g3],λk=>?_⟩
  . rcases Al.mp he with rfl|he
    . exact⟨Sum.inr p.1,hk,h1⟩
    . exact g1 e' he
  . by_cases hkp:k=p.1
    . subst hkp
      refine .inr ⟨p.2,e.val,v,?_,?_,h3,h4⟩
      . obtain⟨a,b⟩:=p
        simp[List.lookup]
      . simp[valueAt]
    . have n1:(p::t).lookup k=t.lookup k:=by
       obtain⟨a,b⟩:=p
       have:(k==a)=false:=A1.mpr hkp
       simp[List.lookup,this]
      have n2:valueAt ((Sum.inr p.1,e.val)::vs) (Sum.inr k:Key)=valueAt vs (Sum.inr k:Key):=by
       unfold valueAt
       have:decide ((Sum.inr p.1:Key)=Sum.inr k)=false:=Aw λz=>hkp (Sum.inr.inj z).symm
       rw[List.find?_cons]
       simp only[this]
      rw[n1,n2]
      exact g4 k
theorem aIa{prog:Program}{w:World}{K:Fg}{a:Addr}{es:Array DictEntry}{ep:Nat}{t:List (Str×D)}(hs:(a==sysModules)=false)(h:K.lookup a=some ⟨.type "dict",none,.dict es ep,#[]⟩)(hp:Paired (ER w K) es.toList t)(hn:(t.map (·.1)).Nodup):qB prog w K a t:=by
 obtain⟨vs,g1,g2,g3,g4⟩:=aCB (prog:=prog) hp
 refine⟨hs,vs,λhh X=>⟨_,es,ep,X a _ h,⟨rfl,rfl,rfl⟩,rfl,λe he=>g1 e (by simpa using he),g2,?_⟩,g4⟩
 rw[g3]
 have e:t.map (λp=>(Sum.inr p.1:Key))=(t.map (·.1)).map Sum.inr:=by rw[Bv];rfl
 rw[e]
 unfold List.Nodup at hn ⊢
 rw[List.pairwise_map]
 exact hn.imp λhne z=>hne (Sum.inr.inj z)
end Hp
end
noncomputable section
namespace Hh
open PySem PySem.W PySem.Calls PyProof.Rows
def go(st:SharedT->Thread->Option (SharedT×Thread))(ok:Thread->Bool)(n:Nat):SharedT->Thread->Option SharedT:=
 @Nat.rec (λ_=>SharedT->Thread->Option SharedT) (λ_ _=>none) (λ_ ih s t=>match through t with
  | true=>some s
  | false=>match ok t with
   | false=>none
   | true=>match st s t with
    | some (s',t')=>ih s' t'
    | none=>none) n
theorem nK{tb:String->Option Builtin}{p:Program}{w:World}{n₀:Nat}{ann:Option Value}:∀(n:Nat) (s s':SharedT) (t:Thread),go (stepT (denote tb) p w) (stepOk n₀ ann) n s t=some s'->topRun tb p w n₀ ann n s.abs t=some s'.abs
 | 0,_,_,_,h=>by cases h
 | n+1,s,s',t,h=>by
  have h:(match through t with
   | true=>some s
   | false=>match stepOk n₀ ann t with
    | false=>none
    | true=>match stepT (denote tb) p w s t with
     | some (s',t')=>go (stepT (denote tb) p w) (stepOk n₀ ann) n s' t'
     | none=>none)=some s':=h
  unfold topRun
  cases ht:through t with
  | true=>rw[ht] at h;cases h;rfl
  | false=>
   rw[ht] at h
   cases hk:stepOk n₀ ann t with
   | false=>rw[hk] at h;cases h
   | true=>
    rw[hk] at h
    cases hs:stepT (denote tb) p w s t with
    | none=>rw[hs] at h;cases h
    | some r=>obtain⟨s₂,t₂⟩:=r;rw[hs] at h;rw[stepT_spec hs];exact nK n _ _ _ h
def bt(l:List Obj)(n:Nat):Nat->Nat->BT:=
 @Nat.rec (λ_=>Nat->Nat->BT) (λ_ _=>.nil) (λ_ ih a b=>match l[b]? with
  | some o=>.node o (ih (2*a) (a+b)) (ih (2*a) (2*a+b))
  | none=>.nil) n
end Hh
namespace Hh
open PySem PySem.W PySem.Calls PyProof.Rows
def aCC{α:Type}(p q:Program)(loose:List Str)(Xt:Shared->Bool)(Yf:Shared->α)(h0:Heap)(s:Shared):=
 ((staticsOk (importedModules p.main.body) h0 s.heap&&namesBound p s.heap&&gensDone s&&laidKept h0 s.heap),openSeen q loose (importedModules p.main.body) Xt true s,Yf s)
theorem aEF{p q:Program}{loose:List Str}{Xt:Shared->Bool}{α:Type}{Yf:Shared->α}{Ya:World->α}{N m₀:Nat}{ann:Option Value}{T₀:Params->BT}{l₀:Life}(e:opening p=plainProg p.main.scope.names)(hN:Nat.ble 600 N=true)(f:∀s,fenceModules? p s=some s)
 (hb:∀P,absHeap (T₀ P) m₀ l₀=boot_heap P) (hz:∀P:Params,((boot_heap P).isNs mainGlobals,(boot_heap P).objs.size,(boot_heap P).nsMap mainGlobals "__annotations__")=(true,m₀,ann))
 (h:∀(w:World) (os:OsState),(go (stepT (denote treeTable) p w) (stepOk m₀ ann) N ⟨T₀ w.params,m₀,l₀,Array.mk [],boot_drawn,boot_toks,os⟩ (topStub p)).map (λs=>aCC p q loose Xt Yf (boot_heap w.params) s.abs)=some (true,openGood q loose,Ya w)):LeftO p q loose Xt Yf Ya N:=λw=>by
 obtain⟨⟨hh,gs,d,k,os⟩,e1,e2⟩:=Bm.mp (boot_open e hN f w)
 simp only[Prod.mk.injEq] at e2
 obtain⟨rfl,rfl,rfl,rfl⟩:=e2
 obtain⟨s,g1,g2⟩:=Bm.mp (h w os)
 have r:=nK N _ _ _ g1
 have r:topRun treeTable p w m₀ ann N ⟨boot_heap w.params,Array.mk [],boot_drawn,boot_toks,os⟩ (topStub p)=some s.abs:=by
  rw[<-hb];exact r
 have z:=hz w.params
 simp only[Prod.mk.injEq] at z
 obtain⟨z1,z2,z3⟩:=z
 unfold aCC at g2
 simp only[Prod.mk.injEq] at g2
 obtain⟨l1,l2,l3⟩:=g2
 have t:topFrom treeTable p w N ⟨boot_heap w.params,Array.mk [],boot_drawn,boot_toks,os⟩=some s.abs:=by
  unfold topFrom
  dsimp only
  rw[z1,z2,z3,r]
  show(match staticsOk (importedModules p.main.body) (boot_heap w.params) s.abs.heap&&namesBound p s.abs.heap&&gensDone s.abs&&laidKept (boot_heap w.params) s.abs.heap with|true=>_|false=>_)=_
  rw[l1]
 unfold openEnds
 rw[e1]
 show(topFrom treeTable p w N _).map _=_
 rw[t]
 exact congrArg some (Prod.ext l2 l3)
def T0(P:Params):BT:=bt (boot_heap P).objs.toList 5 1 0
theorem aIb:∀P,absHeap (T0 P) 11 {}=boot_heap P:=λP=>by kernel_rfl
theorem aEG:∀P:Params,((boot_heap P).isNs mainGlobals,(boot_heap P).objs.size,(boot_heap P).nsMap mainGlobals "__annotations__")=(true,11,some (.ref 6)):=λP=>by kernel_rfl
abbrev aKS:=@PySem.W.Fast.tw10156331382660048174
abbrev qOk:=@PySem.W.Fast.tw6613529449190102663
abbrev aME:=@PySem.W.Fast.tw11892475500146522536
abbrev aMF:=@PySem.W.Fast.tw14364793385576792824
abbrev aKT:=@PySem.W.Fast.tw4187177175401517315
abbrev aKU:=@PySem.W.Fast.tw5923862056798008813
def aKV{α:Type}(p q:Program)(loose:List Str)(Yf:Shared->α)(N:Nat)(w:World)(os:OsState):=
 (go (aKS (aME aMF) p w) (qOk 11 (some (.ref 6))) N ⟨T0 w.params,11,{},Array.mk [],boot_drawn,boot_toks,os⟩ (topStub p)).map λs=>
  ((staticsOk (aKU p.main.body) (boot_heap w.params) s.abs.heap&&namesBound p s.abs.heap&&gensDone s.abs&&laidKept (boot_heap w.params) s.abs.heap),aKT q loose (aKU p.main.body) (λ_=>true) true s.abs,Yf s.abs)
theorem aIc{p q:Program}{loose:List Str}{α:Type}{Yf:Shared->α}{Ya:World->α}{N:Nat}(e:opening p=plainProg p.main.scope.names)(hN:Nat.ble 600 N=true)(f:∀s,fenceModules? p s=some s)
 (h:∀w os,aKV p q loose Yf N w os=some (true,openGood q loose,Ya w)):LeftO p q loose (λ_=>true) Yf Ya N:=by
 refine aEF e hN f aIb aEG λw os=>?_
 unfold aCC
 rw[PySem.W.Fast.te10156331382660048174,PySem.W.Fast.te6613529449190102663,PySem.W.Fast.te11892475500146522536,PySem.W.Fast.te14364793385576792824,PySem.W.Fast.te4187177175401517315,PySem.W.Fast.te5923862056798008813]
 exact h w os
end Hh
end
noncomputable section
namespace Hh
open PySem PySem.W PySem.Calls PyProof.Rows L2 Hp
def jD(h:Heap):PySem.W.Frag:=(List.range h.objs.size).filterMap λa=>(h.get? a).map λo=>(a,o)
theorem oO{α:Type}(f:Nat->Option α)(a:Nat):∀n,((List.range n).filterMap λi=>(f i).map λo=>(i,o)).lookup a=if a<n then f a else none
 | 0=>rfl
 | n+1=>by
  rw[List.range_succ,Dj,List.lookup_append,oO f a n]
  by_cases h:a<n
  . rw[if_pos h,if_pos (B1 h)]
    cases q:f a with
    | some o=>rfl
    | none=>
     have hne:(a==n)=false:=A1.mpr (Ao h)
     cases q2:f n with
     | none=>simp[q2]
     | some o=>simp[q2,List.lookup,hne]
  . rw[if_neg h]
    by_cases e:a=n
    . subst e
      rw[if_pos (Cg _)]
      cases q:f a with
      | none=>simp[q]
      | some o=>simp[q,List.lookup]
    . rw[if_neg (by omega)]
      have hne:(a==n)=false:=A1.mpr e
      cases q2:f n with
      | none=>simp[q2]
      | some o=>simp[q2,List.lookup,hne]
theorem cL(h:Heap)(a:Addr):(jD h).lookup a=h.get? a:=by
 unfold jD
 rw[oO]
 by_cases q:a<h.objs.size
 . rw[if_pos q]
 . rw[if_neg q]
   cases e:h.get? a with
   | none=>rfl
   | some o=>exact absurd (Aj e) q
theorem zK{h h':Heap}(k:∀b o,h.get? b=some o->h'.get? b=some o):(jD h).In h':=λa o e=>k a o (by rw[<-cL];exact e)
def lJ(h:Heap)(x:Str):Option (Option Value):=match h.get? mainGlobals with
 | some ⟨_,_,.dict es _,_⟩=>(match es.toList.find? (λe=>match e.key with|.str y _=>Fast.sEq y x|_=>false) with
  | some e=>some (some e.val)
  | none=>if es.toList.any (·.refKey) then none else some none)
 | _=>none
theorem aCD(v:Value)(x:Str):v.isStr x=(match v with|.str y _=>Fast.sEq y x|_=>false):=by
 cases v with
 | str y t=>
  show(y==x)=Fast.sEq y x
  rw[Bool.eq_iff_iff,D9,Fast.sEq_iff]
 | _=>rfl
theorem fQ(h:Heap)(x:Str):nsIn (jD h) mainGlobals x=lJ h x:=by
 unfold nsIn lJ
 rw[cL]
 simp only[aCD]
 rfl
def oP(h:Heap)(cd:Value):Option Str:=match cd with
 | .ref c=>(match h.get? c with
  | some ⟨_,_,.fields vs,_⟩=>(match vs.toList with|_::.str n _::_=>some n|_=>none)
  | _=>none)
 | _=>none
theorem aBa{h:Heap}{cd:Value}{q:Str}(e:oP h cd=some q):codeIn (jD h) cd q=true:=by
 unfold oP at e
 unfold codeIn
 split at e
 . rename_i c
   simp only[cL]
   split at e
   . rename_i vs _ ho
     rw[ho]
     split at e
     . rename_i a n t r hv
       cases e
       simp only[hv,C3]
     . cases e
   . cases e
 . cases e
abbrev Pin:=Str×Str×Arguments×FuncBody×Scope×Addr×List (Str×Addr)×Value×Addr×Option Str
def xU(h:Heap)(x:Str):Option Pin:=match lJ h x with
 | some (some (.ref a))=>(match h.get? a with
  | some ⟨_,_,.func fd,_⟩=>some (fd.name,fd.qualname,fd.params,fd.body,fd.scope,fd.globals,fd.closure,fd.defaults,fd.builtins,oP h fd.code)
  | _=>none)
 | _=>none
def cJ(s:Stmt):Str:=match s with
 | .FunctionDef x _ _ _ _ _ _ _ _ _=>x
 | _=>⟨#[]⟩
def aCE(st:Stmt):Pin:=(cJ st,cJ st,iA st,.stmts (iB st),bH st,mainGlobals,[],.none,builtinsNs,some (cJ st))
theorem aEH{h:Heap}{st:Stmt}(e:xU h (cJ st)=some (aCE st)):∃fa fd,nsIn (jD h) mainGlobals (cJ st)=some (some (.ref fa))/\Fun (jD h) (cJ st) (cJ st) st fa fd:=by
 unfold xU at e
 split at e
 . rename_i a hn
   split at e
   . rename_i c d fd sl ho
     obtain⟨n,qn,ps,b,sc,g,cl,df,kd,doc,pm,an,cd,ct,bn⟩:=fd
     unfold aCE at e
     simp only[Cy,Prod.mk.injEq] at e
     obtain⟨rfl,rfl,rfl,rfl,rfl,rfl,rfl,rfl,rfl,hc⟩:=e
     refine⟨a,_,by rw[fQ];exact hn,⟨⟨c,d,kd,doc,pm,an,cd,ct,sl,rfl,by rw[cL];exact ho,aBa hc⟩,?_⟩⟩
     unfold keepIn
     simp only[cL,ho]
   . cases e
 . cases e
theorem vN{α:Type}{x:Str}{u:α}:∀{ps:List Str} {us:List α},ps.Nodup->ps.length=us.length->(x,u)∈ps.zip us->(ps.zip us).lookup x=some u
 | [],_,_,_,h=>by simp at h
 | p::ps,[],_,h,_=>by simp at h
 | p::ps,v::us,hn,hl,h=>by
  rw[Bn] at h ⊢
  obtain⟨h1,h2⟩:=Bu.mp hn
  rcases Al.mp h with h|h
  . cases h;simp[List.lookup]
  . have hx:x∈ps:=(List.of_mem_zip h).1
    have:(x==p)=false:=A1.mpr λz=>h1 (z▸hx)
    simp only[List.lookup,this]
    exact vN h2 (by simpa using hl) h
theorem aCF{α:Type}(L:List (Str×α)):∀{ps:List Str} {us:List α},ps.length=us.length->(∀p∈ps.zip us,L.lookup p.1=some p.2)->(ps.filterMap λn=>(L.lookup n).map (n,·))=ps.zip us
 | [],_,_,_=>by simp
 | p::ps,[],h,_=>by simp at h
 | p::ps,v::us,hl,h=>by
  rw[Bn,Du,h (p,v) (by simp),aCF L (ps:=ps) (us:=us) (by simpa using hl) λq hq=>h q (by rw[Bn];exact Ae _ hq)]
  rfl
theorem aCG{α:Type}(L:List (Str×α)):∀{ps:List Str} {us:List α},ps.length=us.length->(∀p∈ps.zip us,L.lookup p.1=some p.2)->(ps.filter λn=>(L.lookup n).isNone)=[]
 | [],_,_,_=>by simp
 | p::ps,[],h,_=>by simp at h
 | p::ps,v::us,hl,h=>by
  rw[List.filter_cons,h (p,v) (by simp),aCG L (ps:=ps) (us:=us) (by simpa using hl) λq hq=>h q (by rw[Bn];exact Ae _ hq)]
  rfl
def iF(a:Arguments)(ps:List Str):Bool:=match a with
 | ⟨[],as,none,[],[],none,[]⟩=>decide (as.map (·.arg)=ps)&&decide ps.Nodup
 | _=>false
theorem oQ{x q:Str}{a:Arguments}{b:List Stmt}{sc:Scope}{kV doc pm:Value}{an:Option Addr}{cdv ct:Value}{ps:List Str}{us:List Value}(h:iF a ps=true)(hl:us.length=ps.length) :
 bindArgs (fnOf x q a b sc .none kV doc pm an cdv ct) ⟨us,[]⟩=pure (ps.zip us):=by
 unfold iF at h
 split at h
 . rename_i as
   obtain⟨h1,h2⟩:=Bool.and_eq_true_iff.mp h
   have h1:=As h1
   have h2:=As h2
   have z:∀p∈ps.zip us,(ps.zip us).lookup p.1=some p.2:=λp hp=>vN h2 hl.symm hp
   have e1:=aCG (ps.zip us) hl.symm z
   have e2:=aCF (ps.zip us) hl.symm z
   unfold bindArgs
   have e3:∀s:Value,s=.none->(seqItems? s)=pure none:=λs e=>by subst e;rfl
   simp only[mN,List.nil_append,h1,e3,List.forIn_nil,pure_bind,hl,gt_iff_lt,A8,decide_false,Bool.false_and,Option.getD_none,lN,Nat.zero_sub,List.drop_nil,Nat.sub_zero,Cf,e1,List.isEmpty_nil,D4,List.drop_length,List.zip_nil_right,Bt,e2,if_false,bF]
 . cases h
def vO(s:Stmt):Bool:=match s with
 | .FunctionDef _ _ _ _ _ _ _ _ _ _=>true
 | _=>false
def aCH:D->Value->Bool
 | .int i,.int j _=>decide (i=j)
 | .str a,.str b _=>Fast.sEq a b
 | .non,.none=>true
 | .bl a,.bool b=>a==b
 | _,_=>false
def xV(h:Heap)(c:Str×D):Bool:=match lJ h c.1 with
 | some (some u)=>aCH c.2 u
 | _=>false
def kF:Value->Option Str
 | .str x _=>some x
 | _=>none
abbrev aCI:=Int×Option Str×Option (Value×List (Option Str))
def mY(h:Heap)(e:DictEntry):aCI:=(e.hash,kF e.key,match e.val with
 | .ref b=>(match h.get? b with
  | some ⟨c,_,.seq its _,_⟩=>some (c,its.toList.map kF)
  | _=>none)
 | _=>none)
def sL(h:Heap)(x:Str):Option (Bool×Value×Option Addr×Array (Option Value)×List aCI):=match lJ h x with
 | some (some (.ref a))=>(match h.get? a with
  | some ⟨c,d,.dict es _,sl⟩=>some (a==sysModules,c,d,sl,es.toList.map (mY h))
  | _=>none)
 | _=>none
def sM(w:World)(p:Str×List Str):aCI:=(hashStr w p.1,some p.1,some (.type "tuple",p.2.map some))
def xW(w:World)(t:List (Str×List Str)):Option (Bool×Value×Option Addr×Array (Option Value)×List aCI):=some (false,.type "dict",none,#[],t.map (sM w))
def aBb(t:List (Str×List Str)):List (Str×D):=t.map λp=>(p.1,.tup (p.2.map D.str))
theorem zL:∀{us:List Value} {xs:List Str},us.map kF=xs.map some->aM (xs.map V.str) us
 | [],[],_=>.nil
 | [],_::_,h=>by cases h
 | _::_,[],h=>by cases h
 | u::us,x::xs,h=>by
  rw[mC,mC] at h
  obtain⟨h1,h2⟩:=List.cons.inj h
  refine .cons ?_ (zL h2)
  unfold kF at h1
  split at h1
  . cases h1;exact⟨_,rfl⟩
  . cases h1
theorem aId{h:Heap}{w:World}{e:DictEntry}{p:Str×List Str}(q:mY h e=sM w p)(hl:p.2.length<=1000):ER w (jD h) e (p.1,.tup (p.2.map D.str)):=by
 unfold mY sM at q
 simp only[Prod.mk.injEq] at q
 obtain⟨q1,q2,q3⟩:=q
 refine⟨q1,?_,?_⟩
 . unfold kF at q2
   split at q2
   . rename_i y tk he
     exact⟨tk,by rw[he];exact congrArg (λz=>Value.str z tk) (Ai q2)⟩
   . cases q2
 . split at q3
   . rename_i b he
     split at q3
     . rename_i c d its n sl ho
       have q3:=Ai q3
       simp only[Prod.mk.injEq] at q3
       obtain⟨e1,e2⟩:=q3
       subst e1
       have hz:=congrArg List.length e2
       rw[lM,lM] at hz
       exact⟨.ref b,by rw[he];rfl,aCA (by rw[cL];exact ho) p.2 (by rw[<-A7,hz];exact hl) (zL e2)⟩
     . cases q3
   . cases q3
theorem qP{h:Heap}{w:World}:∀{es:List DictEntry} {t:List (Str×List Str)},es.map (mY h)=t.map (sM w)->(∀p∈t,p.2.length<=1000)->Paired (ER w (jD h)) es (aBb t)
 | [],[],_,_=>.nil
 | [],_::_,q,_=>by cases q
 | _::_,[],q,_=>by cases q
 | e::es,p::t,q,hl=>by
  rw[mC,mC] at q
  obtain⟨h1,h2⟩:=List.cons.inj q
  exact .cons (aId h1 (hl p (Ak ..))) (qP h2 λp' hp=>hl p' (Ae _ hp))
def zM(t:List (Str×List Str)):Bool:=(t.all λp=>decide (p.2.length<=1000))&&decide (t.map (·.1)).Nodup
theorem aCJ{prog:Program}{h:Heap}{w:World}{x:Str}{t:List (Str×List Str)}(e:sL h x=xW w t)(ok:zM t=true):∃a,nsIn (jD h) mainGlobals x=some (some (.ref a))/\qB prog w (jD h) a (aBb t):=by
 unfold zM at ok
 rw[bA,Bx] at ok
 unfold sL xW at e
 split at e
 . rename_i a hn
   split at e
   . rename_i c d es ep sl ho
     have e:=Ai e
     simp only[Prod.mk.injEq] at e
     obtain⟨e1,rfl,rfl,rfl,e5⟩:=e
     refine⟨a,(fQ h x).trans hn,aIa e1 (by rw[cL];exact ho) (qP e5 λp hp=>As (ok.1 p hp)) ?_⟩
     unfold aBb
     rw[Bv]
     exact As ok.2
   . cases e
 . cases e
structure Sn where
 cns:List (Str×D)
 tbs:List (Str×List (Str×List Str))
abbrev aFB:=List (Option Pin)×List (Option (Option Value))×Bool×List (Option (Bool×Value×Option Addr×Array (Option Value)×List aCI))
def iG(p:Program)(n:Sn)(h:Heap):aFB:=
 ((p.main.body.filter vO).map (λst=>xU h (cJ st)),bltNames.map (lJ h),n.cns.all (xV h),n.tbs.map (λq=>sL h q.1))
def lK(p:Program)(n:Sn)(w:World):aFB:=
 ((p.main.body.filter vO).map (λst=>some (aCE st)),bltNames.map (λ_=>some none),true,n.tbs.map (λq=>xW w q.2))
def vP(p:Program)(i:Nat):Stmt:=p.main.body.getD i (.Pass ⟨0,0,0,0⟩)
def mS(p:Program)(c:Nat×List Str):Tx:=⟨cJ (vP p c.1),cJ (vP p c.1),vP p c.1,c.2⟩
theorem aIe{p:Program}{i:Nat}(h:vO (vP p i)=true):vP p i∈p.main.body:=by
 unfold vP at h ⊢
 rw[Ca] at h ⊢
 cases e:p.main.body[i]? with
 | none=>rw[e] at h;cases h
 | some s=>exact mG e
theorem aEI{h:Heap}{c:Str×D}(e:xV h c=true):∃u v,nsIn (jD h) mainGlobals c.1=some (some u)/\aW v u/\∀H ex,Rep (jD h) H ex c.2 v:=by
 unfold xV at e
 split at e
 . rename_i u hn
   obtain⟨x,d⟩:=c
   have e:aCH d u=true:=e
   unfold aCH at e
   split at e
   . cases As e;exact⟨_,.int _,(fQ _ _).trans hn,⟨_,rfl⟩,λ_ _=>rfl⟩
   . cases Fast.sEq_iff.mp e;exact⟨_,.str _,(fQ _ _).trans hn,⟨_,rfl⟩,λ_ _=>rfl⟩
   . exact⟨_,.non,(fQ _ _).trans hn,rfl,λ_ _=>rfl⟩
   . cases eq_of_beq e;exact⟨_,.bl _,(fQ _ _).trans hn,rfl,λ_ _=>rfl⟩
   . cases e
 . cases e
theorem aIf{prog p:Program}{w:World}{h0 h:Heap}{mg:Str->Option Value}{P:Pg}{Γ:Ct}{ix:List (Nat×List Str)}{n:Sn}(S:iG p n h0=lK p n w)(k:∀b o,h0.get? b=some o->h.get? b=some o)(G:h.Ns mainGlobals mg)
 (hi:(ix.all λc=>vO (vP p c.1))=true) (h1:Γ.fns=(ix.map (mS p)).map (·.x)) (h2:Γ.cns=n.cns) (h3:Γ.tbs=n.tbs.map (·.1)) (h4:P.tabs=n.tbs.map λq=>aBb q.2) (h5:(n.tbs.all λq=>zM q.2)=true)
 (hb:((P.fns.zip (ix.map (mS p))).all λq=>iF (iA q.2.st) (q.2.N.take q.1.np))=true) (chk:gP Γ P.fns (ix.map (mS p))=true) :
 Top prog w (jD h0) mg P Γ (ix.map (mS p)):=by
 unfold iG lK at S
 simp only[Prod.mk.injEq] at S
 obtain⟨s1,s2,s3,s4⟩:=S
 have X:=zK k
 exact {
  fn:=λf t ht=>by
   rw[Ax] at ht
   obtain⟨c,hc,rfl⟩:=Bm.mp ht
   have hd:=Bx.mp hi c (mG hc)
   obtain⟨fa,fd,g1,g2⟩:=aEH (El.mp s1 _ (Cu.mpr ⟨aIe hd,hd⟩))
   refine⟨fa,fd,mg_of X G g1,g2,λF hF=>g2.binds λkV doc pm an cdv ct us hl=>oQ (Bx.mp hb (F,mS p c) (mG (i:=f) ?_)) hl⟩
   rw[List.getElem?_zip_eq_some]
   exact⟨hF,by rw[Ax,hc];rfl⟩
  fns:=λf x hx=>by
   rw[h1,Ax] at hx
   obtain⟨t,ht,rfl⟩:=Bm.mp hx
   exact⟨t,ht,rfl⟩
  blt:=λx hx=>mg_none_of X G ((fQ h0 x).trans (El.mp s2 x hx))
  cns:=λx d hx=>by
   rw[h2] at hx
   obtain⟨u,v,g1,g2⟩:=aEI (Bx.mp s3 _ (B0 hx))
   exact⟨u,v,mg_of X G g1,g2⟩
  tab:=λi x hx=>by
   rw[h3,Ax] at hx
   obtain⟨q,hq,rfl⟩:=Bm.mp hx
   have hm:=mG hq
   obtain⟨a,g1,g2⟩:=aCJ (prog:=prog) (El.mp s4 q hm) (Bx.mp h5 q hm)
   exact⟨a,aBb q.2,mg_of X G g1,by rw[h4,Ax,hq];rfl,g2⟩
  chk:=chk }
theorem aCK{l:PySem.W.OpenLaw}{n k:Nat}{q:Program}{loose:List Str}{XP:(Str->Option Value)->Heap->Prop}{YP:World->Heap->Prop}{d:DefRec}{sp:PySem.W.Frag->Sp}{x:Str}(hn:l.most=some n)(hn2:n<=sizeLine)(hdf:d.params.defaults=[])(hr:iT k callerA)
 (F:∀(w:World) (mg:Str->Option Value) (fa:Addr) (h:Heap),YP w h->h.Ns mainGlobals mg->mg d.name=some (.ref fa)->∃K:PySem.W.Frag,K.In h/\∃fd:FuncData,(∀(s:Shared) (u:Value),BindsTo s fd ⟨[u],[]⟩ [(x,u)])/\∀base:Heap,K.In base->base.Ns mainGlobals mg->mI l.prog w K mg base CX0 k fa fd [x] (sp K))
 (hsp:∀(K:PySem.W.Frag) (H:Hp) (a:Addr) (ns:List Int),ns.length<=n->aDU H->SqL K H a (ns.map V.int)->sp K [.ref a] H (λv _=>v=.bl true) λ_ _ _=>False):PySem.W.WalkO q loose XP YP l.row.toRowW d [] (λf vs=>PySem.call f vs):=by
 refine Att.attach_call hn hdf λw s₀ s₁ mg mb fa o pm cd doc a vs ns G Y ho hd hcd hmg hobj hints hlen hg=>?_
 obtain⟨K,KX,fd,hb,hF⟩:=F w mg fa _ Y G.T.g hmg
 exact aBF KX G.T.g G.T.b G.T.builtins G.T.nolimit hg hobj hints (Av hlen hn2) hr hF hb (λH hO hS=>hsp K H a ns hlen hO hS) λ_ _ _ z=>z
def lst(p:Program):Stmt:=p.main.body.getLastD (.Pass ⟨0,0,0,0⟩)
def qQ(p:Program):Program:={ p with main:={ p.main with body:=[lst p] } }
def sN(p:Program):List Str:=(p.main.scope.names.map (·.1)).filter λx=>!(Fast.sEq x (cJ (lst p)))
def aIg(s:Stmt):Pos:=match s with
 | .FunctionDef _ _ _ _ _ _ _ _ _ p=>p
 | _=>⟨0,0,0,0⟩
def jE(p:Program):DefRec:=⟨cJ (lst p),iA (lst p),iB (lst p),bH (lst p),aIg (lst p)⟩
theorem aIh{l:PySem.W.OpenLaw}{P:Pg}{n:Sn}{ix:List (Nat×List Str)}{k f N:Nat}{x:Str}{sl:List Str}(said:l.row.wellSaid=true)(left:LeftO l.prog (qQ l.prog) (sN l.prog) (λ_=>true) (λs=>iG l.prog n s.heap) (λw=>lK l.prog n w) N)
 (hdef:defOf (qQ l.prog) l.name=some (jE l.prog,[])) (hp:l.prog.theDef l.name=some ((jE l.prog).params,(jE l.prog).body,(jE l.prog).scope)) (hk:kwWritten? (jE l.prog).params.kwonlyargs (jE l.prog).params.kw_defaults=some []) (hwr:(!l.writes||([]:WRecords).isEmpty)=true)
 (ok:(chainsOk (qQ l.prog)&&opensWell l.prog&&(frees l.row.toRowW&&l.row.within.isEmpty))=true) (hb:l.prog.bare) (hw:l.row.toRowW.promised) (hn:l.most=some 63) (hdf:(jE l.prog).params.defaults=[])
 (hi:(ix.all λc=>vO (vP l.prog c.1))=true) (hbd:((P.fns.zip (ix.map (mS l.prog))).all λq=>iF (iA q.2.st) (q.2.N.take q.1.np))=true) (chk:gP ⟨[],[],(ix.map (mS l.prog)).map (·.x),n.cns,[],true,n.tbs.map (·.1)⟩ P.fns (ix.map (mS l.prog))=true)
 (h4:P.tabs=n.tbs.map λq=>aBb q.2) (h5:(n.tbs.all λq=>zM q.2)=true) (hr:iT (k+1) callerA) (hx:(ix.map (mS l.prog))[f]? = some ⟨cJ (lst l.prog),cJ (lst l.prog),lst l.prog,x::sl⟩) (hnp:(P.fns[f]?).map (·.np)=some 1)
 (pure:∀ns:List Int,ns.length<=63->∃fr pa,Hp.call P (k+1) f [.lst (ns.map D.int)]=.ok (.bl true,fr,pa)):l.row.Holds:=by
 refine holds_open (XP:=λ_ _=>True) (YP:=λw h=>∃h0,iG l.prog n h0=lK l.prog n w/\∀b o,h0.get? b=some o->h.get? b=some o) left (λw s e=>⟨s.heap,e,λ_ _ z=>z⟩) (λw h h' ⟨h0,e,k⟩ k'=>⟨h0,e,λb o z=>k' b o (k b o z)⟩) (λ_ _=>trivial) (λ_ _ _ _ _=>trivial) hdef hp hk (λ_ _=>recFacts_nil rfl) hwr said ok hb hw ?_
 obtain⟨F,hF,hFn⟩:=Bm.mp hnp
 refine aCK (sp:=λK=>spF K P (k+1) f) (x:=x) hn (by decide) hdf hr (λw mg fa h ⟨h0,e,kk⟩ G hmg=>?_) λK H a ns hl hO hS=>aHZ hO hS (pure ns hl)
 have T:=aIf (prog:=l.prog) (w:=w) (P:=P) (Γ:=⟨[],[],(ix.map (mS l.prog)).map (·.x),n.cns,[],true,n.tbs.map (·.1)⟩) e kk G hi rfl rfl rfl h4 h5 hbd chk
 obtain⟨fa',fd,g1,g2,g3⟩:=T.fn f _ hx
 have e:=hmg.symm.trans g1
 cases e
 have b:=g3 F hF
 refine⟨jD h0,zK kk,fd,λs u=>?_,λbase _ _=>?_⟩
 . obtain⟨oc,od,kV,doc,pm,an,cdv,ct,osl,rfl,lk,hcd⟩:=g2.ex
   refine .of_eq ((oQ (ps:=[x]) ?_ rfl).trans rfl)
   have:=Bx.mp hbd (F,_) (mG (i:=f) (List.getElem?_zip_eq_some.mpr ⟨hF,hx⟩))
   rw[hFn] at this
   exact this
 . have:=aHY (base:=base) T hx hF g2 k
   rw[hFn] at this
   exact this
end Hh
end
noncomputable section
namespace Hp
open PySem (Str Operator CmpOp)
section
variable {P:Pg} {cl:Caller} {σ:Sg}
@[simp] theorem aC {α β:Type} (a:α) (f:α->R β):((R.ok a:R α) >>= f)=f a:=id rfl
@[simp] theorem aCL {α:Type} (x:R α):R.iff true x=x:=id rfl
@[simp] theorem aNw {α:Type} (x:α):R.of (some x)=.ok x:=id rfl
@[simp] theorem aJ {α:Type} (a:α) (f:α->O):O.from σ (.ok a) f=f a:=id rfl
@[simp] theorem aBc (f:Sg->O):(O.next σ).on f=f σ:=id rfl
@[simp] theorem lY (v:Vl) (f:Sg->O):(O.ret v).on f=.ret v:=id rfl
@[simp] theorem cM (d:D):ev P cl σ (.c d)=.ok (.cl d):=id rfl
@[simp] theorem gF (i:Nat):ev P cl σ (.v i)=cA σ i:=id rfl
@[simp] theorem gQ (o:Operator) (a b:E):ev P cl σ (.op o a b)=(ev P cl σ a >>= λx=>ev P cl σ b >>= λy=>opD o x y):=id rfl
@[simp] theorem aMG (a:E):ev P cl σ (.neg a)=(ev P cl σ a >>= λx=>match x.d with|.int i=>.ok (.cl (.int (-i)))|_=>.bad):=id rfl
@[simp] theorem aKW (a:E):ev P cl σ (.nt a)=(ev P cl σ a >>= λx=>dN x >>= λk=>.ok (.cl (.bl (!k)))):=id rfl
@[simp] theorem aKX (a b:E):ev P cl σ (.an a b)=(ev P cl σ a >>= λx=>match x.d with|.bl true=>ev P cl σ b|.bl false=>.ok (.cl (.bl false))|_=>.bad):=id rfl
@[simp] theorem aIi (a b:E):ev P cl σ (.orr a b)=(ev P cl σ a >>= λx=>match x.d with|.bl true=>.ok (.cl (.bl true))|.bl false=>ev P cl σ b|_=>.bad):=id rfl
@[simp] theorem aIj (t a b:E):ev P cl σ (.ife t a b)=(tst P cl σ t >>= λx=>if x then ev P cl σ a else ev P cl σ b):=id rfl
@[simp] theorem aIk (o:CmpOp) (a b:E):ev P cl σ (.cmp o a b)=(ev P cl σ a >>= λx=>ev P cl σ b >>= λy=>match bG o x.d y.d with|some k=>.ok (.cl (.bl k))|none=>.bad):=id rfl
@[simp] theorem aLv (o o':CmpOp) (a b c:E):ev P cl σ (.cmp2 o o' a b c)=(ev P cl σ a >>= λx=>ev P cl σ b >>= λy=>match bG o x.d y.d with
 | some true=>ev P cl σ c >>= λz=>(match bG o' y.d z.d with|some k=>.ok (.cl (.bl k))|none=>.bad)
 | some false=>.ok (.cl (.bl false))
 | none=>.bad):=id rfl
@[simp] theorem eR (a b:E):ev P cl σ (.idx a b)=(ev P cl σ a >>= λx=>ev P cl σ b >>= λy=>bT x y):=id rfl
@[simp] theorem aMH (es:Es):ev P cl σ (.tup es)=(evs P cl σ es >>= λvs=>.ok (pY vs)):=id rfl
@[simp] theorem oR (es:Es):ev P cl σ (.lst es)=(evs P cl σ es >>= λvs=>.ok (nQ vs)):=id rfl
@[simp] theorem mZ (f:Nat) (es:Es):ev P cl σ (.call f es)=(evs P cl σ es >>= λvs=>cl f (vs.map (·.d)) >>= λr=>.ok (eS vs r)):=id rfl
@[simp] theorem mB (b:Bi) (es:Es):ev P cl σ (.bi b es)=(evs P cl σ es >>= λvs=>biD b vs):=id rfl
@[simp] theorem aMI (m:Mt) (o:E) (es:Es):ev P cl σ (.mth m o es)=(ev P cl σ o >>= λx=>evs P cl σ es >>= λys=>mtD m x ys):=id rfl
@[simp] theorem aMJ (a:E) (cs:List Cl):ev P cl σ (.isi a cs)=(ev P cl σ a >>= λx=>match isI cs P x.d with|some k=>.ok (.cl (.bl k))|none=>.bad):=id rfl
@[simp] theorem aLw (a:E) (h:E):ev P cl σ (.sli a .nil (.cons h .nil))=(ev P cl σ a >>= λx=>ev P cl σ h >>= λh=>match h.d with|.int h=>.iff (aI h) (eC x none (some h))|_=>.bad):=by
 show(ev P cl σ a >>= λx=>evs P cl σ .nil >>= λl=>evs P cl σ (.cons h .nil) >>= λh=>_)=_
 cases ev P cl σ a with
 | ok x=>
  show(evs P cl σ (.cons h .nil) >>= λh=>_)=(ev P cl σ h >>= λh=>_)
  show((ev P cl σ h >>= λx=>evs P cl σ .nil >>= λxs=>R.ok (x::xs)) >>= λh=>_)=_
  cases ev P cl σ h <;> rfl
 | exc e=>rfl
 | bad=>rfl
theorem sO(k:Nat)(caps:List Nat)(t:T)(it:It)(cond:Es)(elt:E):ev P cl σ (.comp k caps t it cond elt)=(walk P cl σ it >>= λxs=>
 dC (λx=>bC (List.replicate k .dead++caps.map λi=>((freeze σ xs.2)[i]?).getD .dead) x t >>= λσ1=>tsts P cl σ1 cond >>= λk=>if k then (ev P cl σ1 elt >>= λy=>.ok (some y)) else .ok none) xs.1 >>= λvs=>
 .iff (decide (vs.length<=lim)) (.ok (iN k caps xs.2 vs))):=rfl
@[simp] theorem aIE (a:E):ev P cl σ (.numset a)=(ev P cl σ a >>= λx=>match x.d with
 | .lst ds=>(match rN ds with|some ks=>.iff (decide (ds.length<=1000)) (.ok (.cl (.int (aBH ks).length)))|none=>.bad)
 | _=>.bad):=id rfl
@[simp] theorem bI:evs P cl σ .nil=.ok []:=id rfl
@[simp] theorem aO (e:E) (es:Es):evs P cl σ (.cons e es)=(ev P cl σ e >>= λx=>evs P cl σ es >>= λxs=>.ok (x::xs)):=id rfl
@[simp] theorem oT (a:E):tst P cl σ (.nt a)=(tst P cl σ a >>= λx=>.ok (!x)):=id rfl
@[simp] theorem aMK (a b:E):tst P cl σ (.an a b)=(tst P cl σ a >>= λx=>if x then tst P cl σ b else .ok false):=id rfl
@[simp] theorem zN (a b:E):tst P cl σ (.orr a b)=(tst P cl σ a >>= λx=>if x then .ok true else tst P cl σ b):=id rfl
@[simp] theorem aNs (d:D):tst P cl σ (.c d)=dN (.cl d):=id rfl
@[simp] theorem aNt (i:Nat):tst P cl σ (.v i)=(cA σ i >>= λx=>dN x):=id rfl
@[simp] theorem fR (o:CmpOp) (a b:E):tst P cl σ (.cmp o a b)=(ev P cl σ a >>= λx=>ev P cl σ b >>= λy=>match bG o x.d y.d with|some k=>.ok k|none=>.bad):=id rfl
@[simp] theorem aCM (o o':CmpOp) (a b c:E):tst P cl σ (.cmp2 o o' a b c)=(ev P cl σ a >>= λx=>ev P cl σ b >>= λy=>match bG o x.d y.d with
 | some true=>ev P cl σ c >>= λz=>(match bG o' y.d z.d with|some k=>.ok k|none=>.bad)
 | some false=>.ok false
 | none=>.bad):=id rfl
@[simp] theorem kG (f:Nat) (es:Es):tst P cl σ (.call f es)=(evs P cl σ es >>= λvs=>cl f (vs.map (·.d)) >>= λr=>dN (eS vs r)):=id rfl
@[simp] theorem aLx (a:E) (cs:List Cl):tst P cl σ (.isi a cs)=(ev P cl σ a >>= λx=>match isI cs P x.d with|some k=>.ok k|none=>.bad):=id rfl
@[simp] theorem aLy (a b:E):tst P cl σ (.idx a b)=(ev P cl σ a >>= λx=>ev P cl σ b >>= λy=>bT x y >>= λz=>dN z):=id rfl
@[simp] theorem aKY:tsts P cl σ .nil=.ok true:=id rfl
@[simp] theorem aBd (e:E) (es:Es):tsts P cl σ (.cons e es)=(tst P cl σ e >>= λx=>if x then tsts P cl σ es else .ok false):=id rfl
@[simp] theorem vQ (a b:E):walk P cl σ (.rng a b)=(ev P cl σ a >>= λx=>ev P cl σ b >>= λy=>match x.d,y.d with|.int i,.int j=>.iff (aI i&&aI j) (.ok ((cD i j).map .cl,[]))|_,_=>.bad):=id rfl
@[simp] theorem eY (e:E):walk P cl σ (.seq e)=(ev P cl σ e >>= λx=>match x.d with
 | .lst ds=>.ok (items x ds,x.al)
 | .tup ds=>.ok (items x ds,x.al)
 | .str a=>.iff (decide (a.length<=lim)) (.ok (a.cps.toList.map λn=>.cl (.str ⟨#[n]⟩),[]))
 | _=>.bad):=id rfl
@[simp] theorem aKZ (a b:E):walk P cl σ (.zip a b)=(ev P cl σ a >>= λx=>ev P cl σ b >>= λy=>match iU x.d,iU y.d with
 | some as,some bs=>.ok (items ⟨.non,false,x.pa||y.pa,x.al++y.al⟩ (jL as bs),x.al++y.al)
 | _,_=>.bad):=id rfl
@[simp] theorem jF (t:T) (e:E):ex P cl σ (.set t e)=O.from σ (ev P cl σ e) λv=>O.from σ (bC (freeze σ v.al) v t) .next:=id rfl
@[simp] theorem aML (i:Nat) (e:E):ex P cl σ (.app i e)=O.from σ (ev P cl σ e) λv=>put σ i v λds=>some (ds++[v.d]):=id rfl
@[simp] theorem aCN (i:Nat) (e:E):ex P cl σ (.ext i e)=O.from σ (ev P cl σ e) λv=>match nT v with|some (v',ds')=>put σ i v' λds=>some (ds++ds')|none=>.bad:=id rfl
@[simp] theorem aMM (i:Nat):ex P cl σ (.clr i)=put σ i (.cl .non) λ_=>some []:=id rfl
@[simp] theorem aCO (i:Nat) (k e:E):ex P cl σ (.setIx i k e)=O.from σ (ev P cl σ e) λv=>O.from σ (ev P cl σ k) λkv=>match kv.d with
 | .int k=>put σ i v λds=>(match ixN ds.length k with|some j=>some (ds.set j v.d)|none=>none)
 | _=>.bad:=id rfl
@[simp] theorem jG (e:E):ex P cl σ (.ret e)=O.from σ (ev P cl σ e) .ret:=id rfl
@[simp] theorem bK (c:E) (a b:Ss):ex P cl σ (.iff c a b)=O.from σ (tst P cl σ c) λk=>if k then exs P cl σ a else exs P cl σ b:=id rfl
theorem aCP(t:T)(it:It)(b:Ss):ex P cl σ (.for t it b)=O.from σ (walk P cl σ it) λxs=>cN (λσ x=>O.from σ (bC σ x t) λσ'=>exs P cl σ' b) xs.1 (freeze σ xs.2):=rfl
@[simp] theorem aMN (i j:Nat):ex P cl σ (.mov i j)=(match σ[j]? with
 | some (.own pa ds)=>if i=j then .bad else .next ((σ.set j .dead).set i (.own pa ds))
 | some (.sh pa d)=>.next (σ.set i (.sh (pa&&!noL d) d))
 | _=>.bad):=id rfl
@[simp] theorem aLz (i:Nat):ex P cl σ (.retv i)=(match σ[i]? with|some (.own pa ds)=>.ret ⟨.lst ds,true,pa,[]⟩|some (.dct (.s ks))=>.ret (.cl (.dic (jM ks)))|_=>O.from σ (cA σ i) .ret):=id rfl
@[simp] theorem aLa (i:Nat) (k:E):ex P cl σ (.pop none i (some k))=O.from σ (ev P cl σ k >>= λv=>match v.d with|.int k=>.iff (aI k) (.ok (some k))|_=>.bad) λk=>O.from σ (aBL σ i k) λr=>.next r.2:=id rfl
@[simp] theorem eM:exs P cl σ .nil=.next σ:=id rfl
@[simp] theorem bJ (s:S) (ss:Ss):exs P cl σ (.cons s ss)=(ex P cl σ s).on λσ'=>exs P cl σ' ss:=id rfl
end
theorem bE{P:Pg}{cl:Caller}{f:Nat}{F:Fn}{ds:List D}(hF:P.fns[f]? = some F)(hl:ds.length=F.np){v:Vl}
 (h:exs P cl ((ds.map λd=>Sl.sh true d)++List.replicate (F.ns-F.np) Sl.dead) F.body=.ret v):mM P cl f ds=.ok (v.d,v.fr,v.pa):=by
 unfold mM
 rw[hF]
 simp only[hl,if_true,h]
theorem oU{f:Sg->Vl->O}:∀(xs:List Vl) (I:Nat->Sg->Prop) (σ:Sg),I 0 σ->(∀(i:Nat) (h:i<xs.length) (σ:Sg),I i σ->∃σ',f σ xs[i]=.next σ'/\I (i+1) σ')->∃σ',cN f xs σ=.next σ'/\I xs.length σ'
 | [],I,σ,h0,_=>⟨σ,rfl,h0⟩
 | x::xs,I,σ,h0,hs=>by
  obtain⟨σ1,e1,h1⟩:=hs 0 (by simp) σ h0
  obtain⟨σ2,e2,h2⟩:=oU xs (λi=>I (i+1)) σ1 h1 λi h σ hI=>by
   have:=hs (i+1) (by simpa using h) σ hI
   simpa using this
  refine⟨σ2,?_,by simpa using h2⟩
  have e1:f σ x=.next σ1:=by simpa using e1
  unfold cN
  rw[e1]
  exact e2
theorem oV{f:Vl->R (Option Vl)}{g:Vl->Vl}:∀{xs:List Vl},(∀x∈xs,f x=.ok (some (g x)))->dC f xs=.ok (xs.map g)
 | [],_=>rfl
 | x::xs,h=>by
  have h1:=h x Ak
  have h2:=oV (f:=f) (g:=g) (xs:=xs) λy hy=>h y (Ae _ hy)
  show(f x >>= λy=>dC f xs >>= λys=>(match y with|some y=>R.ok (y::ys)|none=>R.ok ys))=_
  rw[h1,h2]
  rfl
theorem xX(n:Nat):(cD 0 (n:Int)).map Vl.cl=(List.range n).map λ(k:Nat)=>Vl.cl (.int (k:Int)):=by
 unfold cD
 rw[Bv]
 simp
theorem aEJ{P:Pg}{cl:Caller}{σ:Sg}{k:Nat}{caps:List Nat}{t:T}{it:It}{elt:E}{xs:List Vl}{al:List Nat}(g:Vl->Vl)(hw:walk P cl σ it=.ok (xs,al))(hl:xs.length<=lim)
 (hb:∀x∈xs,∃σ1,bC (List.replicate k .dead++caps.map λi=>((freeze σ al)[i]?).getD .dead) x t=.ok σ1/\ev P cl σ1 elt=.ok (g x)):ev P cl σ (.comp k caps t it .nil elt)=.ok (iN k caps al (xs.map g)):=by
 rw[sO,hw,aC,oV (g:=g) λx hx=>by
  obtain⟨σ1,e1,e2⟩:=hb x hx
  show(bC _ x t >>= λσ1=>_)=_
  rw[e1]
  show(ev P cl σ1 elt >>= λy=>R.ok (some y))=_
  rw[e2]
  rfl]
 have hl2:decide ((xs.map g).length<=lim)=true:=Au (by rw[lM];exact hl)
 rw[aC,hl2,aCL]
theorem fS{P:Pg}{cl:Caller}{σ:Sg}{t:T}{it:It}{b:Ss}{xs:List Vl}{al:List Nat}(I:Nat->Sg->Prop)(hw:walk P cl σ it=.ok (xs,al))(h0:I 0 (freeze σ al))
 (hs:∀(i:Nat) (h:i<xs.length) (σ:Sg),I i σ->∃σ1 σ',bC σ xs[i] t=.ok σ1/\exs P cl σ1 b=.next σ'/\I (i+1) σ'):∃σ',ex P cl σ (.for t it b)=.next σ'/\I xs.length σ':=by
 rw[aCP,hw]
 refine oU xs I _ h0 λi h σ hI=>?_
 obtain⟨σ1,σ',e1,e2,h'⟩:=hs i h σ hI
 refine⟨σ',?_,h'⟩
 show O.from σ (bC σ xs[i] t) _=_
 rw[e1]
 exact e2
theorem zO:aI 0=true:=by decide
theorem nA{n:Nat}(hn:n<=1000000):aI (n:Int)=true:=by
 unfold aI
 rw[bA,A4,A4]
 exact⟨Int.le_trans (b:=0) (by decide) (Int.natCast_nonneg n),Int.lt_of_le_of_lt (b:=1000000) (by omega) (by decide)⟩
theorem xY{P:Pg}{cl:Caller}{σ:Sg}{a:E}{v:Vl}{n:Nat}(h:ev P cl σ a=.ok v)(hd:v.d=.int n)(hn:n<=1000000):walk P cl σ (.rng (.c (.int 0)) a)=.ok ((List.range n).map λ(k:Nat)=>Vl.cl (.int (k:Int)),[]):=by
 rw[vQ,h,cM,aC,aC,hd,<-xX]
 show R.iff (aI 0&&aI (n:Int)) _=_
 rw[zO,nA hn]
 rfl
theorem qR{k:Nat}{caps al:List Nat}{vs:List Vl}(h:noLs (vs.map (·.d))=true):iN k caps al vs=⟨.lst (vs.map (·.d)),true,false,[]⟩:=by
 unfold iN
 rw[if_pos h]
end Hp
end
noncomputable section
namespace HpS
open Hp PySem
def box(b:Str×Int):D:=.tup [.str b.1,.int b.2]
def aD(bs:List (Str×Int)):List D:=bs.map box
def aN(is:List Int):D:=.tup (is.map D.int)
structure aCQ (bs:List (Str×Int)):Prop where
 few:bs.length<=5
 one:∀b∈bs,1<=b.2/\b.2<=7
 room:(bs.map λb=>b.2+1).foldl (·*·) 1<=24
def dP(bs:List (Str×Int)):Int:=(bs.map λb=>b.2+1).foldl (·*·) 1
theorem eZ:∀is:List Int,noLs (is.map D.int)=true
 | []=>rfl
 | i::is=>by simp[noLs,noL,eZ is]
@[simp] theorem bU (is:List Int):noL (aN is)=true:=by simp[aN,noL,eZ]
@[simp] theorem zP (b:Str×Int):noL (box b)=true:=by simp[box,noL,noLs]
theorem gR:∀ss:List (List Int),noLs (ss.map aN)=true
 | []=>rfl
 | s::ss=>by simp[noLs,gR ss]
theorem vR{v:Vl}(bs:List (Str×Int)):items v (aD bs)=bs.map λb=>Vl.cl (box b):=by
 simp[items,aD,Vl.sub,Function.comp_def]
theorem kH:∀(xs:List Int) (a:Int),1<=a->(∀x∈xs,1<=x)->a<=xs.foldl (·*·) a
 | [],a,_,_=>Int.le_refl _
 | x::xs,a,ha,h=>by
  have hx:=h x Ak
  have h1:a<=a*x:=by
   have:=Int.mul_le_mul_of_nonneg_left hx (show 0<=a by omega)
   omega
  exact Int.le_trans h1 (kH xs (a*x) (by omega) λy hy=>h y (Ae _ hy))
theorem sP(bs:List (Str×Int))(h:∀b∈bs,1<=b.2)(i:Nat):1<=dP (bs.take i)/\dP (bs.take i)<=dP bs:=by
 have pos:∀(l:List (Str×Int)),(∀b∈l,1<=b.2)->∀x∈l.map (λb=>b.2+1),1<=x:=λl hl x hx=>by
  obtain⟨b,hb,rfl⟩:=A2.mp hx
  have:=hl b hb
  omega
 have e:bs=bs.take i++bs.drop i:=(List.take_append_drop i bs).symm
 have h1:1<=dP (bs.take i):=kH _ 1 (by omega) (pos _ λb hb=>h b (List.mem_of_mem_take hb))
 refine⟨h1,?_⟩
 have:dP bs=((bs.drop i).map λb=>b.2+1).foldl (·*·) (dP (bs.take i)):=by
  unfold dP
  conv=>lhs;rw[e,Cc,Dk]
 rw[this]
 exact kH _ _ h1 (pos _ λb hb=>h b (List.mem_of_mem_drop hb))
theorem aBe{bs:List (Str×Int)}{i:Nat}(h:i<bs.length):dP (bs.take (i+1))=dP (bs.take i)*(bs[i].2+1):=by
 rw[Cz h]
 unfold dP
 rw[Cc,Dk]
 rfl
def sQ:Fn:=⟨1,6,
 (.cons (.set (.n 1) (.lst (.cons (.tup .nil) .nil)))
 (.cons (.for (.t [2,3]) (.seq (.v 0))
  (.cons (.set (.n 4) (.lst .nil))
  (.cons (.for (.n 5) (.seq (.v 1))
   (.cons (.ext 4 (.comp 1 [5] (.n 0) (.rng (.c (.int 0)) (.op .Add (.v 3) (.c (.int 1)))) .nil (.op .Add (.v 1) (.tup (.cons (.v 0) .nil)))))
   .nil))
  (.cons (.mov 1 4)
  .nil))))
 (.cons (.retv 1)
 .nil)))⟩
def cQ(b:List Int)(top:Int):List (List Int):=(List.range (top+1).toNat).map λ(h:Nat)=>b++[(h:Int)]
def gU(found:List (List Int))(top:Int):List (List Int):=found.flatMap λb=>cQ b top
def standsL(bs:List (Str×Int)):List (List Int):=bs.foldl (λfound b=>gU found b.2) [[]]
theorem fT{bs:List (Str×Int)}{i:Nat}(h:i<bs.length):standsL (bs.take (i+1))=gU (standsL (bs.take i)) bs[i].2:=by
 rw[Cz h]
 unfold standsL
 rw[Dk]
 rfl
theorem xZ(found:List (List Int))(top:Int):(gU found top).length=found.length*(top+1).toNat:=by
 induction found with
 | nil=>simp[gU]
 | cons b r ih=>
  unfold gU at ih ⊢
  rw[List.flatMap_cons,lA,ih,lC,Nat.succ_mul]
  simp[cQ]
  omega
theorem sR{bs:List (Str×Int)}(h:aCQ bs):∀i,i<=bs.length->((standsL (bs.take i)).length:Int)=dP (bs.take i)/\∀s∈standsL (bs.take i),s.length=i
 | 0,_=>by simp[standsL,dP]
 | i+1,hi=>by
  have hi':i<bs.length:=by omega
  obtain⟨h1,h2⟩:=sR h i (by omega)
  obtain⟨g2,g3⟩:=h.one bs[i] (Bl hi')
  rw[fT hi',aBe hi',xZ]
  refine⟨?_,λs hs=>?_⟩
  . rw[Int.natCast_mul,h1,C1 (by omega)]
  . obtain⟨b,hb,hs⟩:=List.mem_flatMap.mp hs
    obtain⟨k,_,rfl⟩:=A2.mp hs
    rw[lA,h2 b hb];rfl
theorem aFC{bs:List (Str×Int)}(h:aCQ bs)(i:Nat)(hi:i<=bs.length):(standsL (bs.take i)).length<=24:=by
 have h1:=(sR h i hi).1
 have h2:=(sP bs (λb hb=>(h.one b hb).1) i).2
 have h3:dP bs<=24:=h.room
 omega
theorem mD{found:List (List Int)}{top:Int}{j:Nat}(h:j<found.length):(found.take (j+1)).flatMap (λb=>cQ b top)=(found.take j).flatMap (λb=>cQ b top)++cQ found[j] top:=by
 rw[Cz h,List.flatMap_append]
 simp
theorem nB{found:List (List Int)}{top:Int}(j:Nat):((found.take j).flatMap λb=>cQ b top).length<=(gU found top).length:=by
 have e:found=found.take j++found.drop j:=(List.take_append_drop j found).symm
 unfold gU
 conv=>rhs;rw[e,List.flatMap_append,lA]
 omega
theorem sU{v:Vl}(ss:List (List Int)):items v (ss.map aN)=ss.map λs=>Vl.cl (aN s):=by
 simp[items,Vl.sub,Function.comp_def]
theorem aCR{P:Pg}(n:Nat){s0 s1 s2 s4:Sl}{b:List Int}{top:Int}(ht:1<=top)(ht7:top<=7)(hb:b.length<=10) :
 ev P (call P n) [s0,s1,s2,.sh false (.int top),s4,.sh false (aN b)] (.comp 1 [5] (.n 0) (.rng (.c (.int 0)) (.op .Add (.v 3) (.c (.int 1)))) .nil (.op .Add (.v 1) (.tup (.cons (.v 0) .nil))))=.ok ⟨.lst ((cQ b top).map aN),true,false,[]⟩:=by
 have hw:walk P (call P n) [s0,s1,s2,.sh false (.int top),s4,.sh false (aN b)] (.rng (.c (.int 0)) (.op .Add (.v 3) (.c (.int 1))))=.ok ((List.range (top+1).toNat).map λ(k:Nat)=>Vl.cl (.int (k:Int)),[]):=by
  refine xY (v:=.cl (.int (top+1))) ?_ ?_ (by omega)
  . simp[cA,Sl.val,opD,Vl.cl,noL]
  . show D.int (top+1)=D.int ((top+1).toNat:Int)
    rw[C1 (by omega)]
 rw[aEJ (λv=>match v.d with|.int k=>.cl (aN (b++[k]))|_=>.cl .non) hw]
 . have e:(((List.range (top+1).toNat).map λ(k:Nat)=>Vl.cl (.int (k:Int))).map λv=>(match v.d with|.int k=>Vl.cl (aN (b++[k]))|_=>Vl.cl .non)).map (·.d)=(cQ b top).map aN:=by
    simp[cQ,Vl.cl,Function.comp_def]
   rw[qR (by rw[e];exact gR _),e]
 . simp only[lM,List.length_range];unfold lim;omega
 . intro y hy
   obtain⟨k,hk,rfl⟩:=A2.mp hy
   have hl:b.length+1<=lim:=by unfold lim;omega
   refine⟨[.sh false (.int k),.sh false (aN b)],?_,?_⟩
   . simp[bC,Vl.cl,Vl.slot,freeze]
   . simp[cA,Sl.val,Vl.cl,opD,pY,aQ,bR,aN,noL,hl,eZ]
theorem aBf{P:Pg}{f:Nat}(hF:P.fns[f]? = some sQ)(n:Nat){bs:List (Str×Int)}(h:aCQ bs):call P (n+1) f [.lst (aD bs)]=.ok (.lst ((standsL bs).map aN),true,false):=by
 obtain⟨σ',e,hI⟩:=fS (P:=P) (cl:=call P n) (σ:=[.sh true (.lst (aD bs)),.own false [.tup []],.dead,.dead,.dead,.dead]) (t:=.t [2,3]) (it:=.seq (.v 0))
  (b:=.cons (.set (.n 4) (.lst .nil)) (.cons (.for (.n 5) (.seq (.v 1)) (.cons (.ext 4 (.comp 1 [5] (.n 0) (.rng (.c (.int 0)) (.op .Add (.v 3) (.c (.int 1)))) .nil (.op .Add (.v 1) (.tup (.cons (.v 0) .nil))))) .nil)) (.cons (.mov 1 4) .nil)))
  (xs:=bs.map λb=>Vl.cl (box b)) (al:=[])
  (λi σ=>∃s2 s3 s4 s5,σ=[.sh true (.lst (aD bs)),.own false ((standsL (bs.take i)).map aN),s2,s3,s4,s5])
  (by simp[cA,Sl.val,vR]) ⟨_,_,_,_,rfl⟩ (λi hi σ hσ=>by
   obtain⟨s2,s3,s4,s5,rfl⟩:=hσ
   have hi':i<bs.length:=by simpa using hi
   obtain⟨g2,g3⟩:=h.one bs[i] (Bl hi')
   have hl24:=aFC h (i+1) hi'
   rw[fT hi'] at hl24
   obtain⟨_,hlen⟩:=sR h i (by omega)
   have hfew:=h.few
   obtain⟨σ2,e2,hJ⟩:=fS (P:=P) (cl:=call P n) (σ:=[.sh true (.lst (aD bs)),.own false ((standsL (bs.take i)).map aN),.sh false (.str bs[i].1),.sh false (.int bs[i].2),.own false [],s5]) (t:=.n 5) (it:=.seq (.v 1))
    (b:=.cons (.ext 4 (.comp 1 [5] (.n 0) (.rng (.c (.int 0)) (.op .Add (.v 3) (.c (.int 1)))) .nil (.op .Add (.v 1) (.tup (.cons (.v 0) .nil))))) .nil)
    (xs:=(standsL (bs.take i)).map λs=>Vl.cl (aN s)) (al:=[1])
    (λj σ=>∃s5,σ=[.sh true (.lst (aD bs)),.sh false (.lst ((standsL (bs.take i)).map aN)),.sh false (.str bs[i].1),.sh false (.int bs[i].2),.own false ((((standsL (bs.take i)).take j).flatMap λb=>cQ b bs[i].2).map aN),s5])
    (by simp[cA,Sl.val,sU]) ⟨_,by simp[freeze,Sl.freeze];rfl⟩ (λj hj σ hσ=>by
     obtain⟨s5,rfl⟩:=hσ
     have hj':j<(standsL (bs.take i)).length:=by simpa using hj
     have hb:(standsL (bs.take i))[j].length<=10:=by rw[hlen _ (Bl hj')];omega
     have hc:=aCR (P:=P) n (s0:=.sh true (.lst (aD bs))) (s1:=.sh false (.lst ((standsL (bs.take i)).map aN))) (s2:=.sh false (.str bs[i].1)) (s4:=.own false ((((standsL (bs.take i)).take j).flatMap λb=>cQ b bs[i].2).map aN)) (b:=(standsL (bs.take i))[j]) g2 g3 hb
     have hle:=nB (found:=standsL (bs.take i)) (top:=bs[i].2) (j+1)
     rw[mD hj',lA] at hle
     have hlim:((((standsL (bs.take i)).take j).flatMap λb=>cQ b bs[i].2).map aN++(cQ (standsL (bs.take i))[j] bs[i].2).map aN).length<=lim:=by
      rw[lA,lM,lM];unfold lim;omega
     refine⟨[.sh true (.lst (aD bs)),.sh false (.lst ((standsL (bs.take i)).map aN)),.sh false (.str bs[i].1),.sh false (.int bs[i].2),.own false ((((standsL (bs.take i)).take j).flatMap λb=>cQ b bs[i].2).map aN),.sh false (aN (standsL (bs.take i))[j])],
      [.sh true (.lst (aD bs)),.sh false (.lst ((standsL (bs.take i)).map aN)),.sh false (.str bs[i].1),.sh false (.int bs[i].2),.own false ((((standsL (bs.take i)).take (j+1)).flatMap λb=>cQ b bs[i].2).map aN),.sh false (aN (standsL (bs.take i))[j])],?_,?_,⟨_,rfl⟩⟩
     . simp[bC,Vl.cl,Vl.slot]
     . rw[bJ,aCN,hc,aJ]
       show(match nT ⟨.lst ((cQ (standsL (bs.take i))[j] bs[i].2).map aN),true,false,[]⟩ with|some (v',ds')=>put _ 4 v' λds=>some (ds++ds')|none=>.bad).on _=_
       simp only[nT,gR,if_true]
       unfold put
       simp only[freeze,iO,gS,gZ]
       rw[if_pos hlim]
       simp[mD hj'])
   obtain⟨s5',rfl⟩:=hJ
   refine⟨[.sh true (.lst (aD bs)),.own false ((standsL (bs.take i)).map aN),.sh false (.str bs[i].1),.sh false (.int bs[i].2),s4,s5],[.sh true (.lst (aD bs)),.own false ((standsL (bs.take (i+1))).map aN),.sh false (.str bs[i].1),.sh false (.int bs[i].2),.dead,s5'],?_,?_,⟨_,_,_,_,rfl⟩⟩
   . simp[bC,box,Vl.cl,Vl.sub,noL,Vl.slot]
   . have et:(standsL (bs.take i)).take ((standsL (bs.take i)).map λs=>Vl.cl (aN s)).length=standsL (bs.take i):=by simp
     rw[et] at e2
     simp[nQ,aQ,bR,bC,freeze,Vl.slot,e2,fT hi',gU])
 obtain⟨s2,s3,s4,s5,rfl⟩:=hI
 have et:bs.take (bs.map λb=>Vl.cl (box b)).length=bs:=by simp
 rw[et] at e
 refine bE (F:=sQ) hF rfl (v:=⟨.lst ((standsL bs).map aN),true,false,[]⟩) ?_
 simp[sQ,nQ,pY,aQ,bR,bC,freeze,Vl.slot,e]
end HpS
end
noncomputable section
namespace Hp
open PySem (Str)
@[simp] theorem aLA (d:D):(⟨d,false,false,[]⟩:Vl)=.cl d:=id rfl
@[simp] theorem dH (d:D):(Vl.cl d).d=d:=id rfl
@[simp] theorem aNu (d:D):(Vl.cl d).fr=false:=id rfl
@[simp] theorem aLb (d:D):(Vl.cl d).pa=false:=id rfl
@[simp] theorem mE (d:D):(Vl.cl d).al=[]:=id rfl
@[simp] theorem dW (d:D):(Vl.cl d).slot=.sh false d:=by cases d <;> rfl
@[simp] theorem aEK (ds:List D) (pa:Bool) (al:List Nat):(⟨.lst ds,true,pa,al⟩:Vl).slot=.own pa ds:=id rfl
@[simp] theorem eN (i:Nat) (d:D):Sl.val i (.sh false d)=.ok (.cl d):=id rfl
@[simp] theorem iH (i:Nat) (pa:Bool) (k:Int):Sl.val i (.sh pa (.int k))=.ok (.cl (.int k)):=by cases pa <;> rfl
@[simp] theorem aLB (i:Nat) (pa:Bool) (k:Str):Sl.val i (.sh pa (.str k))=.ok (.cl (.str k)):=by cases pa <;> rfl
@[simp] theorem aMO (i:Nat) (pa:Bool) (k:Bool):Sl.val i (.sh pa (.bl k))=.ok (.cl (.bl k)):=by cases pa <;> rfl
@[simp] theorem aLC (i:Nat) (pa:Bool):Sl.val i (.sh pa .non)=.ok (.cl .non):=by cases pa <;> rfl
@[simp] theorem kI (i:Nat) (ds:List D):Sl.val i (.sh true (.lst ds))=.ok ⟨.lst ds,false,true,[]⟩:=id rfl
theorem fU(i:Nat)(pa:Bool){d:D}(h:noL d=true):Sl.val i (.sh pa d)=.ok (.cl d):=by unfold Sl.val;simp[h]
@[simp] theorem zQ (i:Nat) (pa:Bool) (ds:List D):Sl.val i (.own pa ds)=.ok ⟨.lst ds,false,pa,[i]⟩:=id rfl
@[simp] theorem kJ (σ:Sg) (v:Vl) (i:Nat):bC σ v (.n i)=.ok (σ.set i v.slot):=id rfl
@[simp] theorem bW (σ:Sg):freeze σ []=σ:=id rfl
@[simp] theorem aCS (b:Bool):dN (.cl (.bl b))=.ok b:=id rfl
@[simp] theorem sV (args:List Vl) (d:D):eS args (d,false,false)=.cl d:=id rfl
@[simp] theorem aMP (args:List Vl) (d:D):eS args (d,true,false)=⟨d,true,false,[]⟩:=id rfl
@[simp] theorem yA (a b:D):bG .Eq a b=eqD a b:=id rfl
@[simp] theorem aMQ (a b:D):bG .NotEq a b=(eqD a b).map (!·):=id rfl
@[simp] theorem oW (a b:Int):bG .Lt (.int a) (.int b)=some (decide (a<b)):=id rfl
@[simp] theorem aCT (a b:Int):bG .Gt (.int a) (.int b)=some (decide (b<a)):=id rfl
@[simp] theorem aCU (a b:Int):bG .LtE (.int a) (.int b)=some (decide (a<=b)):=id rfl
@[simp] theorem aMR (a b:Int):bG .GtE (.int a) (.int b)=some (decide (b<=a)):=id rfl
theorem zR(n:Nat)(a b:Int):eqF (n+1) (.int a) (.int b)=some (a==b):=rfl
@[simp] theorem zS (a b:Int):eqD (.int a) (.int b)=some (a==b):=id rfl
@[simp] theorem aEL (a b:Str):eqD (.str a) (.str b)=some (a==b):=id rfl
@[simp] theorem aMS (a b:Bool):eqD (.bl a) (.bl b)=some (a==b):=id rfl
@[simp] theorem aLD (P:Pg) (k:Int):isI [.tInt] P (.int k)=some true:=id rfl
@[simp] theorem aLc (P:Pg) (k:Int):isI [.tBool] P (.int k)=some false:=id rfl
@[simp] theorem aLE (P:Pg) (k:Str):isI [.tStr] P (.str k)=some true:=id rfl
@[simp] theorem aLF (P:Pg) (k:List D):isI [.tTuple] P (.tup k)=some true:=id rfl
@[simp] theorem aLG (P:Pg) (k:List D):isI [.tList] P (.lst k)=some true:=id rfl
@[simp] theorem aMT (P:Pg) (k:Bool):isI [.tBool] P (.bl k)=some true:=id rfl
@[simp] theorem add_int (i j:Int):opD .Add (.cl (.int i)) (.cl (.int j))=.ok (.cl (.int (i+j))):=id rfl
@[simp] theorem sub_int (i j:Int):opD .Sub (.cl (.int i)) (.cl (.int j))=.ok (.cl (.int (i-j))):=id rfl
theorem mul_int{i j:Int}(h:pX i j=true):opD .Mult (.cl (.int i)) (.cl (.int j))=.ok (.cl (.int (i*j))):=by
 show R.iff (pX i j) _=_
 rw[h];rfl
theorem sW{i j:Int}(h:tY j=true):opD .FloorDiv (.cl (.int i)) (.cl (.int j))=.ok (.cl (.int (i / j))):=by
 show R.iff (tY j) _=_
 rw[h];rfl
theorem aEM{i j:Int}(h:0<j):opD .Mod (.cl (.int i)) (.cl (.int j))=.ok (.cl (.int (i % j))):=by
 show R.iff (decide (0<j)) _=_
 rw[Au h];rfl
@[simp] theorem nC (ds:List D) (fr pa:Bool) (al:List Nat):biD .len [⟨.lst ds,fr,pa,al⟩]=.ok (.cl (.int ds.length)):=id rfl
@[simp] theorem aLH (ds:List D):biD .len [.cl (.tup ds)]=.ok (.cl (.int ds.length)):=id rfl
@[simp] theorem aLd (ds:List D):biD .len [.cl (.lst ds)]=.ok (.cl (.int ds.length)):=id rfl
end Hp
end
noncomputable section
namespace HpS
open Hp PySem
section
variable {P:Pg} {cl:Caller} {σ σ':Sg}
theorem cs{s:S}{ss:Ss}{o:O}(h:ex P cl σ s=.next σ')(r:exs P cl σ' ss=o):exs P cl σ (.cons s ss)=o:=by rw[bJ,h,aBc,r]
theorem eO{i:Nat}{e:E}{d:D}(h:ev P cl σ e=.ok (.cl d)):ex P cl σ (.set (.n i) e)=.next (σ.set i (.sh false d)):=by rw[jF,h,aJ,mE,bW,kJ,aJ,dW]
theorem dQ{e:E}{ss:Ss}{v:Vl}(h:ev P cl σ e=.ok v):exs P cl σ (.cons (.ret e) ss)=.ret v:=by rw[bJ,jG,h];rfl
theorem eF{c:E}{a:Ss}(h:tst P cl σ c=.ok false):ex P cl σ (.iff c a .nil)=.next σ:=by rw[bK,h];rfl
theorem mF{c:E}{a b ss:Ss}{v:Vl}(h:tst P cl σ c=.ok true)(r:exs P cl σ a=.ret v):exs P cl σ (.cons (.iff c a b) ss)=.ret v:=by
 rw[bJ,bK,h,aJ,if_pos rfl,r];rfl
theorem cZ{a b:E}{x y z:Vl}(h:ev P cl σ a=.ok x)(k:ev P cl σ b=.ok y)(e:bT x y=.ok z):ev P cl σ (.idx a b)=.ok z:=by rw[eR,h,aC,k,aC,e]
theorem cF{a:E}{w x:Str}{b:Bool}(h:ev P cl σ a=.ok (.cl (.str w)))(q:(w==x)=b):tst P cl σ (.cmp .Eq a (.c (.str x)))=.ok b:=by
 rw[fR,h,aC,cM,aC,dH,dH,yA,aEL,q]
theorem dL{f:Nat}{a b c:E}{x y z:Vl}{d:D}(h1:ev P cl σ a=.ok x)(h2:ev P cl σ b=.ok y)(h3:ev P cl σ c=.ok z)(hc:cl f [x.d,y.d,z.d]=.ok (d,false,false)):ev P cl σ (.call f (.cons a (.cons b (.cons c .nil))))=.ok (.cl d):=by
 have e:evs P cl σ (.cons a (.cons b (.cons c .nil)))=.ok [x,y,z]:=by rw[aO,h1,aC,aO,h2,aC,aO,h3,aC,bI];rfl
 rw[mZ,e,aC,show [x,y,z].map (·.d)=[x.d,y.d,z.d] from rfl,hc];rfl
theorem v0_{d:D}{r:Sg}(h:noL d=true):ev P cl (.sh true d::r) (.v 0)=.ok (.cl d):=fU 0 true h
theorem v1_{s:Sl}{d:D}{r:Sg}(h:noL d=true):ev P cl (s::.sh true d::r) (.v 1)=.ok (.cl d):=fU 1 true h
theorem v2_{s t:Sl}{d:D}{r:Sg}(h:noL d=true):ev P cl (s::t::.sh true d::r) (.v 2)=.ok (.cl d):=fU 2 true h
theorem aFD{t a b:E}{k:Bool}{v:Vl}(h:tst P cl σ t=.ok k)(r:(if k then ev P cl σ a else ev P cl σ b)=.ok v):ev P cl σ (.ife t a b)=.ok v:=by rw[aIj,h,aC,r]
theorem aMU{a:E}{k:Bool}(h:ev P cl σ a=.ok (.cl (.bl k))):ev P cl σ (.nt a)=.ok (.cl (.bl !k)):=by rw[aKW,h];rfl
theorem aMV{a b:E}{x y:Bool}(h1:ev P cl σ a=.ok (.cl (.bl x)))(h2:ev P cl σ b=.ok (.cl (.bl y))):ev P cl σ (.an a b)=.ok (.cl (.bl (x&&y))):=by
 rw[aKX,h1,aC];cases x
 . rfl
 . exact h2
theorem aLe{a b:E}{x y:Bool}(h1:ev P cl σ a=.ok (.cl (.bl x)))(h2:ev P cl σ b=.ok (.cl (.bl y))):ev P cl σ (.orr a b)=.ok (.cl (.bl (x||y))):=by
 rw[aIi,h1,aC];cases x
 . exact h2
 . rfl
theorem aMW{o:Operator}{a b:E}{x y z:Vl}(h:ev P cl σ a=.ok x)(k:ev P cl σ b=.ok y)(e:opD o x y=.ok z):ev P cl σ (.op o a b)=.ok z:=by rw[gQ,h,aC,k,aC,e]
theorem aLf{o:CmpOp}{a b:E}{x y:Vl}{k:Bool}(h:ev P cl σ a=.ok x)(g:ev P cl σ b=.ok y)(e:bG o x.d y.d=some k):ev P cl σ (.cmp o a b)=.ok (.cl (.bl k)):=by rw[aIk,h,aC,g,aC,e]
theorem aLg{b:Bi}{a:E}{x z:Vl}(h:ev P cl σ a=.ok x)(e:biD b [x]=.ok z):ev P cl σ (.bi b (.cons a .nil))=.ok z:=by
 have h2:evs P cl σ (.cons a .nil)=.ok [x]:=by rw[aO,h];rfl
 rw[mB,h2,aC,e]
end
end HpS
end
noncomputable section
namespace Hp
open PySem (Str)
theorem eG{α:Type}{g:α->D}(ng:∀t,noL (g t)=true):∀ts:List α,noLs (ts.map g)=true
 | []=>rfl
 | t::ts=>by rw[mC,noLs,ng t,eG ng ts];rfl
theorem oX{α:Type}{F:Vl->R (Option Vl)}{f:α->Vl}{g:α->D}{p:α->Bool}:∀{ts:List α},(∀t∈ts,F (f t)=.ok (if p t then some (.cl (g t)) else none))->dC F (ts.map f)=.ok ((ts.filter p).map λt=>.cl (g t))
 | [],_=>rfl
 | t::ts,h=>by
  have h1:=h t Ak
  have h2:=oX (F:=F) (f:=f) (g:=g) (p:=p) (ts:=ts) λy hy=>h y (Ae _ hy)
  show(F (f t) >>= λy=>dC F (ts.map f) >>= λys=>(match y with|some y=>R.ok (y::ys)|none=>R.ok ys))=_
  rw[h1,h2]
  cases hp:p t with
  | true=>rw[List.filter_cons_of_pos hp];rfl
  | false=>rw[List.filter_cons_of_neg (by rw[hp];exact bN)];rfl
theorem zT{α:Type}{g:α->D}(ng:∀t,noL (g t)=true){k:Nat}{caps al:List Nat}(ts:List α):iN k caps al (ts.map λt=>Vl.cl (g t))=⟨.lst (ts.map g),true,false,[]⟩:=by
 have e:(ts.map λt=>Vl.cl (g t)).map (·.d)=ts.map g:=by rw[Bv];rfl
 rw[qR (by rw[e];exact eG ng ts),e]
theorem aCV{P:Pg}{cl:Caller}{σ:Sg}{k:Nat}{caps al:List Nat}{T:T}{it:It}{elt:E}{α:Type}{ts:List α}(f:α->Vl)(g:α->D)(ng:∀t,noL (g t)=true)(hw:walk P cl σ it=.ok (ts.map f,al))(hl:ts.length<=lim)
 (hb:∀t∈ts,∃σ1,bC (List.replicate k .dead++caps.map λi=>((freeze σ al)[i]?).getD .dead) (f t) T=.ok σ1/\ev P cl σ1 elt=.ok (.cl (g t))):ev P cl σ (.comp k caps T it .nil elt)=.ok ⟨.lst (ts.map g),true,false,[]⟩:=by
 rw[sO,hw,aC,oX (f:=f) (g:=g) (p:=λ_=>true) λt ht=>by
  obtain⟨σ1,e1,e2⟩:=hb t ht
  show(bC _ (f t) T >>= λσ1=>_)=_
  rw[e1]
  show(ev P cl σ1 elt >>= λy=>R.ok (some y))=_
  rw[e2]
  rfl]
 have hf:ts.filter (λ_=>true)=ts:=List.filter_eq_self.mpr λ_ _=>rfl
 have hl2:decide ((ts.map λt=>Vl.cl (g t)).length<=lim)=true:=Au (by rw[lM];exact hl)
 rw[aC,hf,hl2,aCL,zT ng]
theorem fA{α:Type}{v:Vl}{g:α->D}(ng:∀t,noL (g t)=true)(ts:List α):items v (ts.map g)=ts.map λt=>Vl.cl (g t):=by
 unfold items
 rw[Bv]
 refine C0 λt _=>?_
 show Vl.sub v (g t)=_
 unfold Vl.sub
 rw[if_pos (ng t)]
theorem aEN{a b:D}(ha:noL a=true)(hb:noL b=true):noL (.tup [a,b])=true:=by simp[noL,noLs,ha,hb]
@[simp] theorem aLI {P:Pg} {cl:Caller} {σ:Sg} (a b:E):ev P cl σ (.lzip a b)=(ev P cl σ a >>= λx=>ev P cl σ b >>= λy=>match iU x.d,iU y.d with
 | some as,some bs=>.iff (decide (as.length<=lim)) (.ok (aFk x y (jL as bs)))
 | _,_=>.bad):=id rfl
end Hp
end
noncomputable section
namespace Hp
section
variable {P:Pg} {cl:Caller} {σ:Sg} {l:Nat}
theorem aEO(d:D):noAl (.cl d) σ=.ok (.cl d,σ):=id rfl
theorem aFE(a:E):evl P cl l σ (.e a)=(ev P cl σ a >>= λx=>noAl x σ):=id rfl
theorem aIl(o:PySem.Operator)(a b:EL):evl P cl l σ (.op o a b)=(evl P cl l σ a >>= λx=>evl P cl l x.2 b >>= λy=>opD o x.1.nr y.1.nr >>= λz=>noAl z y.2):=id rfl
theorem zU(a b:EL):evl P cl l σ (.idx a b)=(evl P cl l σ a >>= λx=>evl P cl l x.2 b >>= λy=>bT x.1.nr y.1.nr >>= λz=>noAl z y.2):=id rfl
theorem zV(es:ELs):evl P cl l σ (.tup es)=(evls' P cl l σ es >>= λr=>.ok (⟨.tup (r.1.map (·.d)),false,aQ r.1,[]⟩,r.2)):=id rfl
theorem jH(e:EL)(es:ELs):evls' P cl l σ (.cons e es)=(evl P cl l σ e >>= λx=>evls' P cl l x.2 es >>= λr=>.ok (x.1::r.1,r.2)):=id rfl
theorem fV(i l:Nat)(fz:List Nat)(e:EL):ex P cl σ (.setL i l fz e)=O.from σ (evl P cl l (freeze σ fz) e) λr=>.next (r.2.set i r.1.slot):=id rfl
theorem zW(i l:Nat)(e:EL):ex P cl σ (.appL i l e)=if (iO σ i).isSome then O.from σ (evl P cl l σ e) λr=>put r.2 i r.1.nr λds=>some (ds++[r.1.d]) else .bad:=id rfl
theorem zX(e:EL):ex P cl σ (.retL e)=O.from σ (evl P cl 0 σ e) λr=>lT r.1 r.2:=id rfl
theorem zY(o:PySem.CmpOp)(a:EL)(b:E)(x y:Ss):ex P cl σ (.iffL o a b x y)=O.from σ (evl P cl 0 σ a) λr=>O.from r.2 (ev P cl r.2 b) λz=>match bG o r.1.d z.d with
 | some k=>if k then exs P cl r.2 x else exs P cl r.2 y
 | none=>.bad:=id rfl
theorem aCW(d:D)(c:List D)(r:Sg):lT (.cl d) (.lent c::r)=.ret (.cl (.tup [d,.err 0 c])):=id rfl
theorem vS{f:Nat}{es:ELs}{vs:List Vl}{c c1 c2:List D}{r r1:Sg}{d:D}(hf:lR P f=true)(ha:evls' P cl 0 (.lent c::r) es=.ok (vs,.lent c1::r1))(hc:cl f (.err 0 c1::vs.map (·.d))=.ok (.tup [d,.err 0 c2],false,false)) :
 evl P cl 0 (.lent c::r) (.call f es)=.ok (.cl d,.lent c2::r1):=by
 show R.iff ((cE (.lent c::r) 0).isSome&&lR P f) (evls' P cl 0 (.lent c::r) es >>= λr=>_)=_
 rw[hf,ha]
 show(cl f (.err 0 c1::vs.map (·.d)) >>= λq=>_)=_
 rw[hc]
 rfl
theorem aCX{f:Nat}{es:ELs}{vs:List Vl}{σ1:Sg}{z:Bool×List D}{pa fr pr:Bool}{cs cs':List D}{d:D}(h0:cE σ l=some z)(hf:lR P f=true)(ha:evls' P cl l σ es=.ok (vs,σ1))(h1:cE σ1 l=some (pa,cs))(hc:cl f (.err 0 cs::vs.map (·.d))=.ok (.tup [d,.err 0 cs'],fr,pr)) :
 evl P cl l σ (.call f es)=.ok (⟨d,fr,pr&&(pa||aQ vs),[]⟩,dD σ1 l (pa||aQ vs) cs'):=by
 show R.iff ((cE σ l).isSome&&lR P f) (evls' P cl l σ es >>= λr=>(match cE r.2 l with
  | some (pa,cs)=>cl f (.err 0 cs::r.1.map (·.d)) >>= λq=>fF r.2 l pa r.1 q
  | none=>.bad))=_
 rw[h0,hf,ha]
 show(match cE σ1 l with
  | some (pa,cs)=>cl f (.err 0 cs::vs.map (λv:Vl=>v.d)) >>= λq=>fF σ1 l pa vs q
  | none=>.bad)=_
 rw[h1]
 show(cl f (.err 0 cs::vs.map (·.d)) >>= λq=>fF σ1 l pa vs q)=_
 rw[hc]
 rfl
theorem dX{f:Nat}{F:Fn}{b:Ss}{c:List D}{ds:List D}(hF:P.fns[f]? = some F)(hb:F.body=.cons .lend b)(hl:ds.length+1=F.np){v:Vl}
 (h:exs P cl (.lent c::((ds.map λd=>Sl.sh true d)++List.replicate (F.ns-F.np) Sl.dead)) b=.ret v):mM P cl f (.err 0 c::ds)=.ok (v.d,v.fr,v.pa):=by
 refine bE (ds:=.err 0 c::ds) hF hl (v:=v) ?_
 rw[hb]
 exact h
end
end Hp
end
noncomputable section
namespace Hp
open PySem (Str Operator CmpOp)
section
variable {P:Pg} {cl:Caller} {σ:Sg}
@[simp] theorem aLJ (a l:E):ev P cl σ (.sli a (.cons l .nil) .nil)=(ev P cl σ a >>= λx=>ev P cl σ l >>= λl=>match l.d with|.int l=>.iff (aI l) (eC x (some l) none)|_=>.bad):=by
 show(ev P cl σ a >>= λx=>evs P cl σ (.cons l .nil) >>= λl=>evs P cl σ .nil >>= λh=>_)=_
 cases ev P cl σ a with
 | ok x=>
  show((ev P cl σ l >>= λx=>evs P cl σ .nil >>= λxs=>R.ok (x::xs)) >>= λl=>_)=(ev P cl σ l >>= λl=>_)
  cases ev P cl σ l <;> rfl
 | exc e=>rfl
 | bad=>rfl
@[simp] theorem aLK (a l h:E):ev P cl σ (.sli a (.cons l .nil) (.cons h .nil))=(ev P cl σ a >>= λx=>ev P cl σ l >>= λl=>ev P cl σ h >>= λh=>match l.d,h.d with|.int l,.int h=>.iff (aI l&&aI h) (eC x (some l) (some h))|_,_=>.bad):=by
 show(ev P cl σ a >>= λx=>evs P cl σ (.cons l .nil) >>= λl=>evs P cl σ (.cons h .nil) >>= λh=>_)=_
 cases ev P cl σ a with
 | ok x=>
  show((ev P cl σ l >>= λx=>evs P cl σ .nil >>= λxs=>R.ok (x::xs)) >>= λl=>_)=(ev P cl σ l >>= λl=>_)
  cases ev P cl σ l with
  | ok l=>
   show((ev P cl σ h >>= λx=>evs P cl σ .nil >>= λxs=>R.ok (x::xs)) >>= λh=>_)=(ev P cl σ h >>= λh=>_)
   cases ev P cl σ h <;> rfl
  | exc e=>rfl
  | bad=>rfl
 | exc e=>rfl
 | bad=>rfl
end
theorem eP{n k:Nat}(h:k<n):ixN n (k:Int)=some k:=by
 unfold ixN
 rw[if_pos (Int.natCast_nonneg k),if_pos (by omega)]
 simp
def num(c:Int):Nat->Int
 | 0=>c % 2147483647+48271
 | k+1=>(num c k*num c k+48271*num c k+(k:Int)) % 2147483647
end Hp
end
noncomputable section
namespace HpS
open Hp PySem
inductive Sm where
 | num (n:Int)|box (k:Nat)|aft (k:Nat)|two (p:Bool) (a b:Sm)
def sX(p:Bool):Str:=if p then "plus" else "minus"
def Sm.d:Sm->D
 | .num n=>.tup [.str "number",.int n]
 | .box k=>.tup [.str "box",.int k]
 | .aft k=>.tup [.str "after",.int k]
 | .two p a b=>.tup [.str (sX p),a.d,b.d]
def Sm.sz:Sm->Nat
 | .two _ a b=>1+a.sz+b.sz
 | _=>1
def Sm.val(ah be:List Int):Sm->Int
 | .num n=>n
 | .box k=>ah.getD k 0
 | .aft k=>be.getD k 0
 | .two p a b=>if p then a.val ah be+b.val ah be else a.val ah be-b.val ah be
def Sm.wf(c:Nat)(pl:Bool):Sm->Prop
 | .num n=>0<=n/\n<=99
 | .box k=>k<c
 | .aft k=>k<c/\pl=false
 | .two _ a b=>a.wf c pl/\b.wf c pl
theorem Sm.noL:∀s:Sm,Hp.noL s.d=true
 | .num _=>rfl
 | .box _=>rfl
 | .aft _=>rfl
 | .two _ a b=>by simp[Sm.d,Hp.noL,noLs,a.noL,b.noL]
theorem fW{v:Vl}{d:D}(h:Hp.noL d=true):Vl.sub v d=.cl d:=by unfold Vl.sub;rw[if_pos h]
theorem mT(x:D)(r:List D)(h:Hp.noL x=true):bT (.cl (.tup (x::r))) (.cl (.int 0))=.ok (.cl x):=by
 have:ixN (x::r).length 0=some 0:=eP (k:=0) (by simp)
 unfold bT
 simp only[dH,this,gZ,fW h]
theorem lL(x y:D)(r:List D)(h:Hp.noL y=true):bT (.cl (.tup (x::y::r))) (.cl (.int 1))=.ok (.cl y):=by
 have:ixN (x::y::r).length 1=some 1:=eP (k:=1) (by simp)
 unfold bT
 simp only[dH,this,gZ,gS,fW h]
theorem aEP(x y z:D)(r:List D)(h:Hp.noL z=true):bT (.cl (.tup (x::y::z::r))) (.cl (.int 2))=.ok (.cl z):=by
 have:ixN (x::y::z::r).length 2=some 2:=eP (k:=2) (by simp)
 unfold bT
 simp only[dH,this,gZ,gS,fW h]
theorem nD{is:List Int}{k:Nat}(h:k<is.length):bT (.cl (aN is)) (.cl (.int (k:Int)))=.ok (.cl (.int (is.getD k 0))):=by
 unfold bT aN
 have hl:(is.map D.int).length=is.length:=by simp
 have e:(is.map D.int)[k]? = some (.int (is.getD k 0)):=by simp[h]
 simp only[dH,hl,eP h,e,Vl.sub,Hp.noL,if_true]
def lO(f:Nat):Fn:=⟨3,6,
 (.cons (.set (.n 3) (.idx (.v 0) (.c (.int 0))))
 (.cons (.iff (.cmp .Eq (.v 3) (.c (.str "number")))
  (.cons (.ret (.idx (.v 0) (.c (.int 1))))
  .nil)
  .nil)
 (.cons (.iff (.cmp .Eq (.v 3) (.c (.str "box")))
  (.cons (.ret (.idx (.v 1) (.idx (.v 0) (.c (.int 1)))))
  .nil)
  .nil)
 (.cons (.iff (.cmp .Eq (.v 3) (.c (.str "after")))
  (.cons (.ret (.idx (.v 2) (.idx (.v 0) (.c (.int 1)))))
  .nil)
  .nil)
 (.cons (.set (.n 4) (.call f (.cons (.idx (.v 0) (.c (.int 1))) (.cons (.v 1) (.cons (.v 2) .nil)))))
 (.cons (.set (.n 5) (.call f (.cons (.idx (.v 0) (.c (.int 2))) (.cons (.v 1) (.cons (.v 2) .nil)))))
 (.cons (.ret (.ife (.cmp .Eq (.v 3) (.c (.str "plus"))) (.op .Add (.v 4) (.v 5)) (.op .Sub (.v 4) (.v 5))))
 .nil)))))))⟩
theorem aMX:(("number" : Str) == "number")=true:=by decide +kernel
theorem aMY:(("box" : Str) == "number")=false:=by decide +kernel
theorem aMZ:(("box" : Str) == "box")=true:=by decide +kernel
theorem aNa:(("after" : Str) == "number")=false:=by decide +kernel
theorem aNb:(("after" : Str) == "box")=false:=by decide +kernel
theorem aNc:(("after" : Str) == "after")=true:=by decide +kernel
theorem aNd:∀p,(sX p == "number")=false:=by decide +kernel
theorem aLh:∀p,(sX p == "box")=false:=by decide +kernel
theorem aNe:∀p,(sX p == "after")=false:=by decide +kernel
theorem aNf:∀p,(sX p == "plus")=p:=by decide +kernel
theorem gW{P:Pg}{f:Nat}(hF:P.fns[f]? = some (lO f)){ah be:List Int}{bd:D}{c:Nat}{pl:Bool}(ha:ah.length=c)(hb:be.length=c)(hn:Hp.noL bd=true)(hbd:pl=false->bd=aN be) :
 ∀(s:Sm) (n:Nat),s.wf c pl->call P (n+s.sz) f [s.d,aN ah,bd]=.ok (.int (s.val ah be),false,false)
 | .num k,n,w=>by
  refine bE (F:=lO f) hF rfl (v:=.cl (.int k)) ?_
  exact cs (eO (cZ (v0_ rfl) rfl (mT _ _ rfl))) (mF (cF rfl aMX) (dQ (cZ (v0_ rfl) rfl (lL _ _ _ rfl))))
 | .box k,n,w=>by
  have w:k<c:=w
  refine bE (F:=lO f) hF rfl (v:=.cl (.int (ah.getD k 0))) ?_
  exact cs (eO (cZ (v0_ rfl) rfl (mT _ _ rfl))) (cs (eF (cF rfl aMY)) (mF (cF rfl aMZ) (dQ (cZ (v1_ (bU _)) (cZ (v0_ rfl) rfl (lL _ _ _ rfl)) (nD (by omega))))))
 | .aft k,n,w=>by
  obtain⟨w1,w2⟩:k<c/\pl=false:=w
  have e:=hbd w2
  subst e
  refine bE (F:=lO f) hF rfl (v:=.cl (.int (be.getD k 0))) ?_
  exact cs (eO (cZ (v0_ rfl) rfl (mT _ _ rfl))) (cs (eF (cF rfl aNa)) (cs (eF (cF rfl aNb)) (mF (cF rfl aNc) (dQ (cZ (v2_ (bU _)) (cZ (v0_ rfl) rfl (lL _ _ _ rfl)) (nD (by omega)))))))
 | .two p a b,n,w=>by
  obtain⟨w1,w2⟩:a.wf c pl/\b.wf c pl:=w
  have c1:=gW hF ha hb hn hbd a (n+b.sz) w1
  have c2:=gW hF ha hb hn hbd b (n+a.sz) w2
  rw[show n+b.sz+a.sz=n+a.sz+b.sz by omega] at c1
  have e:n+Sm.sz (.two p a b)=n+a.sz+b.sz+1:=by show n+(1+a.sz+b.sz)=_;omega
  rw[e]
  refine bE (F:=lO f) hF rfl (v:=.cl (.int (Sm.val ah be (.two p a b)))) ?_
  refine cs (eO (cZ (v0_ (Sm.noL _)) rfl (mT _ _ rfl))) (cs (eF (cF rfl (aNd p))) (cs (eF (cF rfl (aLh p))) (cs (eF (cF rfl (aNe p))) (cs (eO (dL (cZ (v0_ (Sm.noL _)) rfl (lL _ _ _ a.noL)) (v1_ (bU _)) (v2_ hn) c1)) (cs (eO (dL (cZ (v0_ (Sm.noL _)) rfl (aEP _ _ _ _ b.noL)) (v1_ (bU _)) (v2_ hn) c2)) (dQ (aFD (cF rfl (aNf p)) ?_)))))))
  cases p <;> rfl
inductive Cn where
 | yes|cmp (i:Bool) (a b:Sm)|nt (c:Cn)|two (p:Bool) (a b:Cn)
def oY(i:Bool):Str:=if i then "is" else "less"
def iQ(p:Bool):Str:=if p then "both" else "either"
def Cn.d:Cn->D
 | .yes=>.tup [.str "yes"]
 | .cmp i a b=>.tup [.str (oY i),a.d,b.d]
 | .nt c=>.tup [.str "not",c.d]
 | .two p a b=>.tup [.str (iQ p),a.d,b.d]
def Cn.sz:Cn->Nat
 | .yes=>1
 | .cmp _ a b=>1+a.sz+b.sz
 | .nt c=>1+c.sz
 | .two _ a b=>1+a.sz+b.sz
def Cn.hold(ah be:List Int):Cn->Bool
 | .yes=>true
 | .cmp i a b=>if i then a.val ah be==b.val ah be else decide (a.val ah be<b.val ah be)
 | .nt c=>!c.hold ah be
 | .two p a b=>if p then a.hold ah be&&b.hold ah be else a.hold ah be||b.hold ah be
def Cn.wf(c:Nat)(pl:Bool):Cn->Prop
 | .yes=>True
 | .cmp _ a b=>a.wf c pl/\b.wf c pl
 | .nt x=>x.wf c pl
 | .two _ a b=>a.wf c pl/\b.wf c pl
theorem Cn.noL:∀s:Cn,Hp.noL s.d=true
 | .yes=>rfl
 | .cmp _ a b=>by simp[Cn.d,Hp.noL,noLs,a.noL,b.noL]
 | .nt c=>by simp[Cn.d,Hp.noL,noLs,c.noL]
 | .two _ a b=>by simp[Cn.d,Hp.noL,noLs,a.noL,b.noL]
def oZ(v f:Nat):Fn:=⟨3,6,
 (.cons (.set (.n 3) (.idx (.v 0) (.c (.int 0))))
 (.cons (.iff (.cmp .Eq (.v 3) (.c (.str "yes")))
  (.cons (.ret (.c (.bl true)))
  .nil)
  .nil)
 (.cons (.iff (.cmp .Eq (.v 3) (.c (.str "not")))
  (.cons (.ret (.nt (.call f (.cons (.idx (.v 0) (.c (.int 1))) (.cons (.v 1) (.cons (.v 2) .nil))))))
  .nil)
  .nil)
 (.cons (.iff (.cmp .Eq (.v 3) (.c (.str "both")))
  (.cons (.ret (.an (.call f (.cons (.idx (.v 0) (.c (.int 1))) (.cons (.v 1) (.cons (.v 2) .nil)))) (.call f (.cons (.idx (.v 0) (.c (.int 2))) (.cons (.v 1) (.cons (.v 2) .nil))))))
  .nil)
  .nil)
 (.cons (.iff (.cmp .Eq (.v 3) (.c (.str "either")))
  (.cons (.ret (.orr (.call f (.cons (.idx (.v 0) (.c (.int 1))) (.cons (.v 1) (.cons (.v 2) .nil)))) (.call f (.cons (.idx (.v 0) (.c (.int 2))) (.cons (.v 1) (.cons (.v 2) .nil))))))
  .nil)
  .nil)
 (.cons (.set (.n 4) (.call v (.cons (.idx (.v 0) (.c (.int 1))) (.cons (.v 1) (.cons (.v 2) .nil)))))
 (.cons (.set (.n 5) (.call v (.cons (.idx (.v 0) (.c (.int 2))) (.cons (.v 1) (.cons (.v 2) .nil)))))
 (.cons (.ret (.ife (.cmp .Eq (.v 3) (.c (.str "is"))) (.cmp .Eq (.v 4) (.v 5)) (.cmp .Lt (.v 4) (.v 5))))
 .nil))))))))⟩
theorem aNg:(("yes" : Str) == "yes")=true:=by decide +kernel
theorem aNh:(("not" : Str) == "yes")=false:=by decide +kernel
theorem aNi:(("not" : Str) == "not")=true:=by decide +kernel
theorem aNj:∀p,(oY p == "yes")=false:=by decide +kernel
theorem aNk:∀p,(oY p == "not")=false:=by decide +kernel
theorem aNl:∀p,(oY p == "both")=false:=by decide +kernel
theorem aNm:∀p,(oY p == "either")=false:=by decide +kernel
theorem aNn:∀p,(oY p == "is")=p:=by decide +kernel
theorem aNo:∀p,(iQ p == "yes")=false:=by decide +kernel
theorem aNp:∀p,(iQ p == "not")=false:=by decide +kernel
theorem aLi:∀p,(iQ p == "both")=p:=by decide +kernel
theorem aNq:∀p,(iQ p == "either")=!p:=by decide +kernel
theorem Sm.sz_pos:∀s:Sm,1<=s.sz
 | .num _=>Ag _|.box _=>Ag _|.aft _=>Ag _
 | .two _ a b=>by show 1<=1+a.sz+b.sz;omega
theorem Cn.sz_pos:∀s:Cn,1<=s.sz
 | .yes=>Ag _
 | .cmp _ a b=>by show 1<=1+a.sz+b.sz;omega
 | .nt c=>by show 1<=1+c.sz;omega
 | .two _ a b=>by show 1<=1+a.sz+b.sz;omega
theorem kK{P:Pg}{v f:Nat}(hV:P.fns[v]? = some (lO v))(hF:P.fns[f]? = some (oZ v f)){ah be:List Int}{bd:D}{c:Nat}{pl:Bool}(ha:ah.length=c)(hb:be.length=c)(hn:Hp.noL bd=true)(hbd:pl=false->bd=aN be) :
 ∀(s:Cn) (n:Nat),s.wf c pl->call P (n+s.sz) f [s.d,aN ah,bd]=.ok (.bl (s.hold ah be),false,false)
 | .yes,n,w=>by
  refine bE (F:=oZ v f) hF rfl (v:=.cl (.bl true)) ?_
  exact cs (eO (cZ (v0_ rfl) rfl (mT _ _ rfl))) (mF (cF rfl aNg) (dQ rfl))
 | .cmp i a b,n,w=>by
  obtain⟨w1,w2⟩:a.wf c pl/\b.wf c pl:=w
  have c1:=gW hV ha hb hn hbd a (n+b.sz) w1
  have c2:=gW hV ha hb hn hbd b (n+a.sz) w2
  rw[show n+b.sz+a.sz=n+a.sz+b.sz by omega] at c1
  have e:n+Cn.sz (.cmp i a b)=n+a.sz+b.sz+1:=by show n+(1+a.sz+b.sz)=_;omega
  rw[e]
  refine bE (F:=oZ v f) hF rfl (v:=.cl (.bl (Cn.hold ah be (.cmp i a b)))) ?_
  refine cs (eO (cZ (v0_ (Cn.noL _)) rfl (mT _ _ rfl))) (cs (eF (cF rfl (aNj i))) (cs (eF (cF rfl (aNk i))) (cs (eF (cF rfl (aNl i))) (cs (eF (cF rfl (aNm i))) (cs (eO (dL (cZ (v0_ (Cn.noL _)) rfl (lL _ _ _ a.noL)) (v1_ (bU _)) (v2_ hn) c1)) (cs (eO (dL (cZ (v0_ (Cn.noL _)) rfl (aEP _ _ _ _ b.noL)) (v1_ (bU _)) (v2_ hn) c2)) (dQ (aFD (cF rfl (aNn i)) ?_))))))))
  cases i <;> rfl
 | .nt x,n,w=>by
  have c1:=kK hV hF ha hb hn hbd x n w
  have e:n+Cn.sz (.nt x)=n+x.sz+1:=by show n+(1+x.sz)=_;omega
  rw[e]
  refine bE (F:=oZ v f) hF rfl (v:=.cl (.bl (Cn.hold ah be (.nt x)))) ?_
  exact cs (eO (cZ (v0_ (Cn.noL _)) rfl (mT _ _ rfl))) (cs (eF (cF rfl aNh)) (mF (cF rfl aNi) (dQ (aMU (dL (cZ (v0_ (Cn.noL _)) rfl (lL _ _ _ x.noL)) (v1_ (bU _)) (v2_ hn) c1)))))
 | .two p a b,n,w=>by
  obtain⟨w1,w2⟩:a.wf c pl/\b.wf c pl:=w
  have c1:=kK hV hF ha hb hn hbd a (n+b.sz) w1
  have c2:=kK hV hF ha hb hn hbd b (n+a.sz) w2
  rw[show n+b.sz+a.sz=n+a.sz+b.sz by omega] at c1
  have e:n+Cn.sz (.two p a b)=n+a.sz+b.sz+1:=by show n+(1+a.sz+b.sz)=_;omega
  rw[e]
  refine bE (F:=oZ v f) hF rfl (v:=.cl (.bl (Cn.hold ah be (.two p a b)))) ?_
  refine cs (eO (cZ (v0_ (Cn.noL _)) rfl (mT _ _ rfl))) (cs (eF (cF rfl (aNo p))) (cs (eF (cF rfl (aNp p))) ?_))
  cases p with
  | true=>exact mF (cF rfl (aLi true)) (dQ (aMV (dL (cZ (v0_ (Cn.noL _)) rfl (lL _ _ _ a.noL)) (v1_ (bU _)) (v2_ hn) c1) (dL (cZ (v0_ (Cn.noL _)) rfl (aEP _ _ _ _ b.noL)) (v1_ (bU _)) (v2_ hn) c2)))
  | false=>exact cs (eF (cF rfl (aLi false))) (mF (cF rfl (aNq false)) (dQ (aLe (dL (cZ (v0_ (Cn.noL _)) rfl (lL _ _ _ a.noL)) (v1_ (bU _)) (v2_ hn) c1) (dL (cZ (v0_ (Cn.noL _)) rfl (aEP _ _ _ _ b.noL)) (v1_ (bU _)) (v2_ hn) c2))))
end HpS
end
noncomputable section
namespace K14
open Hp
def f0:Hp.Fn:=⟨3,6,
 (.cons (.set (.n 3) (.idx (.v 0) (.c (.int 0))))
 (.cons (.iff (.cmp .Eq (.v 3) (.c (.str "number")))
  (.cons (.ret (.idx (.v 0) (.c (.int 1))))
  .nil)
  .nil)
 (.cons (.iff (.cmp .Eq (.v 3) (.c (.str "box")))
  (.cons (.ret (.idx (.v 1) (.idx (.v 0) (.c (.int 1)))))
  .nil)
  .nil)
 (.cons (.iff (.cmp .Eq (.v 3) (.c (.str "after")))
  (.cons (.ret (.idx (.v 2) (.idx (.v 0) (.c (.int 1)))))
  .nil)
  .nil)
 (.cons (.set (.n 4) (.call 0 (.cons (.idx (.v 0) (.c (.int 1))) (.cons (.v 1) (.cons (.v 2) .nil)))))
 (.cons (.set (.n 5) (.call 0 (.cons (.idx (.v 0) (.c (.int 2))) (.cons (.v 1) (.cons (.v 2) .nil)))))
 (.cons (.ret (.ife (.cmp .Eq (.v 3) (.c (.str "plus"))) (.op .Add (.v 4) (.v 5)) (.op .Sub (.v 4) (.v 5))))
 .nil)))))))⟩
def f1:Hp.Fn:=⟨3,6,
 (.cons (.set (.n 3) (.idx (.v 0) (.c (.int 0))))
 (.cons (.iff (.cmp .Eq (.v 3) (.c (.str "yes")))
  (.cons (.ret (.c (.bl true)))
  .nil)
  .nil)
 (.cons (.iff (.cmp .Eq (.v 3) (.c (.str "not")))
  (.cons (.ret (.nt (.call 1 (.cons (.idx (.v 0) (.c (.int 1))) (.cons (.v 1) (.cons (.v 2) .nil))))))
  .nil)
  .nil)
 (.cons (.iff (.cmp .Eq (.v 3) (.c (.str "both")))
  (.cons (.ret (.an (.call 1 (.cons (.idx (.v 0) (.c (.int 1))) (.cons (.v 1) (.cons (.v 2) .nil)))) (.call 1 (.cons (.idx (.v 0) (.c (.int 2))) (.cons (.v 1) (.cons (.v 2) .nil))))))
  .nil)
  .nil)
 (.cons (.iff (.cmp .Eq (.v 3) (.c (.str "either")))
  (.cons (.ret (.orr (.call 1 (.cons (.idx (.v 0) (.c (.int 1))) (.cons (.v 1) (.cons (.v 2) .nil)))) (.call 1 (.cons (.idx (.v 0) (.c (.int 2))) (.cons (.v 1) (.cons (.v 2) .nil))))))
  .nil)
  .nil)
 (.cons (.set (.n 4) (.call 0 (.cons (.idx (.v 0) (.c (.int 1))) (.cons (.v 1) (.cons (.v 2) .nil)))))
 (.cons (.set (.n 5) (.call 0 (.cons (.idx (.v 0) (.c (.int 2))) (.cons (.v 1) (.cons (.v 2) .nil)))))
 (.cons (.ret (.ife (.cmp .Eq (.v 3) (.c (.str "is"))) (.cmp .Eq (.v 4) (.v 5)) (.cmp .Lt (.v 4) (.v 5))))
 .nil))))))))⟩
def f2:Hp.Fn:=⟨3,7,
 (.cons (.iff (.nt (.call 1 (.cons (.idx (.v 1) (.c (.int 0))) (.cons (.v 2) (.cons (.c .non) .nil)))))
  (.cons (.ret (.c .non))
  .nil)
  .nil)
 (.cons (.set (.n 3) (.bi .list (.cons (.v 2) .nil)))
 (.cons (.for (.t [4,5]) (.seq (.idx (.v 1) (.c (.int 1))))
  (.cons (.set (.n 6) (.call 0 (.cons (.v 5) (.cons (.v 2) (.cons (.c .non) .nil)))))
  (.cons (.iff (.nt (.cmp2 .LtE .LtE (.c (.int 0)) (.v 6) (.idx (.idx (.v 0) (.v 4)) (.c (.int 1)))))
   (.cons (.ret (.c .non))
   .nil)
   .nil)
  (.cons (.setIx 3 (.v 4) (.v 6))
  .nil))))
 (.cons (.ret (.bi .tuple (.cons (.v 3) .nil)))
 .nil))))⟩
def f3:Hp.Fn:=⟨2,3,
 (.cons (.iff (.cmp .Lt (.v 1) (.bi .len (.cons (.v 0) .nil)))
  (.cons (.ret (.idx (.v 0) (.v 1)))
  .nil)
  .nil)
 (.cons (.set (.n 2) (.c (.int 0)))
 (.cons (.iff (.cmp .Gt (.bi .len (.cons (.v 0) .nil)) (.c (.int 0)))
  (.cons (.set (.n 2) (.idx (.v 0) (.op .Mod (.op .Add (.op .Mult (.v 1) (.c (.int 7))) (.c (.int 3))) (.bi .len (.cons (.v 0) .nil)))))
  .nil)
  .nil)
 (.cons (.ret (.op .Add (.op .Add (.op .Add (.op .Mult (.v 2) (.c (.int 31))) (.op .Mult (.op .Mult (.v 1) (.v 1)) (.c (.int 7919)))) (.op .Mult (.c (.int 101)) (.v 1))) (.c (.int 17))))
 .nil))))⟩
def f4:Hp.Fn:=⟨2,3,
 (.cons .lend
 (.cons (.set (.n 2) (.op .Mod (.call 3 (.cons (.lix 0 (.c (.int 0))) (.cons (.lix 0 (.c (.int 1))) .nil))) (.c (.int 4294967291))))
 (.cons (.lset 0 (.c (.int 1)) (.op .Add (.lix 0 (.c (.int 1))) (.c (.int 1))))
 (.cons (.retL (.e (.op .Mod (.op .FloorDiv (.op .Mod (.op .Mult (.op .Add (.v 2) (.op .Mult (.c (.int 13)) (.lix 0 (.c (.int 1))))) (.c (.int 48271))) (.c (.int 2147483647))) (.c (.int 3))) (.v 1))))
 .nil))))⟩
def f5:Hp.Fn:=⟨2,7,
 (.cons .lend
 (.cons (.set (.n 2) (.lst .nil))
 (.cons (.mov 3 1)
 (.cons (.forL (.n 4) (.op .Add (.e (.c (.int 1))) (.call 4 (.cons (.e (.c (.int 4))) .nil)))
  (.cons (.setL 5 0 [] (.op .Add (.e (.c (.int 1))) (.call 4 (.cons (.idx (.e (.lst (.cons (.c (.int 2)) (.cons (.c (.int 3)) (.cons (.c (.int 7)) .nil))))) (.call 4 (.cons (.e (.c (.int 3))) .nil))) .nil))))
  (.cons (.set (.n 6) (.idx (.c (.str "kxmbz")) (.v 4)))
  (.cons (.iff (.cmp .Gt (.v 3) (.c (.int 1)))
   (.cons (.appL 2 0 (.tup (.cons (.op .Mult (.e (.v 6)) (.op .Add (.e (.c (.int 1))) (.call 4 (.cons (.e (.c (.int 8))) .nil)))) (.cons (.e (.bi .min (.cons (.v 5) (.cons (.op .Sub (.v 3) (.c (.int 1))) .nil)))) .nil))))
   (.cons (.set (.n 3) (.op .FloorDiv (.v 3) (.op .Add (.c (.int 1)) (.bi .min (.cons (.v 5) (.cons (.op .Sub (.v 3) (.c (.int 1))) .nil))))))
   .nil))
   .nil)
  .nil))))
 (.cons (.retvL 2)
 .nil)))))⟩
def f6:Hp.Fn:=⟨3,4,
 (.cons .lend
 (.cons (.setL 3 0 [] (.call 4 (.cons (.e (.c (.int 6))) .nil)))
 (.cons (.iff (.orr (.cmp .Eq (.v 2) (.c (.int 0))) (.cmp .Lt (.v 3) (.c (.int 3))))
  (.cons (.iff (.cmp .Eq (.op .Mod (.v 3) (.c (.int 2))) (.c (.int 0)))
   (.cons (.retL (.tup (.cons (.e (.c (.str "box"))) (.cons (.call 4 (.cons (.e (.bi .len (.cons (.v 1) .nil))) .nil)) .nil))))
   .nil)
   .nil)
  (.cons (.retL (.tup (.cons (.e (.c (.str "number"))) (.cons (.call 4 (.cons (.idx (.e (.lst (.cons (.c (.int 3)) (.cons (.c (.int 4)) (.cons (.c (.int 8)) (.cons (.c (.int 100)) .nil)))))) (.call 4 (.cons (.e (.c (.int 4))) .nil))) .nil)) .nil))))
  .nil))
  .nil)
 (.cons (.retL (.tup (.cons (.e (.idx (.lst (.cons (.c (.str "plus")) (.cons (.c (.str "minus")) .nil))) (.op .Mod (.v 3) (.c (.int 2))))) (.cons (.call 6 (.cons (.e (.v 1)) (.cons (.e (.op .Sub (.v 2) (.c (.int 1)))) .nil))) (.cons (.call 6 (.cons (.e (.v 1)) (.cons (.e (.op .Sub (.v 2) (.c (.int 1)))) .nil))) .nil)))))
 .nil))))⟩
def f7:Hp.Fn:=⟨3,4,
 (.cons .lend
 (.cons (.setL 3 0 [] (.call 4 (.cons (.e (.c (.int 10))) .nil)))
 (.cons (.iff (.cmp .Eq (.v 3) (.c (.int 0)))
  (.cons (.retL (.e (.tup (.cons (.c (.str "yes")) .nil))))
  .nil)
  .nil)
 (.cons (.iff (.orr (.cmp .Eq (.v 2) (.c (.int 0))) (.cmp .Lt (.v 3) (.c (.int 5))))
  (.cons (.retL (.tup (.cons (.e (.idx (.lst (.cons (.c (.str "is")) (.cons (.c (.str "less")) .nil))) (.op .Mod (.op .FloorDiv (.v 3) (.c (.int 2))) (.c (.int 2))))) (.cons (.call 6 (.cons (.e (.v 1)) (.cons (.e (.op .Mod (.v 3) (.c (.int 2)))) .nil))) (.cons (.call 6 (.cons (.e (.v 1)) (.cons (.e (.c (.int 1))) .nil))) .nil)))))
  .nil)
  .nil)
 (.cons (.iff (.cmp .Lt (.v 3) (.c (.int 7)))
  (.cons (.retL (.tup (.cons (.e (.c (.str "not"))) (.cons (.call 7 (.cons (.e (.v 1)) (.cons (.e (.op .Sub (.v 2) (.c (.int 1)))) .nil))) .nil))))
  .nil)
  .nil)
 (.cons (.retL (.tup (.cons (.e (.idx (.lst (.cons (.c (.str "both")) (.cons (.c (.str "either")) .nil))) (.op .Mod (.v 3) (.c (.int 2))))) (.cons (.call 7 (.cons (.e (.v 1)) (.cons (.e (.op .Sub (.v 2) (.c (.int 1)))) .nil))) (.cons (.call 7 (.cons (.e (.v 1)) (.cons (.e (.op .Sub (.v 2) (.c (.int 1)))) .nil))) .nil)))))
 .nil))))))⟩
def f8:Hp.Fn:=⟨4,7,
 (.cons .lend
 (.cons (.setL 4 0 [] (.call 7 (.cons (.e (.v 1)) (.cons (.e (.v 3)) .nil))))
 (.cons (.set (.n 5) (.lst .nil))
 (.cons (.for (.n 6) (.rng (.c (.int 0)) (.bi .len (.cons (.v 1) .nil)))
  (.cons (.iffL .Lt (.call 4 (.cons (.e (.c (.int 5))) .nil)) (.c (.int 3))
   (.cons (.appL 5 0 (.tup (.cons (.e (.v 6)) (.cons (.call 6 (.cons (.e (.v 1)) (.cons (.e (.c (.int 1))) .nil))) .nil))))
   .nil)
   .nil)
  .nil))
 (.cons (.retL (.tup (.cons (.e (.v 4)) (.cons (.e (.bi .tuple (.cons (.v 5) .nil))) (.cons (.call 4 (.cons (.e (.v 2)) .nil)) .nil)))))
 .nil)))))⟩
def f9:Hp.Fn:=⟨1,1,
 (.cons (.ret (.sset (.comp 1 [] (.n 0) (.seq (.call 10 (.cons (.v 0) .nil))) (.cons (.cmp .Eq (.idx (.v 0) (.c (.int 0))) (.c (.str "box"))) .nil) (.idx (.v 0) (.c (.int 1))))))
 .nil)⟩
def f10:Hp.Fn:=⟨1,3,
 (.cons (.set (.n 1) (.lst (.cons (.v 0) .nil)))
 (.cons (.for (.n 2) (.seq (.sli (.v 0) (.cons (.c (.int 1)) .nil) .nil))
  (.cons (.iff (.isi (.v 2) [.tTuple])
   (.cons (.ext 1 (.call 10 (.cons (.v 2) .nil)))
   .nil)
   .nil)
  .nil))
 (.cons (.retv 1)
 .nil)))⟩
def f11:Hp.Fn:=⟨1,4,
 (.cons (.set (.n 1) (.call 9 (.cons (.idx (.v 0) (.c (.int 0))) .nil)))
 (.cons (.for (.t [2,3]) (.seq (.idx (.v 0) (.c (.int 1))))
  (.cons (.ext 1 (.call 9 (.cons (.v 3) .nil)))
  .nil))
 (.cons (.ret (.sset (.v 1)))
 .nil)))⟩
def f12:Hp.Fn:=⟨1,6,
 (.cons (.set (.n 1) (.lst (.cons (.tup .nil) .nil)))
 (.cons (.for (.t [2,3]) (.seq (.v 0))
  (.cons (.set (.n 4) (.lst .nil))
  (.cons (.for (.n 5) (.seq (.v 1))
   (.cons (.ext 4 (.comp 1 [5] (.n 0) (.rng (.c (.int 0)) (.op .Add (.v 3) (.c (.int 1)))) .nil (.op .Add (.v 1) (.tup (.cons (.v 0) .nil)))))
   .nil))
  (.cons (.mov 1 4)
  .nil))))
 (.cons (.retv 1)
 .nil)))⟩
def f13:Hp.Fn:=⟨1,1,
 (.cons (.ret (.an (.isi (.v 0) [.tInt]) (.nt (.isi (.v 0) [.tBool]))))
 .nil)⟩
def f14:Hp.Fn:=⟨1,1,
 (.cons (.ret (.comp 2 [] (.t [0,1]) (.seq (.idx (.v 0) (.c (.int 1)))) .nil (.v 0)))
 .nil)⟩
def f15:Hp.Fn:=⟨1,3,
 (.cons (.iff (.cmp .Eq (.idx (.v 0) (.c (.int 0))) (.c (.str "box")))
  (.cons (.ret (.dic (.cons (.idx (.v 0) (.c (.int 1))) .nil) (.cons (.c (.bl true)) .nil)))
  .nil)
  .nil)
 (.cons (.dnew 1 false)
 (.cons (.for (.n 2) (.seq (.sli (.v 0) (.cons (.c (.int 1)) .nil) .nil))
  (.cons (.iff (.isi (.v 2) [.tTuple])
   (.cons (.dupd 1 (.call 15 (.cons (.v 2) .nil)))
   .nil)
   .nil)
  .nil))
 (.cons (.retv 1)
 .nil))))⟩
def f16:Hp.Fn:=⟨1,4,
 (.cons (.dset 1 15 (.cons (.idx (.v 0) (.c (.int 0))) .nil))
 (.cons (.for (.t [2,3]) (.seq (.idx (.v 0) (.c (.int 1))))
  (.cons (.dupd 1 (.call 15 (.cons (.v 3) .nil)))
  .nil))
 (.cons (.ret (.srtD 1))
 .nil)))⟩
def f17:Hp.Fn:=⟨2,2,
 (.cons (.iff (.orr (.nt (.isi (.v 0) [.tList])) (.cmp .NotEq (.v 0) (.v 1)))
  (.cons (.ret (.c (.bl false)))
  .nil)
  .nil)
 (.cons (.ret (.cmp .Eq (.comp 1 [] (.n 0) (.seq (.v 0)) (.cons (.nt (.call 13 (.cons (.v 0) .nil))) .nil) (.v 0)) (.lst .nil)))
 .nil))⟩
def f18:Hp.Fn:=⟨4,8,
 (.cons (.dnew 4 true)
 (.cons (.for (.n 5) (.seq (.call 12 (.cons (.v 0) .nil)))
  (.cons (.set (.n 6) (.call 2 (.cons (.v 0) (.cons (.v 1) (.cons (.v 5) .nil)))))
  (.cons (.iff (.cmp .IsNot (.v 6) (.c .non))
   (.cons (.set (.n 6) (.comp 1 [6] (.n 0) (.seq (.v 3)) .nil (.idx (.v 1) (.v 0))))
   .nil)
   .nil)
  (.cons (.set (.n 7) (.bi .tuple (.cons (.comp 1 [5] (.n 0) (.seq (.v 2)) .nil (.idx (.v 1) (.v 0))) .nil)))
  (.cons (.iff (.dgne 4 (.v 7) (.v 6))
   (.cons (.ret (.c (.bl false)))
   .nil)
   .nil)
  (.cons (.dput 4 (.v 7) (.v 6))
  .nil))))))
 (.cons (.ret (.c (.bl true)))
 .nil)))⟩
def f19:Hp.Fn:=⟨1,7,
 (.cons (.set (.n 1) (.lst (.cons (.v 0) (.cons (.c (.int 0)) .nil))))
 (.cons (.setL 2 1 [] (.call 5 (.cons (.e (.c (.int 12))) .nil)))
 (.cons (.for (.n 3) (.rng (.c (.int 0)) (.c (.int 6)))
  (.cons (.setL 4 1 [2,3] (.call 8 (.cons (.e (.v 2)) (.cons (.e (.c (.int 9))) (.cons (.e (.op .Mod (.v 3) (.c (.int 3)))) .nil)))))
  (.cons (.set (.n 5) (.lst (.cons (.call 16 (.cons (.v 4) .nil)) (.cons (.comp 2 [] (.t [0,1]) (.seq (.idx (.v 4) (.c (.int 1)))) .nil (.v 0)) .nil))))
  (.cons (.set2 6 (.call 11 (.cons (.v 4) .nil)) (.call 14 (.cons (.v 4) .nil)))
  (.cons (.iff (.orr (.nt (.callP 17 (.cons (.o2 6 0) (.cons (.idx (.v 5) (.c (.int 0))) .nil)))) (.nt (.callP 17 (.cons (.o2 6 1) (.cons (.idx (.v 5) (.c (.int 1))) .nil)))))
   (.cons (.ret (.c (.bl false)))
   .nil)
   .nil)
  (.cons (.iff (.nt (.callP 18 (.cons (.v 2) (.cons (.v 4) (.cons (.o2 6 0) (.cons (.o2 6 1) .nil))))))
   (.cons (.ret (.c (.bl false)))
   .nil)
   .nil)
  (.cons (.app2 6 0 (.c (.int 7)))
  (.cons (.app2 6 1 (.c (.int 7)))
  (.cons (.iff (.orr (.nt (.call 17 (.cons (.call 11 (.cons (.v 4) .nil)) (.cons (.idx (.v 5) (.c (.int 0))) .nil)))) (.nt (.call 17 (.cons (.call 14 (.cons (.v 4) .nil)) (.cons (.idx (.v 5) (.c (.int 1))) .nil)))))
   (.cons (.ret (.c (.bl false)))
   .nil)
   .nil)
  .nil)))))))))
 (.cons (.ret (.c (.bl true)))
 .nil))))⟩
def pg:Hp.Pg:=⟨[f0,f1,f2,f3,f4,f5,f6,f7,f8,f9,f10,f11,f12,f13,f14,f15,f16,f17,f18,f19],[],[]⟩
end K14
end
noncomputable section
namespace K14
open Hp HpS PySem
theorem pO(j:Int)(h:0<j):∀i:Int,opD .Mod (.cl (.int i)) (.cl (.int j))=.ok (.cl (.int (i % j))):=λi=>aEM h
theorem aCY{i j:Int}(h:-(2 ^ 64)<j/\j<2 ^ 64):opD .Mult (.cl (.int i)) (.cl (.int j))=.ok (.cl (.int (i*j))):=mul_int (by
 unfold pX
 rw[Au h.1,Au h.2]
 simp)
theorem aFF{i j:Int}(h:-(2 ^ 64)<i/\i<2 ^ 64):opD .Mult (.cl (.int i)) (.cl (.int j))=.ok (.cl (.int (i*j))):=mul_int (by
 unfold pX
 rw[Au h.1,Au h.2]
 simp)
def zZ(ns:List Int)(k:Nat):Int:=
 if k<ns.length then ns.getD k 0 else (if 0<ns.length then ns.getD ((k*7+3) % ns.length) 0 else 0)*31+(k:Int)*k*7919+101*k+17
theorem vT{ns:List Int}{k:Nat}(h:k<ns.length):bT ⟨.lst (ns.map D.int),false,true,[]⟩ (.cl (.int (k:Int)))=.ok (.cl (.int (ns.getD k 0))):=by
 have hl:(ns.map D.int).length=ns.length:=lM _
 have e:(ns.map D.int)[k]? = some (.int (ns.getD k 0)):=by simp[h]
 unfold bT
 simp only[dH,hl,eP h,e]
 rfl
theorem aEQ(n:Nat)(ns:List Int){k:Nat}(h:k<=1000000):call pg (n+1) 3 [.lst (ns.map D.int),.int k]=.ok (.int (zZ ns k),false,false):=by
 refine bE (F:=f3) rfl rfl (v:=.cl (.int (zZ ns k))) ?_
 show exs pg (call pg n) [.sh true (.lst (ns.map D.int)),.sh true (.int k),.dead] _=_
 unfold zZ
 by_cases hk:k<ns.length
 . have hd:decide ((k:Int)<(ns.length:Int))=true:=Au (by omega)
   rw[if_pos hk]
   simp only[f3,bJ,eM,bK,fR,gF,mB,aO,bI,cA,gS,gZ,iH,kI,aC,nC,lM,dH,oW,hd,aJ,if_true,jG,eR,vT hk,lY]
 . have hd:decide ((k:Int)<(ns.length:Int))=false:=Aw (by omega)
   rw[if_neg hk]
   have m1:∀i:Int,opD .Mult (.cl (.int i)) (.cl (.int 31))=.ok (.cl (.int (i*31))):=λi=>aCY (by decide)
   have m2:opD .Mult (.cl (.int k)) (.cl (.int k))=.ok (.cl (.int ((k:Int)*k))):=aCY (by omega)
   have m3:opD .Mult (.cl (.int ((k:Int)*k))) (.cl (.int 7919))=.ok (.cl (.int ((k:Int)*k*7919))):=aCY (by decide)
   have m4:opD .Mult (.cl (.int 101)) (.cl (.int k))=.ok (.cl (.int (101*(k:Int)))):=aFF (by decide)
   have m5:opD .Mult (.cl (.int k)) (.cl (.int 7))=.ok (.cl (.int ((k:Int)*7))):=aCY (by decide)
   by_cases hz:0<ns.length
   . have hd2:decide ((0:Int)<(ns.length:Int))=true:=Au (by omega)
     have e:((k:Int)*7+3) % (ns.length:Int)=(((k*7+3) % ns.length:Nat):Int):=by
      rw[Int.natCast_emod,Int.natCast_add,Int.natCast_mul];rfl
     rw[if_pos hz]
     simp only[f3,bJ,eM,bK,fR,gF,mB,cM,aO,bI,cA,gS,gZ,iH,kI,aC,nC,lM,dH,oW,aCT,hd,hd2,aJ,bF,if_false,if_true,aBc,jF,mE,bW,kJ,dW,lS,lZ,eR,gQ,m5,add_int,pO (ns.length:Int) (by omega),e,vT (Nat.mod_lt _ hz),jG,m1,m2,m3,m4,lY]
   . have hd2:decide ((0:Int)<(ns.length:Int))=false:=Aw (by omega)
     rw[if_neg hz]
     simp only[f3,bJ,eM,bK,fR,gF,mB,cM,aO,bI,cA,gS,gZ,iH,kI,aC,nC,lM,dH,oW,aCT,hd,hd2,aJ,bF,if_false,aBc,jF,mE,bW,kJ,dW,lS,lZ,gQ,add_int,jG,m1,m2,m3,m4,lY]
def aT(ns:List Int)(k:Nat):List D:=[.lst (ns.map D.int),.int k]
def nxt(ns:List Int)(k:Nat)(m:Int):Int:=(zZ ns k % 4294967291+13*((k:Int)+1))*48271 % 2147483647 / 3 % m
theorem dY(ns:List Int)(k:Nat){m:Int}(h:0<m):0<=nxt ns k m/\nxt ns k m<m:=⟨Int.emod_nonneg _ (by omega),Int.emod_lt_of_pos _ h⟩
theorem aER(n:Nat)(ns:List Int){k:Nat}(h:k<=1000000){m:Int}(hm:0<m):call pg (n+2) 4 [.err 0 (aT ns k),.int m]=.ok (.tup [.int (nxt ns k m),.err 0 (aT ns (k+1))],false,false):=by
 have hc:=aEQ n ns h
 refine dX (F:=f4) (b:=_) rfl rfl rfl (v:=.cl (.tup [.int (nxt ns k m),.err 0 (aT ns (k+1))])) ?_
 show exs pg (call pg (n+1)) [.lent (aT ns k),.sh true (.int m),.dead] _=_
 have x0:∀r,ev pg (call pg (n+1)) (.lent (aT ns k)::r) (.lix 0 (.c (.int 0)))=.ok ⟨.lst (ns.map D.int),false,true,[]⟩:=λr=>rfl
 have x1:∀k r,ev pg (call pg (n+1)) (.lent (aT ns k)::r) (.lix 0 (.c (.int 1)))=.ok (.cl (.int k)):=λk r=>rfl
 have s2:∀r,ex pg (call pg (n+1)) (.lent (aT ns k)::r) (.lset 0 (.c (.int 1)) (.op .Add (.lix 0 (.c (.int 1))) (.c (.int 1))))=.next (.lent (aT ns (k+1))::r):=λr=>rfl
 have m1:∀i:Int,opD .Mult (.cl (.int i)) (.cl (.int 48271))=.ok (.cl (.int (i*48271))):=λi=>aCY (by decide)
 have m2:∀i:Int,opD .Mult (.cl (.int 13)) (.cl (.int i))=.ok (.cl (.int (13*i))):=λi=>aFF (by decide)
 have d3:∀i:Int,opD .FloorDiv (.cl (.int i)) (.cl (.int 3))=.ok (.cl (.int (i / 3))):=λi=>sW rfl
 have e:((k+1:Nat):Int)=(k:Int)+1:=by omega
 simp only[bJ,eM,jF,gQ,mZ,aO,bI,x0,x1,aC,mC,mN,dH,hc,sV,cM,pO 4294967291 (by decide),aJ,mE,bW,kJ,dW,lS,lZ,aBc,s2,zX,aFE,gF,cA,gS,gZ,eN,iH,m2,m1,add_int,pO 2147483647 (by decide),d3,pO m hm,aEO,aCW,lY,e]
 rfl
def drp:Nat->Ss->Ss
 | 0,s=>s
 | n+1,.cons _ s=>drp n s
 | _+1,.nil=>.nil
def hdS:Ss->S
 | .cons s _=>s
 | .nil=>.pass
theorem stp{P:Pg}{cl:Caller}{σ σ':Sg}{s:S}{ss:Ss}(h:ex P cl σ s=.next σ'):exs P cl σ (.cons s ss)=exs P cl σ' ss:=by rw[bJ,h,aBc]
theorem jI{P:Pg}{cl:Caller}{σ:Sg}{v:Vl}{s:S}{ss:Ss}(h:ex P cl σ s=.ret v):exs P cl σ (.cons s ss)=.ret v:=by rw[bJ,h,lY]
section
variable {P:Pg} {cl:Caller} {l:Nat} {σ σ1 σ2 σ3:Sg}
theorem aLj{a:EL}{x:Vl}(h:evl P cl l σ a=.ok (x,σ1)):evls' P cl l σ (.cons a .nil)=.ok ([x],σ1):=by rw[jH,h];rfl
theorem aES{a b:EL}{x y:Vl}(h:evl P cl l σ a=.ok (x,σ1))(h2:evl P cl l σ1 b=.ok (y,σ2)):evls' P cl l σ (.cons a (.cons b .nil))=.ok ([x,y],σ2):=by rw[jH,h,aC,aLj h2];rfl
theorem aLk{a b c:EL}{x y z:Vl}(h:evl P cl l σ a=.ok (x,σ1))(h2:evl P cl l σ1 b=.ok (y,σ2))(h3:evl P cl l σ2 c=.ok (z,σ3)):evls' P cl l σ (.cons a (.cons b (.cons c .nil)))=.ok ([x,y,z],σ3):=by rw[jH,h,aC,aES h2 h3];rfl
theorem cR{a:E}{d:D}(h:ev P cl σ a=.ok (.cl d)):evl P cl l σ (.e a)=.ok (.cl d,σ):=by rw[aFE,h];rfl
theorem kM{a b:EL}{x y:D}(h:evl P cl l σ a=.ok (.cl x,σ1))(h2:evl P cl l σ1 b=.ok (.cl y,σ2)):evl P cl l σ (.tup (.cons a (.cons b .nil)))=.ok (.cl (.tup [x,y]),σ2):=by rw[zV,aES h h2];rfl
theorem nE{a b c:EL}{x y z:D}(h:evl P cl l σ a=.ok (.cl x,σ1))(h2:evl P cl l σ1 b=.ok (.cl y,σ2))(h3:evl P cl l σ2 c=.ok (.cl z,σ3)):evl P cl l σ (.tup (.cons a (.cons b (.cons c .nil))))=.ok (.cl (.tup [x,y,z]),σ3):=by rw[zV,aLk h h2 h3];rfl
theorem aAa{o:Operator}{a b:EL}{x y z:D}(h:evl P cl l σ a=.ok (.cl x,σ1))(h2:evl P cl l σ1 b=.ok (.cl y,σ2))(h3:opD o (.cl x) (.cl y)=.ok (.cl z)):evl P cl l σ (.op o a b)=.ok (.cl z,σ2):=by
 rw[aIl,h,aC,h2,aC]
 show(opD o (.cl x) (.cl y) >>= λz=>noAl z σ2)=_
 rw[h3];rfl
theorem mH{e:EL}{d:D}{c:List D}{r:Sg}(h:evl P cl 0 σ e=.ok (.cl d,.lent c::r)):ex P cl σ (.retL e)=.ret (.cl (.tup [d,.err 0 c])):=by rw[zX,h];rfl
end
theorem fB(n:Nat){ns:List Int}{k:Nat}(h:k<=1000000){m:Int}(hm:0<m){c:List D}{r r1:Sg}{a:EL}(ha:evl pg (call pg (n+2)) 0 (.lent c::r) a=.ok (.cl (.int m),.lent (aT ns k)::r1)) :
 evl pg (call pg (n+2)) 0 (.lent c::r) (.call 4 (.cons a .nil))=.ok (.cl (.int (nxt ns k m)),.lent (aT ns (k+1))::r1):=vS rfl (aLj ha) (aER n ns h hm)
theorem aAb(i:Int):i % 2=0\/i % 2=1:=by omega
theorem aCZ{a b:Str}{v:Vl}(hv:v.d=.lst [.str a,.str b]){i:Int}(h:i=0\/i=1):bT v (.cl (.int i))=.ok (.cl (.str (if i=0 then a else b))):=by
 unfold bT
 rw[hv]
 rcases h with rfl|rfl <;> rfl
theorem aIm(a b:Str):nQ [.cl (.str a),.cl (.str b)]=⟨.lst [.str a,.str b],true,false,[]⟩:=rfl
abbrev fr(ns:List Int)(k:Nat)(bs:List (Str×Int))(dp:Int)(s:Sl):Sg:=[.lent (aT ns k),.sh true (.lst (aD bs)),.sh true (.int dp),s]
theorem nF{P:Pg}{cl:Caller}{σ:Sg}{a b:E}{x y:Bool}(h1:tst P cl σ a=.ok x)(h2:tst P cl σ b=.ok y):tst P cl σ (.orr a b)=.ok (x||y):=by
 rw[zN,h1,aC]
 cases x with
 | true=>rfl
 | false=>rw[if_neg bN,h2];rfl
theorem pA(n:Nat)(ns:List Int){k:Nat}(hk:k<=900000){bs:List (Str×Int)}(hm:1<=bs.length){dp:Int}(hd:dp=0\/nxt ns k 6<3) :
 ∃(s:Sm) (k':Nat),s.wf bs.length true/\s.sz=1/\k'<=k+3/\call pg (n+3) 6 [.err 0 (aT ns k),.lst (aD bs),.int dp]=.ok (.tup [s.d,.err 0 (aT ns k')],false,false):=by
 have x0:=fB n (ns:=ns) (k:=k) (by omega) (m:=6) (by decide) (c:=aT ns k) (r:=[.sh true (.lst (aD bs)),.sh true (.int dp),.dead]) (a:=.e (.c (.int 6))) (cR rfl)
 have e1:ex pg (call pg (n+2)) (fr ns k bs dp .dead) (.setL 3 0 [] (.call 4 (.cons (.e (.c (.int 6))) .nil)))=.next (fr ns (k+1) bs dp (.sh false (.int (nxt ns k 6)))):=by
  rw[fV,bW,x0];rfl
 have ht:tst pg (call pg (n+2)) (fr ns (k+1) bs dp (.sh false (.int (nxt ns k 6)))) (.orr (.cmp .Eq (.v 2) (.c (.int 0))) (.cmp .Lt (.v 3) (.c (.int 3))))=.ok true:=by
  rw[nF (x:=dp==0) (y:=decide (nxt ns k 6<3)) rfl rfl]
  rcases hd with h|h
  . rw[h];rfl
  . rw[Au h,De]
 have w2:∀cl:Caller,ev pg cl (fr ns (k+1) bs dp (.sh false (.int (nxt ns k 6)))) (.op .Mod (.v 3) (.c (.int 2)))=.ok (.cl (.int (nxt ns k 6 % 2))):=λcl=>by
  simp only[gQ,gF,cM,cA,fr,gS,gZ,eN,aC,pO 2 (by decide)]
 by_cases hz:nxt ns k 6 % 2=0
 . have hb:(0:Int)<((aD bs).length:Int):=by rw[aD,lM];omega
   have x1:=fB n (ns:=ns) (k:=k+1) (by omega) hb (c:=aT ns (k+1)) (r:=[.sh true (.lst (aD bs)),.sh true (.int dp),.sh false (.int (nxt ns k 6))]) (a:=.e (.bi .len (.cons (.v 1) .nil))) (cR rfl)
   have rg:=dY ns (k+1) hb
   have hl:((aD bs).length:Int)=(bs.length:Int):=by rw[aD,lM]
   refine⟨.box (nxt ns (k+1) (aD bs).length).toNat,k+2,(show _<_ by omega),rfl,by omega,?_⟩
   refine dX (F:=f6) (b:=_) rfl rfl rfl (v:=.cl (.tup [Sm.d (.box (nxt ns (k+1) (aD bs).length).toNat),.err 0 (aT ns (k+2))])) ?_
   show exs pg (call pg (n+2)) (fr ns k bs dp .dead) _=_
   refine(stp e1).trans (jI ?_)
   have ti:tst pg (call pg (n+2)) (fr ns (k+1) bs dp (.sh false (.int (nxt ns k 6)))) (.cmp .Eq (.op .Mod (.v 3) (.c (.int 2))) (.c (.int 0)))=.ok true:=by
    simp only[fR,w2,cM,aC,dH,yA,zS,hz];rfl
   rw[bK,ht,aJ,if_pos rfl]
   refine jI ?_
   rw[bK,ti,aJ,if_pos rfl]
   refine jI ?_
   have:=mH (kM (cR (a:=.c (.str "box")) rfl) x1)
   rw[this]
   show O.ret (.cl (.tup [.tup [.str "box",.int _],_]))=O.ret (.cl (.tup [.tup [.str "box",.int _],_]))
   rw[C1 rg.1]
 . have hz':(nxt ns k 6 % 2==0)=false:=A1.mpr hz
   have x1:=fB n (ns:=ns) (k:=k+1) (by omega) (m:=4) (by decide) (c:=aT ns (k+1)) (r:=[.sh true (.lst (aD bs)),.sh true (.int dp),.sh false (.int (nxt ns k 6))]) (a:=.e (.c (.int 4))) (cR rfl)
   have rg:=dY ns (k+1) (m:=4) (by decide)
   obtain⟨q,hq,q0,q1⟩:∃q:Int,bT (⟨.lst [.int 3,.int 4,.int 8,.int 100],false,false,[]⟩:Vl) (.cl (.int (nxt ns (k+1) 4)))=.ok (.cl (.int q))/\0<q/\q<=100:=by
    generalize nxt ns (k+1) 4=w at rg
    have:w=0\/w=1\/w=2\/w=3:=by omega
    rcases this with rfl|rfl|rfl|rfl
    . exact⟨3,rfl,by decide,by decide⟩
    . exact⟨4,rfl,by decide,by decide⟩
    . exact⟨8,rfl,by decide,by decide⟩
    . exact⟨100,rfl,by decide,by decide⟩
   have xi:evl pg (call pg (n+2)) 0 (fr ns (k+1) bs dp (.sh false (.int (nxt ns k 6)))) (.idx (.e (.lst (.cons (.c (.int 3)) (.cons (.c (.int 4)) (.cons (.c (.int 8)) (.cons (.c (.int 100)) .nil)))))) (.call 4 (.cons (.e (.c (.int 4))) .nil)))=.ok (.cl (.int q),fr ns (k+2) bs dp (.sh false (.int (nxt ns k 6)))):=by
    rw[zU]
    show(evl pg (call pg (n+2)) 0 (fr ns (k+1) bs dp (.sh false (.int (nxt ns k 6)))) (.call 4 (.cons (.e (.c (.int 4))) .nil)) >>= λy=>bT (⟨.lst [.int 3,.int 4,.int 8,.int 100],false,false,[]⟩:Vl) y.1.nr >>= λz=>noAl z y.2)=_
    rw[x1]
    show(bT (⟨.lst [.int 3,.int 4,.int 8,.int 100],false,false,[]⟩:Vl) (.cl (.int (nxt ns (k+1) 4))) >>= λz=>noAl z _)=_
    rw[hq];rfl
   have x2:=fB n (ns:=ns) (k:=k+2) (by omega) q0 (c:=aT ns (k+1)) (r:=[.sh true (.lst (aD bs)),.sh true (.int dp),.sh false (.int (nxt ns k 6))]) xi
   have rg2:=dY ns (k+2) q0
   refine⟨.num (nxt ns (k+2) q),k+3,⟨rg2.1,by omega⟩,rfl,by omega,?_⟩
   refine dX (F:=f6) (b:=_) rfl rfl rfl (v:=.cl (.tup [Sm.d (.num (nxt ns (k+2) q)),.err 0 (aT ns (k+3))])) ?_
   show exs pg (call pg (n+2)) (fr ns k bs dp .dead) _=_
   refine(stp e1).trans (jI ?_)
   have ti:tst pg (call pg (n+2)) (fr ns (k+1) bs dp (.sh false (.int (nxt ns k 6)))) (.cmp .Eq (.op .Mod (.v 3) (.c (.int 2))) (.c (.int 0)))=.ok false:=by
    simp only[fR,w2,cM,aC,dH,yA,zS,hz']
   rw[bK,ht,aJ,if_pos rfl]
   refine(stp (σ':=fr ns (k+1) bs dp (.sh false (.int (nxt ns k 6)))) ?_).trans (jI ?_)
   . rw[bK,ti,aJ,if_neg bN];rfl
   . exact mH (kM (cR (a:=.c (.str "number")) rfl) x2)
theorem aDa(n:Nat)(ns:List Int){k:Nat}(hk:k<=800000){bs:List (Str×Int)}(hm:1<=bs.length){dp:Int}(hd:dp=0\/dp=1) :
 ∃(s:Sm) (k':Nat),s.wf bs.length true/\s.sz<=3/\k'<=k+10/\call pg (n+4) 6 [.err 0 (aT ns k),.lst (aD bs),.int dp]=.ok (.tup [s.d,.err 0 (aT ns k')],false,false):=by
 by_cases hb:dp=0\/nxt ns k 6<3
 . obtain⟨s,k',h1,h2,h3,h4⟩:=pA (n+1) ns (k:=k) (by omega) hm hb
   exact⟨s,k',h1,by omega,by omega,h4⟩
 . have h1:dp=1:=by omega
   subst h1
   have h3:¬ nxt ns k 6<3:=λz=>hb (.inr z)
   have x0:=fB (n+1) (ns:=ns) (k:=k) (by omega) (m:=6) (by decide) (c:=aT ns k) (r:=[.sh true (.lst (aD bs)),.sh true (.int 1),.dead]) (a:=.e (.c (.int 6))) (cR rfl)
   have e1:ex pg (call pg (n+3)) (fr ns k bs 1 .dead) (.setL 3 0 [] (.call 4 (.cons (.e (.c (.int 6))) .nil)))=.next (fr ns (k+1) bs 1 (.sh false (.int (nxt ns k 6)))):=by
    rw[fV,bW,x0];rfl
   obtain⟨s,k1,s1,s2,s3,s4⟩:=pA n ns (k:=k+1) (by omega) hm (dp:=0) (.inl rfl)
   obtain⟨t,k2,t1,t2,t3,t4⟩:=pA n ns (k:=k1) (by omega) hm (dp:=0) (.inl rfl)
   generalize nxt ns k 6=w at h3 e1
   have ht:tst pg (call pg (n+3)) (fr ns (k+1) bs 1 (.sh false (.int w))) (.orr (.cmp .Eq (.v 2) (.c (.int 0))) (.cmp .Lt (.v 3) (.c (.int 3))))=.ok false:=by
    rw[nF (x:=false) (y:=decide (w<3)) rfl rfl,Aw h3];rfl
   have p2:=aCZ (a:= "plus") (b:= "minus") (v:=⟨.lst [.str "plus",.str "minus"],true,false,[]⟩) rfl (aAb w)
   have hw:(if w % 2=0 then ("plus" : Str) else "minus")=sX (decide (w % 2=0)):=by
    unfold sX;by_cases h:w % 2=0 <;> simp[h]
   rw[hw] at p2
   have ew:evl pg (call pg (n+3)) 0 (fr ns (k+1) bs 1 (.sh false (.int w))) (.e (.idx (.lst (.cons (.c (.str "plus")) (.cons (.c (.str "minus")) .nil))) (.op .Mod (.v 3) (.c (.int 2)))))=.ok (.cl (.str (sX (decide (w % 2=0)))),fr ns (k+1) bs 1 (.sh false (.int w))):=by
    refine cR ?_
    simp only[eR,oR,aO,bI,gQ,gF,cM,cA,fr,gS,gZ,eN,aC,pO 2 (by decide),aIm,p2]
   have cl1:∀{k k':Nat} {s:Sm},call pg (n+3) 6 [.err 0 (aT ns k),.lst (aD bs),.int 0]=.ok (.tup [s.d,.err 0 (aT ns k')],false,false)->evl pg (call pg (n+3)) 0 (fr ns k bs 1 (.sh false (.int w))) (.call 6 (.cons (.e (.v 1)) (.cons (.e (.op .Sub (.v 2) (.c (.int 1)))) .nil)))=.ok (.cl s.d,fr ns k' bs 1 (.sh false (.int w))):=λ{k k' s} h=>
    vS (vs:=[⟨.lst (aD bs),false,true,[]⟩,.cl (.int 0)]) rfl rfl h
   refine⟨.two (decide (w % 2=0)) s t,k2,⟨s1,t1⟩,by show 1+s.sz+t.sz<=3;omega,by omega,?_⟩
   refine dX (F:=f6) (b:=_) rfl rfl rfl (v:=.cl (.tup [Sm.d (.two (decide (w % 2=0)) s t),.err 0 (aT ns k2)])) ?_
   show exs pg (call pg (n+3)) (fr ns k bs 1 .dead) _=_
   refine(stp e1).trans ((stp (σ':=fr ns (k+1) bs 1 (.sh false (.int w))) ?_).trans (jI ?_))
   . rw[bK,ht,aJ,if_neg bN];rfl
   . exact mH (nE ew (cl1 s4) (cl1 t4))
theorem aIn(n:Nat){ns:List Int}{k:Nat}(hk:k<=800000){bs:List (Str×Int)}(hm:1<=bs.length){dp:Int}(hd:dp=0\/dp=1){b:EL}{r:Sg}
 (ha:evl pg (call pg (n+4)) 0 (.lent (aT ns k)::.sh true (.lst (aD bs))::r) b=.ok (.cl (.int dp),.lent (aT ns k)::.sh true (.lst (aD bs))::r)) :
 ∃(s:Sm) (k':Nat),s.wf bs.length true/\s.sz<=3/\k'<=k+10/\evl pg (call pg (n+4)) 0 (.lent (aT ns k)::.sh true (.lst (aD bs))::r) (.call 6 (.cons (.e (.v 1)) (.cons b .nil)))=.ok (.cl s.d,.lent (aT ns k')::.sh true (.lst (aD bs))::r):=by
 obtain⟨s,k',h1,h2,h3,h4⟩:=aDa n ns hk hm hd
 exact⟨s,k',h1,h2,h3,vS (vs:=[⟨.lst (aD bs),false,true,[]⟩,.cl (.int dp)]) rfl (aES rfl ha) h4⟩
theorem qS(n:Nat)(ns:List Int){k:Nat}(hk:k<=700000){bs:List (Str×Int)}(hm:1<=bs.length){dp:Int}(hd:dp=0\/nxt ns k 10<5) :
 ∃(q:Cn) (k':Nat),q.wf bs.length true/\q.sz<=7/\k'<=k+21/\call pg (n+5) 7 [.err 0 (aT ns k),.lst (aD bs),.int dp]=.ok (.tup [q.d,.err 0 (aT ns k')],false,false):=by
 have x0:=fB (n+2) (ns:=ns) (k:=k) (by omega) (m:=10) (by decide) (c:=aT ns k) (r:=[.sh true (.lst (aD bs)),.sh true (.int dp),.dead]) (a:=.e (.c (.int 10))) (cR rfl)
 have e1:ex pg (call pg (n+4)) (fr ns k bs dp .dead) (.setL 3 0 [] (.call 4 (.cons (.e (.c (.int 10))) .nil)))=.next (fr ns (k+1) bs dp (.sh false (.int (nxt ns k 10)))):=by
  rw[fV,bW,x0];rfl
 generalize nxt ns k 10=w at hd e1
 have t0:tst pg (call pg (n+4)) (fr ns (k+1) bs dp (.sh false (.int w))) (.cmp .Eq (.v 3) (.c (.int 0)))=.ok (w==0):=rfl
 by_cases hw:w=0
 . refine⟨.yes,k+1,trivial,by decide,by omega,?_⟩
   refine dX (F:=f7) (b:=_) rfl rfl rfl (v:=.cl (.tup [Cn.d .yes,.err 0 (aT ns (k+1))])) ?_
   show exs pg (call pg (n+4)) (fr ns k bs dp .dead) _=_
   refine(stp e1).trans (jI ?_)
   rw[bK,t0,hw,aJ]
   exact jI (mH (cR rfl))
 . have hw':(w==0)=false:=A1.mpr hw
   have m2:∀e,ev pg (call pg (n+4)) (fr ns (k+1) bs dp (.sh false (.int w))) e=.ok (.cl (.int w))->ev pg (call pg (n+4)) (fr ns (k+1) bs dp (.sh false (.int w))) (.op .Mod e (.c (.int 2)))=.ok (.cl (.int (w % 2))):=λe h=>by
    rw[gQ,h,aC,cM,aC,pO 2 (by decide)]
   obtain⟨s,k1,s1,s2,s3,s4⟩:=aIn n (ns:=ns) (k:=k+1) (by omega) hm (aAb w) (b:=.e (.op .Mod (.v 3) (.c (.int 2)))) (r:=[.sh true (.int dp),.sh false (.int w)]) (cR (m2 _ rfl))
   obtain⟨t,k2,t1,t2,t3,t4⟩:=aIn n (ns:=ns) (k:=k1) (by omega) hm (dp:=1) (.inr rfl) (b:=.e (.c (.int 1))) (r:=[.sh true (.int dp),.sh false (.int w)]) (cR rfl)
   have d2:opD .FloorDiv (.cl (.int w)) (.cl (.int 2))=.ok (.cl (.int (w / 2))):=sW rfl
   have p2:=aCZ (a:= "is") (b:= "less") (v:=⟨.lst [.str "is",.str "less"],true,false,[]⟩) rfl (aAb (w / 2))
   have hwc:(if w / 2 % 2=0 then ("is" : Str) else "less")=oY (decide (w / 2 % 2=0)):=by
    unfold oY;by_cases h:w / 2 % 2=0 <;> simp[h]
   rw[hwc] at p2
   have ew:evl pg (call pg (n+4)) 0 (fr ns (k+1) bs dp (.sh false (.int w))) (.e (.idx (.lst (.cons (.c (.str "is")) (.cons (.c (.str "less")) .nil))) (.op .Mod (.op .FloorDiv (.v 3) (.c (.int 2))) (.c (.int 2)))))=.ok (.cl (.str (oY (decide (w / 2 % 2=0)))),fr ns (k+1) bs dp (.sh false (.int w))):=by
    refine cR ?_
    simp only[eR,oR,aO,bI,gQ,gF,cM,cA,fr,gS,gZ,eN,aC,d2,pO 2 (by decide),aIm,p2]
   have ht:tst pg (call pg (n+4)) (fr ns (k+1) bs dp (.sh false (.int w))) (.orr (.cmp .Eq (.v 2) (.c (.int 0))) (.cmp .Lt (.v 3) (.c (.int 5))))=.ok true:=by
    rw[nF (x:=dp==0) (y:=decide (w<5)) rfl rfl]
    rcases hd with h|h
    . rw[h];rfl
    . rw[Au h,De]
   refine⟨.cmp (decide (w / 2 % 2=0)) s t,k2,⟨s1,t1⟩,by show 1+s.sz+t.sz<=7;omega,by omega,?_⟩
   refine dX (F:=f7) (b:=_) rfl rfl rfl (v:=.cl (.tup [Cn.d (.cmp (decide (w / 2 % 2=0)) s t),.err 0 (aT ns k2)])) ?_
   show exs pg (call pg (n+4)) (fr ns k bs dp .dead) _=_
   refine(stp e1).trans ((stp (σ':=fr ns (k+1) bs dp (.sh false (.int w))) ?_).trans (jI ?_))
   . rw[bK,t0,hw',aJ];rfl
   . rw[bK,ht,aJ]
     exact jI (mH (nE ew s4 t4))
theorem pB(ns:List Int){bs:List (Str×Int)}(hm:1<=bs.length):∀(d n k:Nat),d<=2->k+200*d<=600000 ->
 ∃(q:Cn) (k':Nat),q.wf bs.length true/\q.sz+1<=8*2 ^ d/\k'+1<=k+22*2 ^ d/\call pg (n+d+5) 7 [.err 0 (aT ns k),.lst (aD bs),.int d]=.ok (.tup [q.d,.err 0 (aT ns k')],false,false)
 | 0,n,k,_,hk=>by
  obtain⟨q,k',h1,h2,h3,h4⟩:=qS n ns (k:=k) (by omega) hm (dp:=0) (.inl rfl)
  exact⟨q,k',h1,by omega,by omega,h4⟩
 | d+1,n,k,hd2,hk=>by
  have hp:2 ^ (d+1)=2*2 ^ d:=by rw[Nat.pow_succ,Nat.mul_comm]
  have hp1:2 ^ d<=2:=by
   have:d<=1:=by omega
   exact Nat.pow_le_pow_right (by decide) this
  have hp2:1<=2 ^ d:=Nat.one_le_two_pow
  by_cases hb:nxt ns k 10<5
  . obtain⟨q,k',h1,h2,h3,h4⟩:=qS (n+(d+1)) ns (k:=k) (by omega) hm (dp:=((d+1:Nat):Int)) (.inr hb)
    exact⟨q,k',h1,by omega,by omega,h4⟩
  . have x0:=fB (n+d+3) (ns:=ns) (k:=k) (by omega) (m:=10) (by decide) (c:=aT ns k) (r:=[.sh true (.lst (aD bs)),.sh true (.int ((d+1:Nat):Int)),.dead]) (a:=.e (.c (.int 10))) (cR rfl)
    have rg:=dY ns k (m:=10) (by decide)
    have e1:ex pg (call pg (n+d+5)) (fr ns k bs ((d+1:Nat):Int) .dead) (.setL 3 0 [] (.call 4 (.cons (.e (.c (.int 10))) .nil)))=.next (fr ns (k+1) bs ((d+1:Nat):Int) (.sh false (.int (nxt ns k 10)))):=by
     rw[fV,bW,x0];rfl
    obtain⟨s,k1,s1,s2,s3,s4⟩:=pB ns hm d n (k+1) (by omega) (by omega)
    obtain⟨t,k2,t1,t2,t3,t4⟩:=pB ns hm d n k1 (by omega) (by omega)
    generalize nxt ns k 10=w at hb e1 rg
    have hw':(w==0)=false:=A1.mpr (by omega)
    have t0:tst pg (call pg (n+d+5)) (fr ns (k+1) bs ((d+1:Nat):Int) (.sh false (.int w))) (.cmp .Eq (.v 3) (.c (.int 0)))=.ok (w==0):=rfl
    have hd':((((d+1:Nat):Int))==0)=false:=A1.mpr (by omega)
    have ht:tst pg (call pg (n+d+5)) (fr ns (k+1) bs ((d+1:Nat):Int) (.sh false (.int w))) (.orr (.cmp .Eq (.v 2) (.c (.int 0))) (.cmp .Lt (.v 3) (.c (.int 5))))=.ok false:=by
     rw[nF (x:=(((d+1:Nat):Int))==0) (y:=decide (w<5)) rfl rfl,Aw hb,hd'];rfl
    have t7:tst pg (call pg (n+d+5)) (fr ns (k+1) bs ((d+1:Nat):Int) (.sh false (.int w))) (.cmp .Lt (.v 3) (.c (.int 7)))=.ok (decide (w<7)):=rfl
    have ed:((d+1:Nat):Int)-1=(d:Int):=by omega
    have el:∀k,evl pg (call pg (n+d+5)) 0 (fr ns k bs ((d+1:Nat):Int) (.sh false (.int w))) (.e (.op .Sub (.v 2) (.c (.int 1))))=.ok (.cl (.int d),fr ns k bs ((d+1:Nat):Int) (.sh false (.int w))):=λk=>by
     refine cR ?_
     rw[<-ed];rfl
    have cl1:∀{k k':Nat} {q:Cn},call pg (n+d+5) 7 [.err 0 (aT ns k),.lst (aD bs),.int d]=.ok (.tup [q.d,.err 0 (aT ns k')],false,false)->evl pg (call pg (n+d+5)) 0 (fr ns k bs ((d+1:Nat):Int) (.sh false (.int w))) (.call 7 (.cons (.e (.v 1)) (.cons (.e (.op .Sub (.v 2) (.c (.int 1)))) .nil)))=.ok (.cl q.d,fr ns k' bs ((d+1:Nat):Int) (.sh false (.int w))):=λ{k k' q} h=>
     vS (vs:=[⟨.lst (aD bs),false,true,[]⟩,.cl (.int d)]) rfl (aES rfl (el k)) h
    have step:∀{v:Vl},exs pg (call pg (n+d+5)) (fr ns (k+1) bs ((d+1:Nat):Int) (.sh false (.int w))) (drp 4 f7.body)=.ret v->call pg (n+(d+1)+5) 7 [.err 0 (aT ns k),.lst (aD bs),.int ((d+1:Nat):Int)]=.ok (v.d,v.fr,v.pa):=λ{v} h=>by
     refine dX (F:=f7) (b:=_) rfl rfl rfl (v:=v) ?_
     show exs pg (call pg (n+d+5)) (fr ns k bs ((d+1:Nat):Int) .dead) _=_
     refine(stp e1).trans ((stp (σ':=fr ns (k+1) bs ((d+1:Nat):Int) (.sh false (.int w))) ?_).trans ((stp (σ':=fr ns (k+1) bs ((d+1:Nat):Int) (.sh false (.int w))) ?_).trans h))
     . rw[bK,t0,hw',aJ];rfl
     . rw[bK,ht,aJ];rfl
    by_cases h7:w<7
    . refine⟨.nt s,k1,s1,by show 1+s.sz+1<=_;omega,by omega,step (v:=.cl (.tup [Cn.d (.nt s),.err 0 (aT ns k1)])) (jI ?_)⟩
      rw[bK,t7,Au h7,aJ]
      exact jI (mH (kM (cR (a:=.c (.str "not")) rfl) (cl1 s4)))
    . have p2:=aCZ (a:= "both") (b:= "either") (v:=⟨.lst [.str "both",.str "either"],true,false,[]⟩) rfl (aAb w)
      have hwj:(if w % 2=0 then ("both" : Str) else "either")=iQ (decide (w % 2=0)):=by
       unfold iQ;by_cases h:w % 2=0 <;> simp[h]
      rw[hwj] at p2
      have ew:evl pg (call pg (n+d+5)) 0 (fr ns (k+1) bs ((d+1:Nat):Int) (.sh false (.int w))) (.e (.idx (.lst (.cons (.c (.str "both")) (.cons (.c (.str "either")) .nil))) (.op .Mod (.v 3) (.c (.int 2)))))=.ok (.cl (.str (iQ (decide (w % 2=0)))),fr ns (k+1) bs ((d+1:Nat):Int) (.sh false (.int w))):=by
       refine cR ?_
       simp only[eR,oR,aO,bI,gQ,gF,cM,cA,fr,gS,gZ,eN,aC,pO 2 (by decide),aIm,p2]
      refine⟨.two (decide (w % 2=0)) s t,k2,⟨s1,t1⟩,by show 1+s.sz+t.sz+1<=_;omega,by omega,step (v:=.cl (.tup [Cn.d (.two (decide (w % 2=0)) s t),.err 0 (aT ns k2)])) ((stp (σ':=fr ns (k+1) bs ((d+1:Nat):Int) (.sh false (.int w))) ?_).trans (jI ?_))⟩
      . rw[bK,t7,Aw h7,aJ];rfl
      . exact mH (nE ew (cl1 s4) (cl1 t4))
structure Way where
 g:Cn
 ps:List (Nat×Sm)
 nx:Int
def dI(p:Nat×Sm):D:=.tup [.int p.1,p.2.d]
def Way.d(w:Way):D:=.tup [w.g.d,.tup (w.ps.map dI),.int w.nx]
def Up(ps:List (Nat×Sm)):Prop:=ps.Pairwise λp q=>p.1<q.1
structure qT (m:Nat) (p:Nat×Sm):Prop where
 box:p.1<m
 wf:p.2.wf m true
 sz:p.2.sz<=3
structure fC (m:Nat) (w:Way):Prop where
 g:w.g.wf m true
 gs:w.g.sz<=31
 ps:∀p∈w.ps,qT m p
 up:Up w.ps
theorem aAc(p:Nat×Sm):noL (dI p)=true:=aEN rfl p.2.noL
theorem iI(ps:List (Nat×Sm)):noLs (ps.map dI)=true:=eG aAc ps
theorem fX(w:Way):noL w.d=true:=by simp[Way.d,noL,noLs,w.g.noL,iI]
theorem aAd(i:Nat){ds:List D}(h:noLs ds=true):biD .tuple [⟨.lst ds,false,false,[i]⟩]=.ok (.cl (.tup ds)):=by
 show R.ok (Vl.mk (.tup ds) false (false&&!noLs ds) (if noLs ds=true then [] else [i]))=_
 rw[h];rfl
abbrev wf(ns:List Int)(k:Nat)(bs:List (Str×Int))(m dp:Int)(g:Cn)(ps:List (Nat×Sm))(s:Sl):Sg:=[.lent (aT ns k),.sh true (.lst (aD bs)),.sh true (.int m),.sh true (.int dp),.sh false g.d,.own false (ps.map dI),s]
abbrev aLl:Ss:=match hdS (drp 3 f8.body) with|.for _ _ b=>b|_=>.nil
theorem aDb(n:Nat){ns:List Int}{k:Nat}(hk:k<=500000){bs:List (Str×Int)}(hm:1<=bs.length)(hm4:bs.length<=4){m dp:Int}{g:Cn}{ps:List (Nat×Sm)}{i:Nat}(hi:i<bs.length)(hp:∀p∈ps,qT bs.length p/\p.1<i)(hu:Up ps)(hl:ps.length<=i) :
 ∃(ps':List (Nat×Sm)) (k':Nat),(∀p∈ps',qT bs.length p/\p.1<i+1)/\Up ps'/\ps'.length<=i+1/\k'<=k+11 /\
  exs pg (call pg (n+4)) (wf ns k bs m dp g ps (.sh false (.int i))) aLl=.next (wf ns k' bs m dp g ps' (.sh false (.int i))):=by
 have x0:=fB (n+2) (ns:=ns) (k:=k) (by omega) (m:=5) (by decide) (c:=aT ns k) (r:=[.sh true (.lst (aD bs)),.sh true (.int m),.sh true (.int dp),.sh false g.d,.own false (ps.map dI),.sh false (.int i)]) (a:=.e (.c (.int 5))) (cR rfl)
 generalize nxt ns k 5=w at x0
 by_cases hw:w<3
 . obtain⟨s,k',s1,s2,s3,s4⟩:=aIn n (ns:=ns) (k:=k+1) (by omega) hm (dp:=1) (.inr rfl) (b:=.e (.c (.int 1))) (r:=[.sh true (.int m),.sh true (.int dp),.sh false g.d,.own false (ps.map dI),.sh false (.int i)]) (cR rfl)
   refine⟨ps++[(i,s)],k',λp h=>?_,?_,by rw[lA,Bq];omega,by omega,?_⟩
   . rcases A3.mp h with h|h
     . exact⟨(hp p h).1,by have:=(hp p h).2;omega⟩
     . rw[Az.mp h]
       exact⟨⟨hi,s1,s2⟩,Cg i⟩
   . unfold Up
     rw[List.pairwise_append]
     refine⟨hu,List.pairwise_singleton _ _,λp h q h'=>?_⟩
     rw[Az.mp h']
     exact(hp p h).2
   . have et:=kM (cR (P:=pg) (cl:=call pg (n+4)) (l:=0) (σ:=wf ns (k+1) bs m dp g ps (.sh false (.int i))) (a:=.v 6) (d:=.int i) rfl) s4
     have hll:(ps.map dI++[dI (i,s)]).length<=lim:=by
      rw[lA,lM,Bq];unfold lim;omega
     refine(stp (σ':=wf ns k' bs m dp g (ps++[(i,s)]) (.sh false (.int i))) ?_)
     rw[zY,x0,aJ]
     show O.from _ (R.ok (Vl.cl (.int 3))) (λz=>match bG .Lt (.int w) z.d with|some k=>if k then exs pg (call pg (n+4)) _ _ else exs pg (call pg (n+4)) _ _|none=>.bad)=_
     rw[aJ,dH,oW,Au hw]
     refine stp ?_
     rw[zW]
     show O.from _ (evl pg (call pg (n+4)) 0 (wf ns (k+1) bs m dp g ps (.sh false (.int i))) _) _=_
     rw[et,aJ]
     show(if (ps.map dI++[dI (i,s)]).length<=lim then O.next ((wf ns k' bs m dp g ps (.sh false (.int i))).set 5 _) else O.bad)=_
     rw[if_pos hll]
     simp[wf]
     exact⟨rfl,rfl⟩
 . refine⟨ps,k+1,λp h=>⟨(hp p h).1,by have:=(hp p h).2;omega⟩,hu,by omega,by omega,?_⟩
   refine(stp (σ':=wf ns (k+1) bs m dp g ps (.sh false (.int i))) ?_)
   rw[zY,x0,aJ]
   show O.from _ (R.ok (Vl.cl (.int 3))) (λz=>match bG .Lt (.int w) z.d with|some k=>if k then exs pg (call pg (n+4)) _ _ else exs pg (call pg (n+4)) _ _|none=>.bad)=_
   rw[aJ,dH,oW,Aw hw]
   rfl
theorem aET(n:Nat)(ns:List Int){k:Nat}(hk:k<=400000){bs:List (Str×Int)}(hm:1<=bs.length)(hm4:bs.length<=4){m:Int}(hm0:0<m){d:Nat}(hd:d<=2) :
 ∃(w:Way) (k':Nat),fC bs.length w/\(0<=w.nx/\w.nx<m)/\k'<=k+200/\call pg (n+8) 8 [.err 0 (aT ns k),.lst (aD bs),.int m,.int d]=.ok (.tup [w.d,.err 0 (aT ns k')],false,false):=by
 obtain⟨g,k1,g1,g2,g3,g4⟩:=pB ns hm d (n+2-d) k hd (by omega)
 rw[show n+2-d+d+5=n+7 by omega] at g4
 have hp2:2 ^ d<=4:=Nat.pow_le_pow_right (by decide) hd
 have e1:ex pg (call pg (n+7)) [.lent (aT ns k),.sh true (.lst (aD bs)),.sh true (.int m),.sh true (.int d),.dead,.dead,.dead] (.setL 4 0 [] (.call 7 (.cons (.e (.v 1)) (.cons (.e (.v 3)) .nil))))=.next [.lent (aT ns k1),.sh true (.lst (aD bs)),.sh true (.int m),.sh true (.int d),.sh false g.d,.dead,.dead]:=by
  rw[fV,bW,vS (vs:=[⟨.lst (aD bs),false,true,[]⟩,.cl (.int d)]) rfl rfl g4,aJ]
  show O.next (List.set _ 4 (Vl.cl g.d).slot)=_
  rw[dW];rfl
 have hwk:walk pg (call pg (n+7)) (wf ns k1 bs m d g [] .dead) (.rng (.c (.int 0)) (.bi .len (.cons (.v 1) .nil)))=.ok ((List.range bs.length).map λ(j:Nat)=>Vl.cl (.int (j:Int)),[]):=by
  have hs:=nA (n:=bs.length) (by omega)
  have hb:(aD bs).length=bs.length:=lM _
  simp only[vQ,cM,mB,aO,bI,gF,cA,gS,gZ,kI,aC,nC,hb,dH,zO,hs,D1,aCL,xX]
 obtain⟨σ',ef,ps,k2,s6,h1,h2,h3,h4,hσ⟩:=fS (P:=pg) (cl:=call pg (n+7)) (σ:=wf ns k1 bs m d g [] .dead) (t:=.n 6) (b:=aLl) (λi σ=>∃(ps:List (Nat×Sm)) (k2:Nat) (s:Sl),(∀p∈ps,qT bs.length p/\p.1<i)/\Up ps/\ps.length<=i/\k2<=k1+11*i/\σ=wf ns k2 bs m d g ps s) hwk
  ⟨[],k1,.dead,λp h=>absurd h Bw,List.Pairwise.nil,Ag _,Ag _,rfl⟩ λi hi σ ⟨ps,k2,s,h1,h2,h3,h4,hσ⟩=>by
   have hi':i<bs.length:=by simpa using hi
   obtain⟨ps',k',b1,b2,b3,b4,b5⟩:=aDb (n+3) (ns:=ns) (k:=k2) (by omega) hm hm4 (m:=m) (dp:=d) (g:=g) hi' h1 h2 h3
   refine⟨wf ns k2 bs m d g ps (.sh false (.int i)),_,?_,b5,ps',k',_,b1,b2,b3,by omega,rfl⟩
   rw[hσ,kJ]
   simp[wf]
 subst hσ
 have hlen:(List.map (λ(j:Nat)=>Vl.cl (.int (j:Int))) (List.range bs.length)).length=bs.length:=by simp
 have x1:=fB (n+5) (ns:=ns) (k:=k2) (by omega) hm0 (c:=aT ns k2) (r:=[.sh true (.lst (aD bs)),.sh true (.int m),.sh true (.int d),.sh false g.d,.own false (ps.map dI),s6]) (a:=.e (.v 2)) (cR rfl)
 refine⟨⟨g,ps,nxt ns k2 m⟩,k2+1,⟨g1,by show g.sz<=31;omega,λp h=>(h1 p h).1,h2⟩,dY ns k2 hm0,by omega,?_⟩
 refine dX (F:=f8) (b:=_) rfl rfl rfl (v:=.cl (.tup [Way.d ⟨g,ps,nxt ns k2 m⟩,.err 0 (aT ns (k2+1))])) ?_
 show exs pg (call pg (n+7)) [.lent (aT ns k),.sh true (.lst (aD bs)),.sh true (.int m),.sh true (.int d),.dead,.dead,.dead] _=_
 refine(stp e1).trans ((stp (σ':=wf ns k1 bs m d g [] .dead) rfl).trans ((stp ef).trans (jI (mH (nE (cR ?_) (cR ?_) x1)))))
 . exact eN 4 g.d
 . rw[mB,aO,gF]
   show(Sl.val 5 (.own false (ps.map dI)) >>= λx=>evs _ _ _ .nil >>= λxs=>R.ok (x::xs)) >>= _=_
   rw[zQ,aC,bI,aC,aC,aAd 5 (iI ps)]
theorem aEU{P:Pg}{cl:Caller}{σ σ1:Sg}{t:T}{e:EL}{b:Ss}{N:Nat}(I:Nat->Sg->Prop)(he:evl P cl 0 σ e=.ok (.cl (.int (N:Int)),σ1))(hN:N<=1000000)(h0:I 0 σ1)
 (hs:∀(i:Nat) (_:i<N) (σ:Sg),I i σ->∃σ1 σ',bC σ (.cl (.int (i:Int))) t=.ok σ1/\exs P cl σ1 b=.next σ'/\I (i+1) σ'):∃σ',ex P cl σ (.forL t e b)=.next σ'/\I N σ':=by
 show ∃σ',O.from σ (evl P cl 0 σ e) _=.next σ'/\_
 rw[he,aJ]
 show ∃σ',(if aI (N:Int) then cN (λσ x=>O.from σ (bC σ x t) λσ'=>exs P cl σ' b) ((cD 0 (N:Int)).map .cl) σ1 else .bad)=.next σ'/\_
 rw[if_pos (nA hN),xX]
 obtain⟨σ',h1,h2⟩:=oU (f:=λσ x=>O.from σ (bC σ x t) λσ'=>exs P cl σ' b) ((List.range N).map λ(k:Nat)=>Vl.cl (.int (k:Int))) I σ1 h0 λi h σ hI=>by
  have hi:i<N:=by simpa using h
  obtain⟨σ2,σ',e1,e2,h'⟩:=hs i hi σ hI
  refine⟨σ',?_,h'⟩
  have:((List.range N).map λ(k:Nat)=>Vl.cl (.int (k:Int)))[i]=.cl (.int (i:Int)):=by simp
  rw[this]
  show O.from σ (bC σ _ t) _=_
  rw[e1]
  exact e2
 refine⟨σ',h1,?_⟩
 simpa using h2
theorem mul_str{a:Str}{k:Int}(h0:0<=k)(h1:k<=100)(ha:a.length<=100):opD .Mult (.cl (.str a)) (.cl (.int k))=.ok (.cl (.str (Str.rep a k.toNat))):=by
 show R.iff (aI k&&decide (a.length*k.toNat<=lim)) _=_
 have hs:aI k=true:=by
  unfold aI
  rw[Au (by omega),Au (by omega)];rfl
 have hl:a.length*k.toNat<=lim:=by
  have:a.length*k.toNat<=100*100:=Nat.mul_le_mul ha (by omega)
  unfold lim;omega
 rw[hs,Au hl];rfl
theorem aDc(bs:List (Str×Int))(b:Str×Int):dP (bs++[b])=dP bs*(b.2+1):=by
 unfold dP
 rw[Cc,Dk]
 rfl
structure Bo (i:Nat) (bs:List (Str×Int)) (room:Int):Prop where
 few:bs.length<=i
 one:∀b∈bs,1<=b.2/\b.2<=7
 r1:1<=room
 pr:room*dP bs<=12
 first:bs=[]->room=12/\i=0
theorem Bo.next{i:Nat}{bs:List (Str×Int)}{room:Int}(B:Bo i bs room)(h:1<room){top:Int}(h1:1<=top)(h7:top<=7)(x:Str):Bo (i+1) (bs++[(x,if room-1<top then room-1 else top)]) (room / (1+(if room-1<top then room-1 else top))):=by
 have ht:1<=(if room-1<top then room-1 else top)/\(if room-1<top then room-1 else top)<=7/\(if room-1<top then room-1 else top)<=room-1:=by split <;> omega
 revert ht
 generalize (if room-1<top then room-1 else top)=t
 intro ht
 have hp:1<=dP bs:=kH _ 1 (by omega) λy hy=>by
  obtain⟨b,hb,rfl⟩:=A2.mp hy
  have:=B.one b hb
  omega
 refine⟨by rw[lA,Bq];have:=B.few;omega,λb hb=>?_,?_,?_,λz=>?_⟩
 . rcases A3.mp hb with h|h
   . exact B.one b h
   . rw[Az.mp h]
     exact⟨ht.1,ht.2.1⟩
 . have:1*(1+t)<=room:=by omega
   exact(Int.le_ediv_iff_mul_le (by omega)).mpr this
 . rw[aDc]
   have h2:room / (1+t)*(1+t)<=room:=Int.ediv_mul_le _ (by omega)
   have h3:room / (1+t)*(1+t)*dP bs<=room*dP bs:=Int.mul_le_mul_of_nonneg_right h2 (by omega)
   have e:room / (1+t)*(dP bs*(t+1))=room / (1+t)*(1+t)*dP bs:=by
    rw[Int.mul_comm (dP bs),Int.add_comm t 1,Int.mul_assoc]
   rw[e]
   have:=B.pr
   omega
 . have:=congrArg List.length z
   simp at this
abbrev bf(ns:List Int)(k:Nat)(bs:List (Str×Int))(room:Int)(s4 s5 s6:Sl):Sg:=[.lent (aT ns k),.sh true (.int 12),.own false (aD bs),.sh false (.int room),s4,s5,s6]
abbrev aEV:Ss:=match hdS (drp 3 f5.body) with|.forL _ _ b=>b|_=>.nil
theorem aIo{i:Nat}(h:i<4):∃x:Str,x.length<=1/\bT (.cl (.str "kxmbz")) (.cl (.int (i:Int)))=.ok (.cl (.str x)):=by
 have:i=0\/i=1\/i=2\/i=3:=by omega
 rcases this with rfl|rfl|rfl|rfl
 . exact⟨⟨#[107]⟩,by decide,rfl⟩
 . exact⟨⟨#[120]⟩,by decide,rfl⟩
 . exact⟨⟨#[109]⟩,by decide,rfl⟩
 . exact⟨⟨#[98]⟩,by decide,rfl⟩
theorem aDd(n:Nat){ns:List Int}{k:Nat}(hk:k<=100000){bs:List (Str×Int)}{room:Int}{i:Nat}(hi:i<4)(B:Bo i bs room)(s5 s6:Sl) :
 ∃(bs':List (Str×Int)) (room':Int) (k':Nat) (t5 t6:Sl),Bo (i+1) bs' room'/\k'<=k+3/\exs pg (call pg (n+2)) (bf ns k bs room (.sh false (.int i)) s5 s6) aEV=.next (bf ns k' bs' room' (.sh false (.int i)) t5 t6):=by
 have x1:=fB n (ns:=ns) (k:=k) (by omega) (m:=3) (by decide) (c:=aT ns k) (r:=[.sh true (.int 12),.own false (aD bs),.sh false (.int room),.sh false (.int i),s5,s6]) (a:=.e (.c (.int 3))) (cR rfl)
 have rg:=dY ns k (m:=3) (by decide)
 obtain⟨q,hq,q0,q1⟩:∃q:Int,bT (⟨.lst [.int 2,.int 3,.int 7],false,false,[]⟩:Vl) (.cl (.int (nxt ns k 3)))=.ok (.cl (.int q))/\0<q/\q<=7:=by
  generalize nxt ns k 3=w at rg
  have:w=0\/w=1\/w=2:=by omega
  rcases this with rfl|rfl|rfl
  . exact⟨2,rfl,by decide,by decide⟩
  . exact⟨3,rfl,by decide,by decide⟩
  . exact⟨7,rfl,by decide,by decide⟩
 have xi:evl pg (call pg (n+2)) 0 (bf ns k bs room (.sh false (.int i)) s5 s6) (.idx (.e (.lst (.cons (.c (.int 2)) (.cons (.c (.int 3)) (.cons (.c (.int 7)) .nil))))) (.call 4 (.cons (.e (.c (.int 3))) .nil)))=.ok (.cl (.int q),bf ns (k+1) bs room (.sh false (.int i)) s5 s6):=by
  rw[zU]
  show(evl pg (call pg (n+2)) 0 (bf ns k bs room (.sh false (.int i)) s5 s6) (.call 4 (.cons (.e (.c (.int 3))) .nil)) >>= λy=>bT (⟨.lst [.int 2,.int 3,.int 7],false,false,[]⟩:Vl) y.1.nr >>= λz=>noAl z y.2)=_
  rw[x1]
  show(bT (⟨.lst [.int 2,.int 3,.int 7],false,false,[]⟩:Vl) (.cl (.int (nxt ns k 3))) >>= λz=>noAl z _)=_
  rw[hq];rfl
 have x2:=fB n (ns:=ns) (k:=k+1) (by omega) q0 (c:=aT ns k) (r:=[.sh true (.int 12),.own false (aD bs),.sh false (.int room),.sh false (.int i),s5,s6]) xi
 have rg2:=dY ns (k+1) q0
 generalize nxt ns (k+1) q=v at x2 rg2
 obtain⟨x,hx,ex6⟩:=aIo hi
 have e1:ex pg (call pg (n+2)) (bf ns k bs room (.sh false (.int i)) s5 s6) (hdS aEV)=.next (bf ns (k+2) bs room (.sh false (.int i)) (.sh false (.int (1+v))) s6):=by
  show O.from _ (evl pg (call pg (n+2)) 0 (bf ns k bs room (.sh false (.int i)) s5 s6) (.op .Add (.e (.c (.int 1))) _)) _=_
  rw[aAa (cR rfl) x2 (add_int 1 v),aJ]
  rfl
 have e2:ex pg (call pg (n+2)) (bf ns (k+2) bs room (.sh false (.int i)) (.sh false (.int (1+v))) s6) (hdS (drp 1 aEV))=.next (bf ns (k+2) bs room (.sh false (.int i)) (.sh false (.int (1+v))) (.sh false (.str x))):=by
  show O.from _ (bT (.cl (.str "kxmbz")) (.cl (.int (i:Int)))) _=_
  rw[ex6,aJ]
  rfl
 have t3:tst pg (call pg (n+2)) (bf ns (k+2) bs room (.sh false (.int i)) (.sh false (.int (1+v))) (.sh false (.str x))) (.cmp .Gt (.v 3) (.c (.int 1)))=.ok (decide (1<room)):=rfl
 by_cases hr:1<room
 . have x3:=fB n (ns:=ns) (k:=k+2) (by omega) (m:=8) (by decide) (c:=aT ns (k+2)) (r:=[.sh true (.int 12),.own false (aD bs),.sh false (.int room),.sh false (.int i),.sh false (.int (1+v)),.sh false (.str x)]) (a:=.e (.c (.int 8))) (cR rfl)
   have rg3:=dY ns (k+2) (m:=8) (by decide)
   generalize nxt ns (k+2) 8=u at x3 rg3
   have em:∀k bs,ev pg (call pg (n+2)) (bf ns k bs room (.sh false (.int i)) (.sh false (.int (1+v))) (.sh false (.str x))) (.bi .min (.cons (.v 5) (.cons (.op .Sub (.v 3) (.c (.int 1))) .nil)))=.ok (.cl (.int (if room-1<1+v then room-1 else 1+v))):=λ_ _=>rfl
   have B':=B.next hr (top:=1+v) (by omega) (by omega) (Str.rep x (1+u).toNat)
   have ht:1<=(if room-1<1+v then room-1 else 1+v)/\(if room-1<1+v then room-1 else 1+v)<=7:=by split <;> omega
   revert ht B' em
   generalize (if room-1<1+v then room-1 else 1+v)=w
   intro em B' ht
   refine⟨bs++[(Str.rep x (1+u).toNat,w)],room / (1+w),k+3,.sh false (.int (1+v)),.sh false (.str x),B',by omega,?_⟩
   refine(stp e1).trans ((stp e2).trans (stp ?_))
   rw[bK,t3,Au hr,aJ]
   have et:=kM (aAa (cR (P:=pg) (cl:=call pg (n+2)) (l:=0) (σ:=bf ns (k+2) bs room (.sh false (.int i)) (.sh false (.int (1+v))) (.sh false (.str x))) (a:=.v 6) (d:=.str x) rfl) (aAa (cR (a:=.c (.int 1)) rfl) x3 (add_int 1 u)) (mul_str (by omega) (by omega) (by omega))) (cR (em (k+3) bs))
   have hll:(aD bs++[box (Str.rep x (1+u).toNat,w)]).length<=lim:=by
    rw[lA,Bq,aD,lM];have:=B.few;unfold lim;omega
   have e3:ex pg (call pg (n+2)) (bf ns (k+2) bs room (.sh false (.int i)) (.sh false (.int (1+v))) (.sh false (.str x))) (.appL 2 0 (.tup (.cons (.op .Mult (.e (.v 6)) (.op .Add (.e (.c (.int 1))) (.call 4 (.cons (.e (.c (.int 8))) .nil)))) (.cons (.e (.bi .min (.cons (.v 5) (.cons (.op .Sub (.v 3) (.c (.int 1))) .nil)))) .nil))))=.next (bf ns (k+3) (bs++[(Str.rep x (1+u).toNat,w)]) room (.sh false (.int i)) (.sh false (.int (1+v))) (.sh false (.str x))):=by
    rw[zW]
    show O.from _ (evl pg (call pg (n+2)) 0 (bf ns (k+2) bs room (.sh false (.int i)) (.sh false (.int (1+v))) (.sh false (.str x))) _) _=_
    rw[et,aJ]
    show(if (aD bs++[box (Str.rep x (1+u).toNat,w)]).length<=lim then O.next ((bf ns (k+3) bs room (.sh false (.int i)) (.sh false (.int (1+v))) (.sh false (.str x))).set 2 _) else O.bad)=_
    rw[if_pos hll]
    simp[bf,aD]
    exact⟨rfl,rfl⟩
   have dv:opD .FloorDiv (.cl (.int room)) (.cl (.int (1+w)))=.ok (.cl (.int (room / (1+w)))):=sW (by
    unfold tY
    rw[Au (by omega),Au (by omega)];rfl)
   refine(stp e3).trans (stp ?_)
   show O.from _ (ev pg (call pg (n+2)) (bf ns (k+3) (bs++[(Str.rep x (1+u).toNat,w)]) room (.sh false (.int i)) (.sh false (.int (1+v))) (.sh false (.str x))) (.op .FloorDiv (.v 3) (.op .Add (.c (.int 1)) _))) _=_
   rw[gQ,gQ,em]
   show O.from _ (opD .FloorDiv (.cl (.int room)) (.cl (.int (1+w)))) _=_
   rw[dv,aJ]
   rfl
 . refine⟨bs,room,k+2,.sh false (.int (1+v)),.sh false (.str x),⟨by have:=B.few;omega,B.one,B.r1,B.pr,λz=>?_⟩,by omega,(stp e1).trans ((stp e2).trans (stp (σ':=bf ns (k+2) bs room (.sh false (.int i)) (.sh false (.int (1+v))) (.sh false (.str x))) ?_))⟩
   . have:=(B.first z).1
     omega
   . rw[bK,t3,Aw hr,aJ]
     rfl
theorem aBg(n:Nat)(ns:List Int):∃(bs:List (Str×Int)) (k:Nat),aCQ bs/\1<=bs.length/\bs.length<=4/\k<=100/\call pg (n+3) 5 [.err 0 (aT ns 0),.int 12]=.ok (.tup [.lst (aD bs),.err 0 (aT ns k)],true,false):=by
 have x0:=fB n (ns:=ns) (k:=0) (by omega) (m:=4) (by decide) (c:=aT ns 0) (r:=[.sh true (.int 12),.own false [],.sh false (.int 12),.dead,.dead,.dead]) (a:=.e (.c (.int 4))) (cR rfl)
 have rg:=dY ns 0 (m:=4) (by decide)
 generalize nxt ns 0 4=w at x0 rg
 have he:=aAa (cR (P:=pg) (cl:=call pg (n+2)) (l:=0) (σ:=bf ns 0 [] 12 .dead .dead .dead) (a:=.c (.int 1)) (d:=.int 1) rfl) x0 (add_int 1 w)
 have hN:(1+w:Int)=(((1+w).toNat:Nat):Int):=by omega
 rw[hN] at he
 have hN4:1<=(1+w).toNat/\(1+w).toNat<=4:=by omega
 revert hN4 he
 generalize (1+w).toNat=N
 intro he hN4
 obtain⟨σ',ef,bs,room,k,s4,s5,s6,B,hk,hσ⟩:=aEU (t:=.n 4) (b:=aEV) (λi σ=>∃(bs:List (Str×Int)) (room:Int) (k:Nat) (s4 s5 s6:Sl),Bo i bs room/\k<=1+3*i/\σ=bf ns k bs room s4 s5 s6) he (by omega)
  ⟨[],12,1,_,_,_,⟨Ag _,λb h=>absurd h Bw,by decide,by decide,λ_=>⟨rfl,rfl⟩⟩,Ag _,rfl⟩ λi hi σ ⟨bs,room,k,s4,s5,s6,B,hk,hσ⟩=>by
   obtain⟨bs',room',k',t5,t6,B',hk',eb⟩:=aDd n (ns:=ns) (k:=k) (by omega) (show i<4 by omega) B s5 s6
   refine⟨bf ns k bs room (.sh false (.int i)) s5 s6,_,?_,eb,bs',room',k',_,t5,t6,B',by omega,rfl⟩
   rw[hσ,kJ]
   simp[bf]
 subst hσ
 have hp:1<=dP bs:=kH _ 1 (by omega) λy hy=>by
  obtain⟨b,hb,rfl⟩:=A2.mp hy
  have:=B.one b hb
  omega
 have hl:1<=bs.length:=by
  cases bs with
  | nil=>have:=(B.first rfl).2;omega
  | cons _ _=>simp
 have hpr:dP bs<=12:=by
  have:=Int.mul_le_mul_of_nonneg_right B.r1 (show 0<=dP bs by omega)
  have:=B.pr
  omega
 refine⟨bs,k,⟨by have:=B.few;omega,B.one,Int.le_trans hpr (by decide)⟩,hl,by have:=B.few;omega,by omega,?_⟩
 refine dX (F:=f5) (b:=_) rfl rfl rfl (v:=⟨.tup [.lst (aD bs),.err 0 (aT ns k)],true,false,[]⟩) ?_
 show exs pg (call pg (n+2)) [.lent (aT ns 0),.sh true (.int 12),.dead,.dead,.dead,.dead,.dead] _=_
 refine(stp (σ':=[.lent (aT ns 0),.sh true (.int 12),.own false [],.dead,.dead,.dead,.dead]) rfl).trans ((stp (σ':=bf ns 0 [] 12 .dead .dead .dead) rfl).trans ((stp ef).trans (jI rfl)))
def kN(bs:List (Str×Int))(k:Nat):Int:=(bs.map (·.2)).getD k 0
def putF(bs:List (Str×Int))(st:List Int):List Int->List (Nat×Sm)->Option (List Int)
 | acc,[]=>some acc
 | acc,p::ps=>if 0<=p.2.val st st/\p.2.val st st<=kN bs p.1 then putF bs st (acc.set p.1 (p.2.val st st)) ps else none
def kO(bs:List (Str×Int))(w:Way)(st:List Int):Option (List Int):=if w.g.hold st st then putF bs st st w.ps else none
def stD:Option (List Int)->D
 | none=>.non
 | some r=>aN r
theorem aIp{P:Pg}{cl:Caller}{σ:Sg}{a b:E}{x y:Int}(h1:ev P cl σ a=.ok (.cl (.int x)))(h2:ev P cl σ b=.ok (.cl (.int y))):tst P cl σ (.cmp2 .LtE .LtE (.c (.int 0)) a b)=.ok (decide (0<=x)&&decide (x<=y)):=by
 rw[aCM,cM,aC,h1,aC,dH,dH,aCU]
 cases decide (0<=x) with
 | true=>simp only[h2,aC,dH,aCU,Bool.true_and]
 | false=>rfl
theorem aEW{bs:List (Str×Int)}{k:Nat}(h:k<bs.length):∃b:D,noL b=true/\bT ⟨.lst (aD bs),false,true,[]⟩ (.cl (.int (k:Int)))=.ok (.cl b)/\bT (.cl b) (.cl (.int 1))=.ok (.cl (.int (kN bs k))):=by
 refine⟨box bs[k],zP _,?_,?_⟩
 . have hl:(aD bs).length=bs.length:=by simp[aD]
   have e:(aD bs)[k]? = some (box bs[k]):=by simp[aD,h]
   unfold bT
   simp only[dH,hl,eP h,e,Vl.sub,zP,if_true]
 . have:=lL (.str bs[k].1) (.int bs[k].2) [] rfl
   unfold box kN
   rw[this]
   simp[h]
theorem aDe(n:Nat){bs:List (Str×Int)}{st:List Int}(hs:st.length=bs.length){s:Sm}(w:s.wf bs.length true)(z:s.sz<=3):call pg (n+3) 0 [s.d,aN st,.non]=.ok (.int (s.val st st),false,false):=by
 have:=gW (P:=pg) (f:=0) rfl (ah:=st) (be:=st) (bd:=.non) (c:=bs.length) (pl:=true) hs hs rfl (λh=>nomatch h) s (n+3-s.sz) w
 rwa [show n+3-s.sz+s.sz=n+3 by omega] at this
theorem aDf(n:Nat){bs:List (Str×Int)}{st:List Int}(hs:st.length=bs.length){q:Cn}(w:q.wf bs.length true)(z:q.sz<=31):call pg (n+31) 1 [q.d,aN st,.non]=.ok (.bl (q.hold st st),false,false):=by
 have:=kK (P:=pg) (v:=0) (f:=1) rfl rfl (ah:=st) (be:=st) (bd:=.non) (c:=bs.length) (pl:=true) hs hs rfl (λh=>nomatch h) q (n+31-q.sz) w
 rwa [show n+31-q.sz+q.sz=n+31 by omega] at this
abbrev aDg:Ss:=match hdS (drp 2 f2.body) with|.for _ _ b=>b|_=>.nil
theorem aEX{p:Nat×Sm}{s0 s1 s2 s3 s4 s5 s6:Sl}:bC [s0,s1,s2,s3,s4,s5,s6] (.cl (dI p)) (.t [4,5])=.ok [s0,s1,s2,s3,.sh false (.int p.1),.sh false p.2.d,s6]:=by
 unfold bC dI
 simp only[dH,lC,lN,if_true,Bn,List.zip_nil_left,Cb,List.foldl_nil,fW p.2.noL,fW (show noL (.int (p.1:Int))=true from rfl),dW,lS,lZ]
theorem aDh(acc:List Int)(k:Nat)(v:Int):(acc.map D.int).set k (.int v)=(acc.set k v).map D.int:=by rw[List.map_set]
theorem aDi(n:Nat){bs:List (Str×Int)}{st acc:List Int}(hs:st.length=bs.length)(ha:acc.length=bs.length)(hb:bs.length<=5){p:Nat×Sm}(o:qT bs.length p)(s1 s4 s5 s6:Sl) :
 exs pg (call pg (n+3)) [.sh true (.lst (aD bs)),s1,.sh true (aN st),.own false (acc.map D.int),.sh false (.int p.1),.sh false p.2.d,s6] aDg =
  if 0<=p.2.val st st/\p.2.val st st<=kN bs p.1 then .next [.sh true (.lst (aD bs)),s1,.sh true (aN st),.own false ((acc.set p.1 (p.2.val st st)).map D.int),.sh false (.int p.1),.sh false p.2.d,.sh false (.int (p.2.val st st))] else .ret (.cl .non):=by
 have cv:=aDe n hs o.wf o.sz
 generalize p.2.val st st=v at cv
 obtain⟨b,b1,b2,b3⟩:=aEW (bs:=bs) (k:=p.1) o.box
 have v2:=fU 2 true (bU st)
 have e1:ex pg (call pg (n+3)) [.sh true (.lst (aD bs)),s1,.sh true (aN st),.own false (acc.map D.int),.sh false (.int p.1),.sh false p.2.d,s6] (hdS aDg)=.next [.sh true (.lst (aD bs)),s1,.sh true (aN st),.own false (acc.map D.int),.sh false (.int p.1),.sh false p.2.d,.sh false (.int v)]:=by
  simp only[aDg,hdS,drp,f2,jF,mZ,aO,bI,gF,cM,cA,gS,gZ,eN,v2,aC,mC,mN,dH,cv,sV,aJ,mE,bW,kJ,dW,lS,lZ]
 have tt:=aIp (P:=pg) (cl:=call pg (n+3)) (σ:=[.sh true (.lst (aD bs)),s1,.sh true (aN st),.own false (acc.map D.int),.sh false (.int p.1),.sh false p.2.d,.sh false (.int v)]) (a:=.v 6) (b:=.idx (.idx (.v 0) (.v 4)) (.c (.int 1))) (x:=v) (y:=kN bs p.1) rfl (by
  simp only[eR,gF,cM,cA,gS,gZ,kI,iH,aC,b2,b3])
 refine(stp e1).trans ?_
 show exs pg (call pg (n+3)) _ (.cons (.iff (.nt _) _ _) (.cons (.setIx 3 (.v 4) (.v 6)) .nil))=_
 by_cases hv:0<=v/\v<=kN bs p.1
 . have hd:(decide (0<=v)&&decide (v<=kN bs p.1))=true:=by rw[Au hv.1,Au hv.2];rfl
   rw[if_pos hv]
   have hx:ixN acc.length (p.1:Int)=some p.1:=eP (by rw[ha];exact o.box)
   have hll:acc.length<=lim:=by unfold lim;omega
   simp only[bJ,eM,bK,oT,tt,aC,hd,D4,aJ,bF,if_false,aBc,aCO,gF,cA,gS,gZ,iH,dH,put,mE,bW,iO,hx,aDh,lM,Ap,hll,if_true,aLb,Bool.or_false,lS,lZ]
 . have hd:(decide (0<=v)&&decide (v<=kN bs p.1))=false:=by
    cases h:(decide (0<=v)&&decide (v<=kN bs p.1)) with
    | false=>rfl
    | true=>simp only[bA,A4] at h;exact absurd h hv
   rw[if_neg hv]
   simp only[bJ,eM,bK,oT,tt,aC,hd,Ek,aJ,if_true,jG,cM,lY]
theorem vU(n:Nat){bs:List (Str×Int)}{st:List Int}(hs:st.length=bs.length)(hb:bs.length<=5)(s1:Sl):∀(ps:List (Nat×Sm)) (acc:List Int) (s4 s5 s6:Sl),(∀p∈ps,qT bs.length p)->acc.length=bs.length ->
 ∃t4 t5 t6,cN (λσ x=>O.from σ (bC σ x (.t [4,5])) λσ'=>exs pg (call pg (n+3)) σ' aDg) (ps.map λp=>Vl.cl (dI p)) [.sh true (.lst (aD bs)),s1,.sh true (aN st),.own false (acc.map D.int),s4,s5,s6] =
  (match putF bs st acc ps with|none=>.ret (.cl .non)|some r=>.next [.sh true (.lst (aD bs)),s1,.sh true (aN st),.own false (r.map D.int),t4,t5,t6])
 | [],acc,s4,s5,s6,_,_=>⟨s4,s5,s6,rfl⟩
 | p::ps,acc,s4,s5,s6,h,ha=>by
  have o:=h p Ak
  have tu:=aDi n hs ha hb o s1 s4 s5 s6
  rw[mC,cN,aEX,aJ,tu,putF]
  by_cases hv:0<=p.2.val st st/\p.2.val st st<=kN bs p.1
  . rw[if_pos hv,if_pos hv]
    exact vU n hs hb s1 ps (acc.set p.1 (p.2.val st st)) _ _ _ (λq hq=>h q (Ae _ hq)) (by rw[Ap];exact ha)
  . rw[if_neg hv,if_neg hv]
    exact⟨s4,s5,s6,rfl⟩
theorem pC{v:Vl}(ps:List (Nat×Sm)):items v (ps.map dI)=ps.map λp=>Vl.cl (dI p):=fA aAc ps
theorem yB(n:Nat){bs:List (Str×Int)}{st:List Int}(hs:st.length=bs.length)(hb:bs.length<=5){w:Way}(o:fC bs.length w):call pg (n+32) 2 [.lst (aD bs),w.d,aN st]=.ok (stD (kO bs w st),false,false):=by
 have ch:=aDf n hs o.g o.gs
 have v1:=fU 1 true (fX w)
 have v2:=fU 2 true (bU st)
 have i0:bT (.cl w.d) (.cl (.int 0))=.ok (.cl w.g.d):=mT w.g.d _ w.g.noL
 have i1:bT (.cl w.d) (.cl (.int 1))=.ok (.cl (.tup (w.ps.map dI))):=lL w.g.d (.tup (w.ps.map dI)) _ (by rw[noL];exact iI _)
 refine bE (F:=f2) rfl rfl (v:=.cl (stD (kO bs w st))) ?_
 show exs pg (call pg (n+31)) [.sh true (.lst (aD bs)),.sh true w.d,.sh true (aN st),.dead,.dead,.dead,.dead] _=_
 unfold kO
 cases hh:w.g.hold st st with
 | false=>
  rw[hh] at ch
  simp only[f2,bJ,eM,bK,oT,kG,aO,bI,eR,gF,cM,cA,gS,gZ,v1,v2,aC,i0,mC,mN,dH,ch,sV,aCS,Ek,aJ,if_true,jG,lY,bF,if_false,stD]
 | true=>
  rw[hh] at ch
  obtain⟨t4,t5,t6,hl⟩:=vU (n+28) hs hb (.sh true w.d) w.ps st .dead .dead .dead o.ps hs
  have e1:ex pg (call pg (n+31)) [.sh true (.lst (aD bs)),.sh true w.d,.sh true (aN st),.dead,.dead,.dead,.dead] (hdS f2.body)=.next [.sh true (.lst (aD bs)),.sh true w.d,.sh true (aN st),.dead,.dead,.dead,.dead]:=by
   simp only[hdS,f2,eM,bK,oT,kG,aO,bI,eR,gF,cM,cA,gS,gZ,v1,v2,aC,i0,mC,mN,dH,ch,sV,aCS,D4,aJ,bF,if_false]
  have e2:ex pg (call pg (n+31)) [.sh true (.lst (aD bs)),.sh true w.d,.sh true (aN st),.dead,.dead,.dead,.dead] (hdS (drp 1 f2.body))=.next [.sh true (.lst (aD bs)),.sh true w.d,.sh true (aN st),.own false (st.map D.int),.dead,.dead,.dead]:=by
   have hli:biD .list [.cl (aN st)]=.ok ⟨.lst (st.map D.int),true,false,[]⟩:=by
    show R.ok (Vl.mk (.lst (st.map D.int)) true (false&&!noLs (st.map D.int)) (if noLs (st.map D.int)=true then [] else []))=_
    rw[eZ];rfl
   simp only[hdS,drp,f2,jF,mB,aO,bI,gF,cA,gS,gZ,v2,aC,hli,aJ,bW,kJ,aEK,lS,lZ]
  have hw:walk pg (call pg (n+31)) [.sh true (.lst (aD bs)),.sh true w.d,.sh true (aN st),.own false (st.map D.int),.dead,.dead,.dead] (.seq (.idx (.v 1) (.c (.int 1))))=.ok (w.ps.map (λp=>Vl.cl (dI p)),[]):=by
   simp only[eY,eR,gF,cM,cA,gS,gZ,v1,aC,i1,dH,pC,mE]
  refine(stp e1).trans ((stp e2).trans ?_)
  show exs pg (call pg (n+31)) _ (.cons (.for (.t [4,5]) (.seq (.idx (.v 1) (.c (.int 1)))) aDg) _)=_
  rw[bJ,aCP,hw,aJ]
  show(cN _ _ _).on _=_
  rw[bW,hl,if_pos rfl]
  cases putF bs st st w.ps with
  | none=>rfl
  | some r=>
   show exs pg (call pg (n+31)) [.sh true (.lst (aD bs)),.sh true w.d,.sh true (aN st),.own false (r.map D.int),t4,t5,t6] (.cons (.ret (.bi .tuple (.cons (.v 3) .nil))) .nil)=_
   rw[bJ,jG,mB,aO,gF]
   simp only[cA,gS,gZ,zQ]
   simp only[bI,aC,aAd 3 (eZ r),aJ,lY]
   rfl
theorem aAe(n:Nat):∀r:List Int,eB (n+1) (r.map D.int) (r.map D.int)=some true
 | []=>rfl
 | i::r=>by rw[mC,eB,zR,aAe n r];simp
theorem aDj(n:Nat)(i:Int):call pg (n+1) 13 [.int i]=.ok (.bl true,false,false):=rfl
section
variable {P:Pg} {cl:Caller} {σ:Sg}
theorem aDk(σ:Sg){i j:Nat}{a b:D}(ha:noL a=true)(hb:noL b=true):bC σ (.cl (.tup [a,b])) (.t [i,j])=.ok ((σ.set i (.sh false a)).set j (.sh false b)):=by
 unfold bC
 simp only[dH,lC,lN,if_true,Bn,List.zip_nil_left,Cb,List.foldl_nil,fW ha,fW hb,dW]
theorem kP(σ:Sg){i:Nat}{d:D}:bC σ (.cl d) (.n i)=.ok (σ.set i (.sh false d)):=by rw[kJ,dW]
theorem rU{a:E}{k:Bool}(h:tst P cl σ a=.ok k):tst P cl σ (.nt a)=.ok (!k):=by rw[oT,h];rfl
end
section
variable {P:Pg} {cl:Caller} {σ σ':Sg}
theorem sY{i:Nat}{e:E}{ds:List D}(h:ev P cl σ e=.ok ⟨.lst ds,true,false,[]⟩):ex P cl σ (.set (.n i) e)=.next (σ.set i (.own false ds)):=by
 rw[jF,h];rfl
theorem aIq{c:E}{a b:Ss}(h:tst P cl σ c=.ok true)(r:exs P cl σ a=.next σ'):ex P cl σ (.iff c a b)=.next σ':=by
 rw[bK,h,aJ,if_pos rfl,r]
theorem uL{o:CmpOp}{a b:E}{x y:Vl}{k:Bool}(h:ev P cl σ a=.ok x)(g:ev P cl σ b=.ok y)(e:bG o x.d y.d=some k):tst P cl σ (.cmp o a b)=.ok k:=by rw[fR,h,aC,g,aC,e]
end
theorem aLm{P:Pg}{cl:Caller}{σ:Sg}{s:S}{ss:Ss}{v:Vl}(h:ex P cl σ s=.ret v):exs P cl σ (.cons s ss)=.ret v:=by rw[bJ,h];rfl
theorem dM{P:Pg}{cl:Caller}{σ:Sg}{f:Nat}{a:E}{x:Vl}{d:D}{fr:Bool}(h1:ev P cl σ a=.ok x)(hc:cl f [x.d]=.ok (d,fr,false)):ev P cl σ (.call f (.cons a .nil))=.ok ⟨d,fr,false,[]⟩:=by
 have e:evs P cl σ (.cons a .nil)=.ok [x]:=by rw[aO,h1];rfl
 rw[mZ,e,aC,show [x].map (·.d)=[x.d] from rfl,hc];rfl
section
variable {P:Pg} {cl:Caller} {σ σ':Sg}
theorem aDl{a b:E}{k:Bool}(h:tst P cl σ a=.ok false)(g:tst P cl σ b=.ok k):tst P cl σ (.orr a b)=.ok k:=by rw[zN,h,aC,if_neg bN,g]
end
section
variable {P:Pg} {cl:Caller} {σ σ1 σ':Sg} {i:Nat}
theorem aIr(ds:List D):(ds.map Vl.cl).map (·.d)=ds:=by rw[Bv];exact List.map_id _
theorem aIs(ds:List D):aQ (ds.map Vl.cl)=false:=by
 induction ds with
 | nil=>rfl
 | cons d ds ih=>unfold aQ at ih ⊢;rw[mC,List.any_cons,ih];rfl
theorem aIt(ds:List D):bR (ds.map Vl.cl)=[]:=by
 induction ds with
 | nil=>rfl
 | cons d ds ih=>unfold bR at ih ⊢;rw[mC,List.flatMap_cons,ih];rfl
theorem aLn(n d k:Nat):sIx n d (some (k:Int))=min k n:=by
 show(if (k:Int)<0 then ((k:Int)+(n:Int)).toNat else min (k:Int).toNat n)=_
 rw[if_neg (by omega)]
 rfl
theorem gX(i:Nat){d:D}(h:σ[i]? = some (.sh true d))(n:noL d=true):ev P cl σ (.v i)=.ok (.cl d):=by
 show cA σ i=_
 unfold cA
 rw[h]
 exact fU i true n
theorem gY{s:S}{σ':Sg}(h:ex P cl σ s=.next σ'):exs P cl σ (.cons s .nil)=.next σ':=cs h rfl
theorem vV{a:E}{cs:List Cl}{v:Vl}{k:Bool}(h:ev P cl σ a=.ok v)(e:isI cs P v.d=some k):tst P cl σ (.isi a cs)=.ok k:=by
 show(ev P cl σ a >>= λx=>(match isI cs P x.d with|some k=>R.ok k|none=>.bad))=_
 rw[h,aC,e]
abbrev bB(i:Nat):D:=.int (i:Int)
theorem nG(i:Nat):noL (bB i)=true:=rfl
theorem bZ(i:Nat){d:D}(h:σ[i]? = some (.sh false d)):ev P cl σ (.v i)=.ok (.cl d):=by
 show cA σ i=_
 unfold cA
 rw[h]
 exact eN i d
theorem aDm{es:Es}{ds:List D}(h:evs P cl σ es=.ok (ds.map Vl.cl)):ev P cl σ (.lst es)=.ok ⟨.lst ds,true,false,[]⟩:=by
 rw[oR,h,aC]
 show R.ok (Vl.mk (.lst ((ds.map Vl.cl).map (·.d))) true (aQ (ds.map Vl.cl)) (bR (ds.map Vl.cl)))=_
 rw[aIs,aIt,aIr]
theorem aIu{a:E}{es:Es}{d:D}{ds:List D}(h:ev P cl σ a=.ok (.cl d))(t:evs P cl σ es=.ok (ds.map Vl.cl)):evs P cl σ (.cons a es)=.ok ((d::ds).map Vl.cl):=by
 rw[aO,h,aC,t];rfl
theorem aFG:evs P cl σ .nil=.ok (([]:List D).map Vl.cl):=rfl
theorem sZ(i:Nat){pa:Bool}{ds:List D}(h:σ[i]? = some (.own pa ds)):ev P cl σ (.v i)=.ok ⟨.lst ds,false,pa,[i]⟩:=by
 show cA σ i=_
 unfold cA
 rw[h]
 rfl
theorem aNr{ds:List D}(h:noLs ds=true)(lo hi:Option Int):eC (.cl (.tup ds)) lo hi=.ok (.cl (.tup (cut ds lo hi))):=by
 show R.ok (Vl.mk (.tup (cut ds lo hi)) false (false&&!noLs ds) (if noLs ds=true then [] else []))=_
 rw[h];rfl
theorem aIv{α:Type}(xs:List α)(k:Nat):cut xs (some (k:Int)) none=xs.drop k:=by
 unfold cut
 rw[aLn]
 show(xs.drop (min k xs.length)).take (xs.length-min k xs.length)=_
 rw[Eh (by rw[C2];omega)]
 by_cases h:k<=xs.length
 . rw[Nat.min_eq_left h]
 . rw[Nat.min_eq_right (by omega),List.drop_of_length_le (Ag _),List.drop_of_length_le (by omega)]
end
inductive Px where
 | s (x:Sm)|c (x:Cn)
def Px.d:Px->D
 | .s x=>x.d
 | .c x=>x.d
def Px.sz:Px->Nat
 | .s x=>x.sz
 | .c x=>x.sz
def Px.word:Px->Str
 | .s (.num _) => "number"
 | .s (.box _) => "box"
 | .s (.aft _) => "after"
 | .s (.two p _ _)=>sX p
 | .c .yes => "yes"
 | .c (.cmp i _ _)=>oY i
 | .c (.nt _) => "not"
 | .c (.two p _ _)=>iQ p
def Px.items:Px->List (Int ⊕ Px)
 | .s (.num k)=>[.inl k]
 | .s (.box k)=>[.inl k]
 | .s (.aft k)=>[.inl k]
 | .s (.two _ a b)=>[.inr (.s a),.inr (.s b)]
 | .c .yes=>[]
 | .c (.cmp _ a b)=>[.inr (.s a),.inr (.s b)]
 | .c (.nt x)=>[.inr (.c x)]
 | .c (.two _ a b)=>[.inr (.c a),.inr (.c b)]
def itD:Int ⊕ Px->D
 | .inl k=>.int k
 | .inr p=>p.d
theorem Px.noL:∀p:Px,Hp.noL p.d=true
 | .s x=>x.noL
 | .c x=>x.noL
theorem aIw:∀t,noL (itD t)=true
 | .inl _=>rfl
 | .inr p=>p.noL
theorem Px.d_eq:∀p:Px,p.d=.tup (.str p.word::p.items.map itD)
 | .s (.num _)=>rfl
 | .s (.box _)=>rfl
 | .s (.aft _)=>rfl
 | .s (.two _ _ _)=>rfl
 | .c .yes=>rfl
 | .c (.cmp _ _ _)=>rfl
 | .c (.nt _)=>rfl
 | .c (.two _ _ _)=>rfl
theorem tB:∀(p q:Px),Sum.inr q∈p.items->q.sz+1<=p.sz:=λp q h=>by
 cases p with
 | s x=>cases x with
  | two t a b=>
   simp only[Px.items,Al,Sum.inr.injEq,Bw,or_false] at h
   rcases h with rfl|rfl <;> simp only[Px.sz,Sm.sz] <;> omega
  | num _=>simp[Px.items] at h
  | box _=>simp[Px.items] at h
  | aft _=>simp[Px.items] at h
 | c x=>cases x with
  | yes=>simp[Px.items] at h
  | cmp t a b=>
   simp only[Px.items,Al,Sum.inr.injEq,Bw,or_false] at h
   rcases h with rfl|rfl <;> simp only[Px.sz,Cn.sz] <;> omega
  | nt y=>
   simp only[Px.items,Al,Sum.inr.injEq,Bw,or_false] at h
   subst h
   simp only[Px.sz,Cn.sz];omega
  | two t a b=>
   simp only[Px.items,Al,Sum.inr.injEq,Bw,or_false] at h
   rcases h with rfl|rfl <;> simp only[Px.sz,Cn.sz] <;> omega
theorem Px.pos:∀p:Px,1<=p.sz
 | .s x=>x.sz_pos
 | .c x=>x.sz_pos
def rdS:Sm->List Nat
 | .box k=>[k]
 | .two _ a b=>rdS a++rdS b
 | _=>[]
def rdC:Cn->List Nat
 | .yes=>[]
 | .cmp _ a b=>rdS a++rdS b
 | .nt c=>rdC c
 | .two _ a b=>rdC a++rdC b
def Px.rd:Px->List Nat
 | .s x=>rdS x
 | .c x=>rdC x
def rdT:Int ⊕ Px->List Nat
 | .inl _=>[]
 | .inr p=>p.rd
def Px.bx:Px->Option Nat
 | .s (.box k)=>some k
 | _=>none
theorem aLo:∀i,(oY i == "box")=false:=by decide +kernel
theorem aLp:∀i,(iQ i == "box")=false:=by decide +kernel
theorem aAf:∀p:Px,(p.word == "box")=p.bx.isSome
 | .s (.num _)=>by show(("number" : Str) == "box")=false;decide +kernel
 | .s (.box _)=>by show(("box" : Str) == "box")=true;decide +kernel
 | .s (.aft _)=>by show(("after" : Str) == "box")=false;decide +kernel
 | .s (.two p _ _)=>aLh p
 | .c .yes=>by show(("yes" : Str) == "box")=false;decide +kernel
 | .c (.cmp i _ _)=>aLo i
 | .c (.nt _)=>by show(("not" : Str) == "box")=false;decide +kernel
 | .c (.two p _ _)=>aLp p
theorem aAg{p:Px}{k:Nat}(h:p.bx=some k):p=.s (.box k):=by
 cases p with
 | s x=>cases x <;> cases h;rfl
 | c x=>cases h
theorem aDn{p:Px}(h:p.bx=none):p.rd=(p.items.map rdT).flatten:=by
 cases p with
 | s x=>cases x with
  | box k=>cases h
  | num _=>rfl
  | aft _=>rfl
  | two _ a b=>simp[Px.rd,Px.items,rdT,rdS]
 | c x=>cases x with
  | yes=>rfl
  | cmp _ a b=>simp[Px.rd,Px.items,rdT,rdC]
  | nt y=>simp[Px.rd,Px.items,rdT,rdC]
  | two _ a b=>simp[Px.rd,Px.items,rdT,rdC]
def prS:Sm->List Px
 | .two p a b=>.s (.two p a b)::(prS a++prS b)
 | x=>[.s x]
def prC:Cn->List Px
 | .yes=>[.c .yes]
 | .cmp i a b=>.c (.cmp i a b)::(prS a++prS b)
 | .nt x=>.c (.nt x)::prC x
 | .two p a b=>.c (.two p a b)::(prC a++prC b)
def Px.pr:Px->List Px
 | .s x=>prS x
 | .c x=>prC x
def prT:Int ⊕ Px->List Px
 | .inl _=>[]
 | .inr p=>p.pr
theorem aDo(p:Px):p.pr=p::(p.items.map prT).flatten:=by
 cases p with
 | s x=>cases x with
  | box k=>rfl
  | num _=>rfl
  | aft _=>rfl
  | two _ a b=>simp[Px.pr,Px.items,prT,prS]
 | c x=>cases x with
  | yes=>rfl
  | cmp _ a b=>simp[Px.pr,Px.items,prT,prC]
  | nt y=>simp[Px.pr,Px.items,prT,prC]
  | two _ a b=>simp[Px.pr,Px.items,prT,prC]
theorem pD:∀x:Sm,(prS x).filterMap Px.bx=rdS x
 | .num _=>rfl
 | .box _=>rfl
 | .aft _=>rfl
 | .two p a b=>by
  show(List.filterMap Px.bx (.s (.two p a b)::(prS a++prS b)))=_
  rw[Ba rfl,Dj,pD a,pD b];rfl
theorem tD:∀x:Cn,(prC x).filterMap Px.bx=rdC x
 | .yes=>rfl
 | .cmp i a b=>by
  show(List.filterMap Px.bx (.c (.cmp i a b)::(prS a++prS b)))=_
  rw[Ba rfl,Dj,pD a,pD b];rfl
 | .nt x=>by
  show(List.filterMap Px.bx (.c (.nt x)::prC x))=_
  rw[Ba rfl,tD x];rfl
 | .two p a b=>by
  show(List.filterMap Px.bx (.c (.two p a b)::(prC a++prC b)))=_
  rw[Ba rfl,Dj,tD a,tD b];rfl
theorem aFH:∀p:Px,p.pr.filterMap Px.bx=p.rd
 | .s x=>pD x
 | .c x=>tD x
theorem kQ:∀x:Sm,(prS x).length=x.sz
 | .num _=>rfl
 | .box _=>rfl
 | .aft _=>rfl
 | .two p a b=>by
  show(prS a++prS b).length+1=1+a.sz+b.sz
  rw[lA,kQ a,kQ b];omega
theorem nH:∀x:Cn,(prC x).length=x.sz
 | .yes=>rfl
 | .cmp i a b=>by
  show(prS a++prS b).length+1=1+a.sz+b.sz
  rw[lA,kQ a,kQ b];omega
 | .nt x=>by
  show(prC x).length+1=1+x.sz
  rw[nH x];omega
 | .two p a b=>by
  show(prC a++prC b).length+1=1+a.sz+b.sz
  rw[lA,nH a,nH b];omega
theorem yC:∀p:Px,p.pr.length=p.sz
 | .s x=>kQ x
 | .c x=>nH x
theorem tE(p:Px):p.rd.length<=p.sz:=by rw[<-aFH,<-yC];exact List.length_filterMap_le _ _
theorem hC{m:Nat}:∀x:Sm,x.wf m true->∀k∈rdS x,k<m
 | .num _,_,_,h=>by cases h
 | .box j,w,k,h=>by rw[Az.mp h];exact w
 | .aft _,_,_,h=>by cases h
 | .two _ a b,w,k,h=>by
  rcases A3.mp h with z|z
  . exact hC a w.1 k z
  . exact hC b w.2 k z
theorem lP{m:Nat}:∀x:Cn,x.wf m true->∀k∈rdC x,k<m
 | .yes,_,_,h=>by cases h
 | .cmp _ a b,w,k,h=>by
  rcases A3.mp h with z|z
  . exact hC a w.1 k z
  . exact hC b w.2 k z
 | .nt x,w,k,h=>lP x w k h
 | .two _ a b,w,k,h=>by
  rcases A3.mp h with z|z
  . exact lP a w.1 k z
  . exact lP b w.2 k z
section
variable {P:Pg} {cl:Caller} {σ:Sg}
theorem pE{p:Px}{i:Nat}(h:σ[i]? = some (.sh true p.d)):walk P cl σ (.seq (.sli (.v i) (.cons (.c (.int 1)) .nil) .nil))=.ok (p.items.map (λt=>Vl.cl (itD t)),[]):=by
 have nl:noLs (.str p.word::p.items.map itD)=true:=by
  have:=p.noL
  rw[p.d_eq] at this
  exact this
 have v:ev P cl σ (.v i)=.ok (.cl (.tup (.str p.word::p.items.map itD))):=by
  rw[<-p.d_eq]
  exact gX i h p.noL
 have e:ev P cl σ (.sli (.v i) (.cons (.c (.int 1)) .nil) .nil)=.ok (.cl (.tup (p.items.map itD))):=by
  have e1:evs P cl σ (.cons (.c (.int 1)) .nil)=.ok [.cl (.int ((1:Nat):Int))]:=rfl
  show(ev P cl σ (.v i) >>= λx=>evs P cl σ (.cons (.c (.int 1)) .nil) >>= λl=>evs P cl σ .nil >>= λh=>_)=_
  rw[v,aC,e1,aC,bI,aC]
  show R.iff (aI ((1:Nat):Int)) (eC (.cl (.tup (.str p.word::p.items.map itD))) (some ((1:Nat):Int)) none)=_
  rw[nA (by decide),aNr nl,aIv]
  rfl
 rw[eY,e,aC]
 show R.ok (items _ (p.items.map itD),[])=_
 rw[fA aIw]
end
theorem aBh:∀p:Px,p.items.length<=2
 | .s (.num _)=>by simp[Px.items]
 | .s (.box _)=>by simp[Px.items]
 | .s (.aft _)=>by simp[Px.items]
 | .s (.two _ _ _)=>by simp[Px.items]
 | .c .yes=>by simp[Px.items]
 | .c (.cmp _ _ _)=>by simp[Px.items]
 | .c (.nt _)=>by simp[Px.items]
 | .c (.two _ _ _)=>by simp[Px.items]
theorem fD{α β:Type}(f:α->List β)(l:List α){i:Nat}(h:i<l.length):((l.take (i+1)).map f).flatten=((l.take i).map f).flatten++f l[i]:=by
 rw[List.take_succ,An h,Cc,List.flatten_append]
 simp
theorem nB{p:Px}{α:Type}(f:Int ⊕ Px->List α)(hf:∀t∈p.items,(f t).length<=100):∀i,((p.items.take i).map f).flatten.length<=200:=λi=>by
 have h2:=aBh p
 have:∀l:List (Int ⊕ Px),(∀t∈l,(f t).length<=100)->(l.map f).flatten.length<=100*l.length:=λl=>by
  induction l with
  | nil=>intro _;exact Ag _
  | cons t l ih=>
   intro h
   rw[mC,B9,lA,lC]
   have:=ih λx hx=>h x (Ae _ hx)
   have:=h t Ak
   omega
 have h1:=this (p.items.take i) λt ht=>hf t (List.mem_of_mem_take ht)
 have:(p.items.take i).length<=2:=by rw[Cd];omega
 omega
section
variable {P:Pg} {cl:Caller} {σ:Sg}
theorem aFI{i:Nat}{e:E}{ds ds' r:List D}(h:ev P cl σ e=.ok ⟨.lst ds',true,false,[]⟩)(n:noLs ds'=true)(hi:σ[i]? = some (.own false ds))(hl:r.length<=lim)(he:r=ds++ds'):ex P cl σ (.ext i e)=.next (σ.set i (.own false r)):=by
 subst he
 have s:nT (⟨.lst ds',true,false,[]⟩:Vl)=some (.cl .non,ds'):=by
  show some (Vl.mk .non false (false&&!noLs ds') (if noLs ds'=true then [] else []),ds')=_
  rw[n];rfl
 rw[aCN,h,aJ,s]
 show put σ i (.cl .non) (λds=>some (ds++ds'))=_
 unfold put iO
 rw[mE,bW,hi]
 show(if (ds++ds').length<=lim then O.next _ else .bad)=_
 rw[if_pos hl]
 rfl
theorem aDp{k:Nat}{caps al:List Nat}{T:T}{it:It}{c elt:E}{α:Type}{ts:List α}(f:α->Vl)(g:α->D)(p:α->Bool)(ng:∀t,noL (g t)=true)(hw:walk P cl σ it=.ok (ts.map f,al))(hl:ts.length<=lim)
 (hb:∀t∈ts,∃σ1,bC (List.replicate k .dead++caps.map λi=>((freeze σ al)[i]?).getD .dead) (f t) T=.ok σ1/\tst P cl σ1 c=.ok (p t)/\(p t=true->ev P cl σ1 elt=.ok (.cl (g t)))):ev P cl σ (.comp k caps T it (.cons c .nil) elt)=.ok ⟨.lst ((ts.filter p).map g),true,false,[]⟩:=by
 rw[sO,hw,aC,oX (f:=f) (g:=g) (p:=p) λt ht=>by
  obtain⟨σ1,e1,e2,e3⟩:=hb t ht
  show(bC _ (f t) T >>= λσ1=>_)=_
  rw[e1]
  show(tsts P cl σ1 (.cons c .nil) >>= λk=>if k then (ev P cl σ1 elt >>= λy=>R.ok (some y)) else R.ok none)=_
  rw[aBd,e2,aC]
  cases hp:p t with
  | false=>rfl
  | true=>
   show(ev P cl σ1 elt >>= λy=>R.ok (some y))=_
   rw[e3 hp]
   rfl]
 show R.iff (decide (((ts.filter p).map λt=>Vl.cl (g t)).length<=lim)) (R.ok (iN k caps al _))=_
 rw[zT ng,Au (by rw[lM];exact Av (Di _ _) hl)]
 rfl
end
theorem qU:∀(N:Nat) (p:Px),p.sz<=N->p.sz<=50->∀n,call pg (n+N) 10 [p.d]=.ok (.lst (p.pr.map Px.d),true,false)
 | 0,p,h,_,_=>absurd h (by have:=p.pos;omega)
 | N+1,p,h,h50,n=>by
  let τ:Nat->Sl->Sg:=λi s2=>[.sh true p.d,.own false ((p::((p.items.take i).map prT).flatten).map Px.d),s2]
  obtain⟨σ',ef,s2,rfl⟩:=fS (P:=pg) (cl:=call pg (n+N)) (σ:=τ 0 .dead) (t:=.n 2) (b:=match hdS (drp 1 f10.body) with|.for _ _ b=>b|_=>.nil) (λi σ=>∃s2,σ=τ i s2) (pE (i:=0) rfl) ⟨_,rfl⟩ λi hi σ ⟨s2,hσ⟩=>by
   have hi':i<p.items.length:=by simpa using hi
   subst hσ
   have w2:ev pg (call pg (n+N)) (τ i (.sh false (itD p.items[i]))) (.v 2)=.ok (.cl (itD p.items[i])):=bZ 2 rfl
   have hm:=Bl hi'
   cases hq:p.items[i] with
   | inl k=>
    rw[hq] at w2
    refine⟨τ i (.sh false (itD p.items[i])),τ (i+1) (.sh false (itD p.items[i])),?_,?_,_,rfl⟩
    . rw[Ch,kP];rfl
    . have:τ (i+1) (.sh false (itD p.items[i]))=τ i (.sh false (itD p.items[i])):=by
       show [_,_,_]=[_,_,_]
       rw[fD prT p.items hi',hq]
       simp[prT]
      rw[this,hq]
      exact gY (eF (vV w2 rfl))
   | inr q=>
    rw[hq] at w2 hm
    have qs:=tB p q hm
    have ih:=qU N q (by omega) (by omega) n
    have fl:=nB (p:=p) prT (λt ht=>by
     cases t with
     | inl _=>exact Bj _
     | inr q=>have:=yC q;have:=tB p q ht;show q.pr.length<=100;omega) (i+1)
    refine⟨τ i (.sh false (itD p.items[i])),τ (i+1) (.sh false (itD p.items[i])),?_,?_,_,rfl⟩
    . rw[Ch,kP];rfl
    . rw[hq]
      exact gY (aIq (vV w2 (by show isI [.tTuple] pg q.d=some true;rw[q.d_eq];rfl)) (gY (aFI (dM w2 ih) (eG Px.noL _) rfl (by
       rw[lM,lC]
       unfold lim
       omega) (by rw[fD prT p.items hi',hq,<-Cc];rfl))))
  have hfin:p::((p.items.take (p.items.map λt=>Vl.cl (itD t)).length).map prT).flatten=p.pr:=by
   rw[lM,Cf,<-aDo]
  refine bE (F:=f10) rfl rfl (v:=⟨.lst (p.pr.map Px.d),true,false,[]⟩) (cs (σ':=τ 0 .dead) (sY (aDm (aIu (gX 0 rfl p.noL) aFG))) (cs ef (aLm ?_)))
  show O.ret ⟨.lst ((p::((p.items.take (p.items.map λt=>Vl.cl (itD t)).length).map prT).flatten).map Px.d),true,false,[]⟩=_
  rw[hfin]
abbrev aY(ks:List Nat):D:=.lst (ks.map bB)
theorem qV:∀{ks:List Nat},(∀k∈ks,k<4)->nR (ks.map bB)=some ks
 | [],_=>rfl
 | k::ks,h=>by
  have h1:=h k Ak
  have ih:=qV (ks:=ks) λj hj=>h j (Ae _ hj)
  show(if 0<=(k:Int)/\(k:Int)<=3 then (match nR (ks.map bB) with|some r=>some ((k:Int).toNat::r)|none=>none) else none)=_
  rw[if_pos (by omega),ih,Bg]
theorem hG{ks:List Nat}(h:∀k∈ks,k<4)(k:Nat):k∈bM ks↔k∈ks:=by
 unfold bM
 rw[Cu,Cm,A4]
 exact⟨λz=>z.2,λz=>⟨h k z,z⟩⟩
theorem tF{ks:List Nat}(k:Nat)(h:k∈bM ks):k<4:=Cm.mp (Cu.mp h).1
theorem kR(ks:List Nat):(bM ks).length<=4:=Av (Di _ _) (by decide)
theorem aDq{P:Pg}{cl:Caller}{σ:Sg}{a:E}{v:Vl}{ks:List Nat}(h:ev P cl σ a=.ok v)(hv:v.d=aY ks)(hk:∀k∈ks,k<4):ev P cl σ (.sset a)=.ok ⟨aY (bM ks),true,false,[]⟩:=by
 show(ev P cl σ a >>= λx=>_)=_
 rw[h,aC]
 show(match v.d with|.lst ds=>(match nR ds with|some ns=>R.ok (⟨.lst ((bM ns).map λ(k:Nat)=>.int (k:Int)),true,false,[]⟩:Vl)|none=>.bad)|_=>.bad)=_
 rw[hv]
 show(match nR (ks.map bB) with|some ns=>R.ok (⟨.lst ((bM ns).map λ(k:Nat)=>.int (k:Int)),true,false,[]⟩:Vl)|none=>.bad)=_
 rw[qV hk]
def Px.wf(m:Nat):Px->Prop
 | .s x=>x.wf m true
 | .c x=>x.wf m true
theorem Px.rd_lt{m:Nat}:∀{p:Px},p.wf m->∀k∈p.rd,k<m
 | .s x,w=>hC x w
 | .c x,w=>lP x w
theorem vW{α β:Type}(f:α->Option β)(d:β):∀l:List α,((l.filter λa=>(f a).isSome).map λa=>(f a).getD d)=l.filterMap f
 | []=>rfl
 | a::l=>by
  have ih:=vW f d l
  cases h:f a with
  | none=>rw[Ba h,<-ih,List.filter_cons_of_neg (by rw[h];exact bN)]
  | some b=>rw[B3 h,<-ih,List.filter_cons_of_pos (by rw[h];rfl),mC,h];rfl
theorem vX(n:Nat){p:Px}{N m:Nat}(w:p.wf m)(hm:m<=4)(hN:p.sz<=N)(h50:p.sz<=50):call pg (n+N+1) 9 [p.d]=.ok (aY (bM p.rd),true,false):=by
 have hw:walk pg (call pg (n+N)) [.sh true p.d] (.seq (.call 10 (.cons (.v 0) .nil)))=.ok (p.pr.map (λq=>Vl.cl q.d),[]):=by
  rw[eY,dM (gX 0 rfl p.noL) (qU N p hN h50 n),aC]
  show R.ok (items _ (p.pr.map Px.d),[])=_
  rw[fA Px.noL]
 have hc:ev pg (call pg (n+N)) [.sh true p.d] (.comp 1 [] (.n 0) (.seq (.call 10 (.cons (.v 0) .nil))) (.cons (.cmp .Eq (.idx (.v 0) (.c (.int 0))) (.c (.str "box"))) .nil) (.idx (.v 0) (.c (.int 1))))=.ok ⟨.lst ((p.pr.filter λq=>q.bx.isSome).map λq=>bB (q.bx.getD 0)),true,false,[]⟩:=by
  refine aDp (ts:=p.pr) (al:=[]) (λq=>Vl.cl q.d) (λq=>bB (q.bx.getD 0)) (λq=>q.bx.isSome) (λ_=>rfl) hw (by rw[yC];unfold lim;omega) λq _=>⟨[.sh false q.d],kP _,?_,λh=>?_⟩
  . refine cF (cZ (bZ 0 rfl) (cM _) ?_) (aAf q)
    rw[q.d_eq]
    exact mT _ _ rfl
  . obtain⟨k,hk⟩:=Option.isSome_iff_exists.mp h
    have e:=aAg hk
    subst e
    exact cZ (bZ 0 rfl) (cM (.int 1)) (lL _ _ _ rfl)
 have e:((p.pr.filter λq=>q.bx.isSome).map λq=>bB (q.bx.getD 0))=p.rd.map bB:=by
  rw[<-aFH,<-vW Px.bx 0,Bv];rfl
 rw[e] at hc
 exact bE (F:=f9) rfl rfl (v:=⟨aY (bM p.rd),true,false,[]⟩) (dQ (aDq hc rfl λk hk=>Ar (Px.rd_lt w k hk) hm))
def Way.wr(w:Way):List Nat:=w.ps.map (·.1)
def Way.rdl(w:Way):List Nat:=rdC w.g++(w.ps.map λp=>rdS p.2).flatten
def Way.rds(w:Way):List Nat:=bM (bM (rdC w.g)++(w.ps.map λp=>bM (rdS p.2)).flatten)
theorem hU{α:Type}{f:α->List Nat}{l:List α}{k:Nat}:k∈(l.map f).flatten↔∃a∈l,k∈f a:=by
 rw[List.mem_flatten]
 constructor
 . rintro ⟨r,hr,hk⟩
   obtain⟨a,ha,rfl⟩:=A2.mp hr
   exact⟨a,ha,hk⟩
 . rintro ⟨a,ha,hk⟩
   exact⟨_,A2.mpr ⟨a,ha,rfl⟩,hk⟩
variable {m:Nat}
theorem aDr(hm:m<=4){w:Way}(o:fC m w):∀k∈bM (rdC w.g)++(w.ps.map λp=>bM (rdS p.2)).flatten,k<4:=λk hk=>by
 rcases A3.mp hk with z|z
 . exact tF k z
 . obtain⟨p,_,hp⟩:=hU.mp z
   exact tF k hp
theorem nI(hm:m<=4){w:Way}(o:fC m w)(k:Nat):k∈w.rds↔k∈w.rdl:=by
 unfold Way.rds Way.rdl
 rw[hG (aDr hm o),A3,A3,hG λk h=>Ar (lP _ o.g k h) hm,hU,hU]
 refine or_congr Iff.rfl ⟨λ⟨p,hp,h⟩=>⟨p,hp,?_⟩,λ⟨p,hp,h⟩=>⟨p,hp,?_⟩⟩
 . exact(hG (λk h=>Ar (hC _ (o.ps p hp).wf k h) hm) k).mp h
 . exact(hG (λk h=>Ar (hC _ (o.ps p hp).wf k h) hm) k).mpr h
theorem aDs:∀{ps:List (Nat×Sm)} {a:Nat},Up ps->(∀p∈ps,a<=p.1/\p.1<m)->a<=m->ps.length+a<=m
 | [],a,_,_,h=>by simpa using h
 | p::ps,a,u,h,_=>by
  have hp:=h p Ak
  have u':=Df.mp u
  have:=aDs (ps:=ps) (a:=p.1+1) u'.2 (λq hq=>⟨u'.1 q hq,(h q (Ae _ hq)).2⟩) hp.2
  rw[lC]
  omega
theorem pF{w:Way}(o:fC m w):w.ps.length<=m:=by
 have:=aDs (a:=0) o.up (λp hp=>⟨Bj _,(o.ps p hp).box⟩) (Bj _)
 omega
theorem vY{α:Type}{f:α->List Nat}{b:Nat}:∀{l:List α},(∀a∈l,(f a).length<=b)->(l.map f).flatten.length<=b*l.length
 | [],_=>Ag _
 | a::l,h=>by
  have:=vY (l:=l) λx hx=>h x (Ae _ hx)
  have:=h a Ak
  rw[mC,B9,lA,lC,Nat.mul_add,Nat.mul_one]
  omega
section
variable {P:Pg} {cl:Caller} {σ:Sg} {w:Way}
theorem w_g{e:E}(h:ev P cl σ e=.ok (.cl w.d)):ev P cl σ (.idx e (.c (.int 0)))=.ok (.cl w.g.d):=cZ h (cM _) (mT _ _ w.g.noL)
theorem aIx{e:E}(h:ev P cl σ e=.ok (.cl w.d)):walk P cl σ (.seq (.idx e (.c (.int 1))))=.ok (w.ps.map (λp=>Vl.cl (dI p)),[]):=by
 have hp:noL (.tup (w.ps.map dI))=true:=iI w.ps
 rw[eY,cZ h (cM _) (lL _ _ _ hp),aC]
 show R.ok (items _ (w.ps.map dI),[])=_
 rw[pC]
theorem aLq{e:E}(h:ev P cl σ e=.ok (.cl w.d))(hm:m<=4)(o:fC m w):ev P cl σ (.comp 2 [] (.t [0,1]) (.seq (.idx e (.c (.int 1)))) .nil (.v 0))=.ok ⟨aY w.wr,true,false,[]⟩:=by
 have:=aCV (k:=2) (caps:=[]) (T:=.t [0,1]) (elt:=.v 0) (ts:=w.ps) (al:=[]) (λp=>Vl.cl (dI p)) (λp=>bB p.1) (λ_=>rfl) (aIx h) (by have:=pF o;unfold lim;omega) λp _=>⟨[.sh false (bB p.1),.sh false p.2.d],aDk _ rfl p.2.noL,bZ 0 rfl⟩
 rw[this]
 unfold Way.wr
 rw[aY,Bv]
 rfl
end
theorem yD(n:Nat)(hm:m<=4){w:Way}(o:fC m w):call pg (n+1) 14 [w.d]=.ok (aY w.wr,true,false):=
 bE (F:=f14) rfl rfl (v:=⟨aY w.wr,true,false,[]⟩) (dQ (aLq (gX 0 rfl (fX w)) hm o))
theorem aBi(n:Nat)(hm:m<=4){w:Way}(o:fC m w):call pg (n+33) 11 [w.d]=.ok (aY w.rds,true,false):=by
 let τ:Nat->Sl->Sl->Sg:=λi s2 s3=>[.sh true w.d,.own false ((bM (rdC w.g)++((w.ps.take i).map λp=>bM (rdS p.2)).flatten).map bB),s2,s3]
 have pl:=pF o
 have v0:ev pg (call pg (n+32)) [.sh true w.d,.dead,.dead,.dead] (.v 0)=.ok (.cl w.d):=gX 0 rfl (fX w)
 have k1:ex pg (call pg (n+32)) [.sh true w.d,.dead,.dead,.dead] (hdS f11.body)=.next (τ 0 .dead .dead):=by
  have:=sY (i:=1) (dM (w_g v0) (vX n (p:=.c w.g) (N:=31) o.g hm o.gs (Av o.gs (by decide))))
  refine this.trans ?_
  show O.next [_,_,_,_]=O.next [_,_,_,_]
  rw[List.take_zero,mN,List.flatten_nil,Bt]
  rfl
 obtain⟨σ',ef,s2,s3,rfl⟩:=fS (P:=pg) (cl:=call pg (n+32)) (σ:=τ 0 .dead .dead) (t:=.t [2,3]) (b:=match hdS (drp 1 f11.body) with|.for _ _ b=>b|_=>.nil) (λi σ=>∃s2 s3,σ=τ i s2 s3) (aIx (gX 0 rfl (fX w))) ⟨_,_,rfl⟩ λi hi σ ⟨s2,s3,hσ⟩=>by
  have hi':i<w.ps.length:=by simpa using hi
  subst hσ
  have op:=o.ps _ (Bl hi')
  have ff:=vY (f:=λp:Nat×Sm=>bM (rdS p.2)) (b:=4) (l:=w.ps.take (i+1)) λ_ _=>kR _
  have:=kR (rdC w.g)
  have tl:(w.ps.take (i+1)).length<=4:=by rw[Cd];omega
  refine⟨τ i (.sh false (bB w.ps[i].1)) (.sh false w.ps[i].2.d),τ (i+1) (.sh false (bB w.ps[i].1)) (.sh false w.ps[i].2.d),?_,gY (aFI (dM (bZ 3 rfl) (vX (n+28) (p:=.s w.ps[i].2) (N:=3) op.wf hm op.sz (Av op.sz (by decide)))) (eG nG _) rfl (by
   rw[lM,lA]
   unfold lim
   omega) (by rw[fD (λp:Nat×Sm=>bM (rdS p.2)) w.ps hi',<-Cc,Ef];rfl)),_,_,rfl⟩
  rw[Ch]
  exact aDk _ rfl w.ps[i].2.noL
 refine bE (F:=f11) rfl rfl (v:=⟨aY w.rds,true,false,[]⟩) (cs k1 (cs ef (dQ (aDq (sZ 1 rfl) ?_ (aDr hm o)))))
 show D.lst (List.map bB (bM (rdC w.g)++((w.ps.take (w.ps.map λp=>Vl.cl (dI p)).length).map λp=>bM (rdS p.2)).flatten))=_
 rw[lM,Cf]
theorem tG{k:Nat}:∀(js ks:List Nat),k∈mrg ks js↔k∈ks\/k∈js
 | [],ks=>by simp[mrg]
 | j::js,ks=>by
  show k∈mrg (if j∈ks then ks else ks++[j]) js↔_
  rw[tG js]
  by_cases h:j∈ks
  . rw[if_pos h,Al]
    exact⟨λz=>z.imp id .inr,λz=>z.elim .inl λz=>z.elim (λz=>.inl (z▸h)) .inr⟩
  . rw[if_neg h,A3,Az,Al,or_assoc]
theorem yE:∀(js ks:List Nat),(mrg ks js).length<=ks.length+js.length
 | [],ks=>Ag _
 | j::js,ks=>by
  show(mrg (if j∈ks then ks else ks++[j]) js).length<=_
  have:=yE js (if j∈ks then ks else ks++[j])
  have h:(if j∈ks then ks else ks++[j]).length<=ks.length+1:=by split <;> simp
  rw[lC]
  omega
theorem pG:∀ks:List Nat,eD (jM ks)=some ks
 | []=>rfl
 | k::ks=>by
  show(if 0<=(k:Int) then (eD (jM ks)).map ((k:Int).toNat::·) else none)=_
  rw[if_pos (by omega),pG ks]
  rfl
section
variable {P:Pg} {cl:Caller} {σ:Sg}
theorem aDt{i:Nat}{e:E}{ks js:List Nat}{fr pa:Bool}(h:ev P cl σ e=.ok ⟨.dic (jM js),fr,pa,[]⟩)(hi:σ[i]? = some (.dct (.s ks)))(hl:ks.length+js.length<=1000):ex P cl σ (.dupd i e)=.next (σ.set i (.dct (.s (mrg ks js)))):=by
 show O.from σ (ev P cl σ e) _=_
 rw[h,aJ]
 show(match mK σ i,eD (jM js) with|some ks,some js=>if (true&&decide (ks.length+js.length<=1000))=true then O.next (σ.set i (.dct (.s (mrg ks js)))) else .bad|_,_=>.bad)=_
 unfold mK
 rw[hi,pG]
 show(if (true&&decide (ks.length+js.length<=1000))=true then O.next (σ.set i (.dct (.s (mrg ks js)))) else .bad)=_
 rw[Au hl]
 rfl
theorem aIy{a:E}{k:Int}(h:ev P cl σ a=.ok (.cl (.int k))):ev P cl σ (.dic (.cons a .nil) (.cons (.c (.bl true)) .nil))=.ok (.cl (.dic [(.int k,.bl true)])):=by
 show((ev P cl σ a >>= λx=>evs P cl σ .nil >>= λxs=>R.ok (x::xs)) >>= λks=>_)=_
 rw[h]
 rfl
theorem aIz{i f:Nat}{a:E}{x:Vl}{ks:List Nat}(h:ev P cl σ a=.ok x)(hc:cl f [x.d]=.ok (.dic (jM ks),false,false)):ex P cl σ (.dset i f (.cons a .nil))=.next (σ.set i (.dct (.s ks))):=by
 show O.from σ (evs P cl σ (.cons a .nil)) _=_
 rw[aO,h,aC,bI,aC,aJ]
 show O.from σ (cl f [x.d]) _=_
 rw[hc,aJ]
 show(match eD (jM ks) with|some ks=>O.next (σ.set i (.dct (.s ks)))|none=>.bad)=_
 rw[pG]
theorem aLr{i:Nat}{ks:List Nat}(hi:σ[i]? = some (.dct (.s ks)))(h:∀k∈ks,k<4):ev P cl σ (.srtD i)=.ok ⟨aY (bM ks),true,false,[]⟩:=by
 show(match mK σ i with|some ks=>R.iff (decide (∀k∈ks,k<4)) (.ok (⟨.lst ((bM ks).map λ(k:Nat)=>.int (k:Int)),true,false,[]⟩:Vl))|none=>.bad)=_
 unfold mK
 rw[hi]
 show R.iff (decide (∀k∈ks,k<4)) _=_
 rw[Au h]
 rfl
end
theorem tH:∀(N:Nat) (p:Px),p.sz<=N->p.sz<=50->∀n,∃ks,(∀k,k∈ks↔k∈p.rd)/\ks.length<=p.rd.length/\call pg (n+N) 15 [p.d]=.ok (.dic (jM ks),false,false)
 | 0,p,h,_,_=>absurd h (by have:=p.pos;omega)
 | N+1,p,h,h50,n=>by
  have v0:∀s1 s2,ev pg (call pg (n+N)) [.sh true p.d,s1,s2] (.idx (.v 0) (.c (.int 0)))=.ok (.cl (.str p.word)):=λs1 s2=>by
   refine cZ (gX 0 rfl p.noL) (cM _) ?_
   rw[p.d_eq]
   exact mT _ _ rfl
  have t0:=cF (v0 .dead .dead) (aAf p)
  cases hb:p.bx with
  | some k=>
   have e:=aAg hb
   subst e
   refine⟨[k],λj=>Iff.rfl,Ag _,bE (F:=f15) rfl rfl (v:=.cl (.dic (jM [k]))) (mF t0 (dQ ?_))⟩
   have x1:ev pg (call pg (n+N)) [.sh true (Px.s (.box k)).d,.dead,.dead] (.idx (.v 0) (.c (.int 1)))=.ok (.cl (bB k)):=cZ (gX 0 rfl rfl) (cM (.int 1)) (lL _ _ _ rfl)
   exact aIy x1
  | none=>
   rw[hb] at t0
   let R:Nat->List Nat:=λi=>((p.items.take i).map rdT).flatten
   obtain⟨σ',ef,ks,s2,rfl,m1,l1⟩:=fS (P:=pg) (cl:=call pg (n+N)) (σ:=[.sh true p.d,.dct (.s []),.dead]) (t:=.n 2) (b:=match hdS (drp 2 f15.body) with|.for _ _ b=>b|_=>.nil) (λi σ=>∃ks s2,σ=[.sh true p.d,.dct (.s ks),s2]/\(∀k,k∈ks↔k∈R i)/\ks.length<=(R i).length) (pE (i:=0) rfl) ⟨[],_,rfl,λk=>by simp[R],Bj _⟩ λi hi σ ⟨ks,s2,hσ,m1,l1⟩=>by
    have hi':i<p.items.length:=by simpa using hi
    subst hσ
    have w2:ev pg (call pg (n+N)) [.sh true p.d,.dct (.s ks),.sh false (itD p.items[i])] (.v 2)=.ok (.cl (itD p.items[i])):=bZ 2 rfl
    have hm:=Bl hi'
    have hR:R (i+1)=R i++rdT p.items[i]:=fD rdT p.items hi'
    cases hq:p.items[i] with
    | inl k=>
     rw[hq] at w2
     refine⟨[.sh true p.d,.dct (.s ks),.sh false (itD p.items[i])],[.sh true p.d,.dct (.s ks),.sh false (itD p.items[i])],?_,?_,ks,_,rfl,?_,?_⟩
     . rw[Ch,kP];rfl
     . rw[hq]
       exact gY (eF (vV w2 rfl))
     . rw[hR,hq];simpa[rdT] using m1
     . rw[hR,hq];simpa[rdT] using l1
    | inr q=>
     rw[hq] at w2 hm
     have qs:=tB p q hm
     obtain⟨js,a1,a2,a3⟩:=tH N q (by omega) (by omega) n
     have fl:=nB (p:=p) rdT (λt ht=>by
      cases t with
      | inl _=>exact Bj _
      | inr q=>have:=tE q;have:=tB p q ht;show q.rd.length<=100;omega) i
     have rq:=tE q
     refine⟨[.sh true p.d,.dct (.s ks),.sh false (itD p.items[i])],[.sh true p.d,.dct (.s (mrg ks js)),.sh false (itD p.items[i])],?_,?_,mrg ks js,_,rfl,λk=>?_,?_⟩
     . rw[Ch,kP];rfl
     . rw[hq]
       exact gY (aIq (vV w2 (by show isI [.tTuple] pg q.d=some true;rw[q.d_eq];rfl)) (gY (aDt (i:=1) (ks:=ks) (dM w2 a3) rfl (by
        have:ks.length<=200:=Av l1 fl
        omega))))
     . rw[hR,hq,tG,A3,m1,a1];rfl
     . rw[hR,hq,lA]
       have:=yE js ks
       show _<=_+q.rd.length
       omega
   have hfin:R (p.items.map λt=>Vl.cl (itD t)).length=p.rd:=by
    show((p.items.take (p.items.map λt=>Vl.cl (itD t)).length).map rdT).flatten=_
    rw[lM,Cf,aDn hb]
   rw[hfin] at m1 l1
   exact⟨ks,m1,l1,bE (F:=f15) rfl rfl (v:=.cl (.dic (jM ks))) (cs (eF t0) (cs (σ':=[.sh true p.d,.dct (.s []),.dead]) rfl (cs ef (aLm rfl))))⟩
theorem aDu{ks js:List Nat}(h:∀k,k∈ks↔k∈js):bM ks=bM js:=by
 unfold bM
 exact List.filter_congr λk _=>by simp only[h k]
variable {m:Nat}
theorem aBj(n:Nat)(hm:m<=4){w:Way}(o:fC m w):call pg (n+33) 16 [w.d]=.ok (aY w.rds,true,false):=by
 have pl:=pF o
 let R:Nat->List Nat:=λi=>rdC w.g++((w.ps.take i).map λp=>rdS p.2).flatten
 have v0:ev pg (call pg (n+32)) [.sh true w.d,.dead,.dead,.dead] (.v 0)=.ok (.cl w.d):=gX 0 rfl (fX w)
 obtain⟨k0,b1,b2,b3⟩:=tH 31 (.c w.g) o.gs (Av o.gs (by decide)) (n+1)
 have g50:(rdC w.g).length<=31:=Av (tE (.c w.g)) o.gs
 have k1:ex pg (call pg (n+32)) [.sh true w.d,.dead,.dead,.dead] (hdS f16.body)=.next [.sh true w.d,.dct (.s k0),.dead,.dead]:=aIz (i:=1) (w_g v0) b3
 obtain⟨σ',ef,ks,s2,s3,rfl,m1,l1⟩:=fS (P:=pg) (cl:=call pg (n+32)) (σ:=[.sh true w.d,.dct (.s k0),.dead,.dead]) (t:=.t [2,3]) (b:=match hdS (drp 1 f16.body) with|.for _ _ b=>b|_=>.nil) (λi σ=>∃ks s2 s3,σ=[.sh true w.d,.dct (.s ks),s2,s3]/\(∀k,k∈ks↔k∈R i)/\ks.length<=31+3*i) (aIx (gX 0 rfl (fX w))) ⟨k0,_,_,rfl,λk=>by rw[b1];show k∈rdC w.g↔k∈rdC w.g++_;simp,Av b2 g50⟩ λi hi σ ⟨ks,s2,s3,hσ,m1,l1⟩=>by
  have hi':i<w.ps.length:=by simpa using hi
  subst hσ
  have op:=o.ps _ (Bl hi')
  obtain⟨js,a1,a2,a3⟩:=tH 3 (.s w.ps[i].2) op.sz (Av op.sz (by decide)) (n+29)
  have r3:(rdS w.ps[i].2).length<=3:=Av (tE (.s w.ps[i].2)) op.sz
  have a2:js.length<=(rdS w.ps[i].2).length:=a2
  refine⟨[.sh true w.d,.dct (.s ks),.sh false (bB w.ps[i].1),.sh false w.ps[i].2.d],[.sh true w.d,.dct (.s (mrg ks js)),.sh false (bB w.ps[i].1),.sh false w.ps[i].2.d],?_,gY (aDt (i:=1) (ks:=ks) (dM (bZ 3 rfl) a3) rfl (by omega)),mrg ks js,_,_,rfl,λk=>?_,?_⟩
  . rw[Ch]
    exact aDk _ rfl w.ps[i].2.noL
  . rw[tG,m1,a1]
    show _↔k∈rdC w.g++_
    rw[fD (λp:Nat×Sm=>rdS p.2) w.ps hi',<-Ef,A3 (t:=rdS w.ps[i].2)]
    rfl
  . have:=yE js ks
    omega
 have hfin:R (w.ps.map λp=>Vl.cl (dI p)).length=w.rdl:=by
  show rdC w.g++((w.ps.take (w.ps.map λp=>Vl.cl (dI p)).length).map λp=>rdS p.2).flatten=_
  rw[lM,Cf]
  rfl
 rw[hfin] at m1
 have e:bM ks=w.rds:=aDu λk=>by rw[m1,<-nI hm o k];exact hG (aDr hm o) k
 have h4:∀k∈ks,k<4:=λk hk=>tF k ((nI hm o k).mpr ((m1 k).mp hk))
 refine bE (F:=f16) rfl rfl (v:=⟨aY w.rds,true,false,[]⟩) (cs k1 (cs ef (dQ ?_)))
 rw[<-e]
 exact aLr (i:=1) rfl h4
theorem pH{m:Nat}{a a' b b':List Int}:∀{s:Sm},s.wf m true->(∀k∈rdS s,a.getD k 0=b.getD k 0)->s.val a a'=s.val b b'
 | .num _,_,_=>rfl
 | .box j,_,h=>h j (Az.mpr rfl)
 | .aft _,w,_=>by cases w.2
 | .two p x y,w,h=>by
  have e1:=pH (a':=a') (b':=b') (s:=x) w.1 λk hk=>h k (A9 _ hk)
  have e2:=pH (a':=a') (b':=b') (s:=y) w.2 λk hk=>h k (Aq _ hk)
  show(if p=true then _ else _)=(if p=true then _ else _)
  rw[e1,e2]
theorem nJ{m:Nat}{a a' b b':List Int}:∀{s:Cn},s.wf m true->(∀k∈rdC s,a.getD k 0=b.getD k 0)->s.hold a a'=s.hold b b'
 | .yes,_,_=>rfl
 | .cmp i x y,w,h=>by
  have e1:=pH (a':=a') (b':=b') (s:=x) w.1 λk hk=>h k (A9 _ hk)
  have e2:=pH (a':=a') (b':=b') (s:=y) w.2 λk hk=>h k (Aq _ hk)
  show(if i=true then _ else _)=(if i=true then _ else _)
  rw[e1,e2]
 | .nt x,w,h=>by
  show(!x.hold a a')=(!x.hold b b')
  rw[nJ (s:=x) w h]
 | .two p x y,w,h=>by
  have e1:=nJ (a':=a') (b':=b') (s:=x) w.1 λk hk=>h k (A9 _ hk)
  have e2:=nJ (a':=a') (b':=b') (s:=y) w.2 λk hk=>h k (Aq _ hk)
  show(if p=true then _ else _)=(if p=true then _ else _)
  rw[e1,e2]
def apl:List (Nat×Int)->List Int->List Int
 | [],acc=>acc
 | p::ps,acc=>apl ps (acc.set p.1 p.2)
def vls(st:List Int)(ps:List (Nat×Sm)):List (Nat×Int):=ps.map λp=>(p.1,p.2.val st st)
def okV(bs:List (Str×Int))(vs:List (Nat×Int)):Prop:=∀v∈vs,0<=v.2/\v.2<=kN bs v.1
theorem vZ{bs:List (Str×Int)}{st:List Int}:∀{ps:List (Nat×Sm)} {acc r:List Int},putF bs st acc ps=some r↔okV bs (vls st ps)/\r=apl (vls st ps) acc
 | [],acc,r=>⟨λh=>⟨λ_ z=>absurd z Bw,(Ai h).symm⟩,λh=>congrArg some h.2.symm⟩
 | p::ps,acc,r=>by
  show(if 0<=p.2.val st st/\p.2.val st st<=kN bs p.1 then putF bs st (acc.set p.1 (p.2.val st st)) ps else none)=some r↔_
  have ok:okV bs (vls st (p::ps))↔(0<=p.2.val st st/\p.2.val st st<=kN bs p.1)/\okV bs (vls st ps):=⟨λh=>⟨h _ Ak,λv hv=>h v (Ae _ hv)⟩,λh v hv=>by
   rcases Al.mp hv with rfl|z
   . exact h.1
   . exact h.2 v z⟩
  rw[ok]
  by_cases hc:0<=p.2.val st st/\p.2.val st st<=kN bs p.1
  . rw[if_pos hc,vZ]
    exact⟨λh=>⟨⟨hc,h.1⟩,h.2⟩,λh=>⟨h.1.2,h.2⟩⟩
  . rw[if_neg hc]
    exact⟨λh=>(by cases h),λh=>absurd h.1.1 hc⟩
theorem wB{bs:List (Str×Int)}{w:Way}{st r:List Int}:kO bs w st=some r↔w.g.hold st st=true/\okV bs (vls st w.ps)/\r=apl (vls st w.ps) st:=by
 unfold kO
 by_cases h:w.g.hold st st=true
 . rw[if_pos h,vZ]
   exact⟨λz=>⟨h,z⟩,λz=>z.2⟩
 . rw[if_neg h]
   exact⟨λz=>(by cases z),λz=>absurd z.1 h⟩
theorem aEY(st:List Int)(w:Way):(vls st w.ps).map (·.1)=w.wr:=by unfold vls Way.wr;rw[Bv];rfl
theorem tJ:∀{vs:List (Nat×Int)} {acc:List Int} {k:Nat},k∉vs.map (·.1)->(apl vs acc).getD k 0=acc.getD k 0
 | [],_,_,_=>rfl
 | v::vs,acc,k,h=>by
  rw[mC,Al,not_or] at h
  show(apl vs (acc.set v.1 v.2)).getD k 0=_
  rw[tJ h.2,Ca,Ac (λz=>h.1 z.symm),Ca]
theorem aDv:∀{vs:List (Nat×Int)} {acc acc':List Int} {k:Nat},k∈vs.map (·.1)->acc.length=acc'.length->(apl vs acc).getD k 0=(apl vs acc').getD k 0
 | [],_,_,_,h,_=>by cases h
 | v::vs,acc,acc',k,h,hl=>by
  show(apl vs (acc.set v.1 v.2)).getD k 0=(apl vs (acc'.set v.1 v.2)).getD k 0
  by_cases hk:k∈vs.map (·.1)
  . exact aDv hk (by rw[Ap,Ap];exact hl)
  . have e:k=v.1:=by
     rw[mC,Al] at h
     exact h.elim id λz=>absurd z hk
    rw[tJ hk,tJ hk,e,Ca,Ca,List.getElem?_set,List.getElem?_set,hl]
    simp
def prj(r:List Int)(ks:List Nat):List Int:=ks.map λk=>r.getD k 0
def aft(bs:List (Str×Int))(w:Way)(st:List Int):Option (List Int):=(kO bs w st).map λr=>prj r w.wr
variable {bs:List (Str×Int)}
theorem aIA(hm:bs.length<=4){w:Way}(o:fC bs.length w){a b:List Int}(ha:a.length=bs.length)(hb:b.length=bs.length)(h:prj a w.rds=prj b w.rds):aft bs w a=aft bs w b:=by
 have h1:∀k∈w.rdl,a.getD k 0=b.getD k 0:=λk hk=>El.mp h k ((nI hm o k).mpr hk)
 have eh:w.g.hold a a=w.g.hold b b:=nJ o.g λk hk=>h1 k (A9 _ hk)
 have ev:vls a w.ps=vls b w.ps:=C0 λp hp=>by
  rw[pH (a':=a) (b':=b) (o.ps p hp).wf λk hk=>h1 k (Aq _ (hU.mpr ⟨p,hp,hk⟩))]
 have step:∀{x y:List Int} {r:List Int},w.g.hold x x=w.g.hold y y->vls x w.ps=vls y w.ps->x.length=y.length->kO bs w x=some r->∃s,kO bs w y=some s/\prj r w.wr=prj s w.wr:=λ{x y r} e1 e2 e3 q=>by
  obtain⟨q1,q2,q3⟩:=wB.mp q
  refine⟨apl (vls y w.ps) y,wB.mpr ⟨e1▸q1,e2▸q2,rfl⟩,?_⟩
  rw[q3,e2]
  exact C0 λk hk=>aDv (by rw[aEY];exact hk) e3
 unfold aft
 cases q:kO bs w a with
 | some r=>
  obtain⟨s,e1,e2⟩:=step eh ev (by rw[ha,hb]) q
  rw[e1]
  exact congrArg some e2
 | none=>
  cases q2:kO bs w b with
  | none=>rfl
  | some r=>
   obtain⟨s,e1,_⟩:=step eh.symm ev.symm (by rw[ha,hb]) q2
   rw[q] at e1
   cases e1
def afD:Option (List Int)->D
 | none=>.non
 | some r=>.lst (r.map D.int)
theorem aDw:∀o:Option (List Int),bG .NotEq (afD o) (afD o)=some false
 | none=>rfl
 | some r=>by
  show(eqF (119+1) (.lst (r.map D.int)) (.lst (r.map D.int))).map (!·)=_
  have:eqF (119+1) (.lst (r.map D.int)) (.lst (r.map D.int))=some true:=by
   show(if (r.map D.int).length=(r.map D.int).length then eqL (eqF 119) (r.map D.int) (r.map D.int) else some false)=_
   rw[if_pos rfl,wX]
   exact aAe 118 r
  rw[this]
  rfl
theorem wC{k:List Int}{d:D}:∀{kvs:List (List Int×D)},kvs.lookup k=some d->(k,d)∈kvs
 | (a,b)::kvs,h=>by
  rw[Dp] at h
  by_cases hk:k=a
  . rw[show(k==a)=true from D9.mpr hk] at h
    cases h
    rw[hk]
    exact Ak
  . rw[show(k==a)=false from A1.mpr hk] at h
    exact Ae _ (wC h)
theorem mem_set{kvs:List (List Int×D)}{k:List Int}{d:D}{kv:List Int×D}(h:kv∈eE kvs k d):kv=(k,d)\/kv∈kvs:=by
 unfold eE at h
 split at h
 . obtain⟨x,hx,e⟩:=A2.mp h
   split at e
   . rename_i hk
     exact .inl (by rw[<-e,hk])
   . exact .inr (e▸hx)
 . rcases A3.mp h with z|z
   . exact .inr z
   . exact .inl (Az.mp z)
theorem aEZ(kvs:List (List Int×D))(k:List Int)(d:D):(eE kvs k d).length<=kvs.length+1:=by
 unfold eE
 split <;> simp
section
variable {P:Pg} {cl:Caller} {σ:Sg}
theorem tK(i:Nat){ds:List D}(h:σ[i]? = some (.sh true (.lst ds))):ev P cl σ (.v i)=.ok ⟨.lst ds,false,true,[]⟩:=by
 show cA σ i=_
 unfold cA
 rw[h]
 rfl
theorem aFa{ds:List D}(h:noLs ds=true):biD .tuple [⟨.lst ds,true,false,[]⟩]=.ok (.cl (.tup ds)):=by
 show R.ok (Vl.mk (.tup ds) false (false&&!noLs ds) (if noLs ds=true then [] else []))=_
 rw[h];rfl
theorem pI:∀r:List Int,fY (aN r)=some r
 | []=>rfl
 | i::r=>by
  have h:=pI r
  show gH (D.int i::r.map D.int)=_
  unfold gH
  rw[show gH (r.map D.int)=some r from h]
theorem qW{i:Nat}{ks:List Nat}(h:σ[i]? = some (.sh true (aY ks))):walk P cl σ (.seq (.v i))=.ok (ks.map (λk=>Vl.cl (bB k)),[]):=by
 rw[eY,tK i h,aC]
 show R.ok (items _ (ks.map bB),[])=_
 rw[fA nG]
theorem nD{r:List Int}{k:Nat}(h:k<r.length):bT (.cl (aN r)) (.cl (bB k))=.ok (.cl (.int (r.getD k 0))):=by
 have e:(r.map D.int)[k]? = some (.int (r.getD k 0)):=by simp[h]
 unfold bT
 show(match Hp.ixN (r.map D.int).length (k:Int) with|some j=>(match (r.map D.int)[j]? with|some d=>R.ok (Vl.sub (.cl (aN r)) d)|none=>.bad)|none=>.bad)=_
 rw[lM,eP h]
 simp only[e]
 rfl
theorem aFJ{i j:Nat}{ks:List Nat}{r:List Int}(hi:σ[i]? = some (.sh true (aY ks)))(hj:σ[j]? = some (.sh false (aN r)))(hk:∀k∈ks,k<r.length)(hl:ks.length<=100):ev P cl σ (.comp 1 [j] (.n 0) (.seq (.v i)) .nil (.idx (.v 1) (.v 0)))=.ok ⟨.lst ((prj r ks).map D.int),true,false,[]⟩:=by
 have:=aCV (P:=P) (cl:=cl) (σ:=σ) (k:=1) (caps:=[j]) (T:=.n 0) (elt:=.idx (.v 1) (.v 0)) (ts:=ks) (al:=[]) (λk=>Vl.cl (bB k)) (λk=>D.int (r.getD k 0)) (λ_=>rfl) (qW hi) (by unfold lim;omega) λk hkm=>⟨[.sh false (bB k),.sh false (aN r)],by
  rw[bW]
  show bC [.dead,(σ[j]?).getD .dead] _ _=_
  rw[hj,kP]
  rfl,cZ (bZ 1 rfl) (bZ 0 rfl) (nD (hk k hkm))⟩
 rw[this]
 unfold prj
 rw[Bv]
 rfl
theorem xQ{i:Nat}{k a:E}{x y:Vl}{kvs:List (List Int×D)}{is:List Int}{b:Bool}(h1:ev P cl σ k=.ok x)(h2:ev P cl σ a=.ok y)(hi:σ[i]? = some (.dct (.m kvs)))(hk:fY x.d=some is)(hc:bG .NotEq ((kvs.lookup is).getD y.d) y.d=some b):tst P cl σ (.dgne i k a)=.ok b:=by
 show(ev P cl σ k >>= λx=>ev P cl σ a >>= λy=>(match mL σ i,fY x.d with
  | some kvs,some is=>(match bG .NotEq ((kvs.lookup is).getD y.d) y.d with|some k=>R.ok k|none=>.bad)
  | _,_=>.bad))=_
 rw[h1,aC,h2,aC,hk]
 unfold mL
 rw[hi]
 show(match bG .NotEq ((kvs.lookup is).getD y.d) y.d with|some k=>R.ok k|none=>.bad)=_
 rw[hc]
theorem aIB{i:Nat}{k a:E}{x y:Vl}{kvs:List (List Int×D)}{is:List Int}(h1:ev P cl σ a=.ok y)(h2:ev P cl σ k=.ok x)(hi:(freeze σ y.al)[i]? = some (.dct (.m kvs)))(hk:fY x.d=some is)(hl:kvs.length<=1000):ex P cl σ (.dput i k a)=.next ((freeze σ y.al).set i (.dct (.m (eE kvs is y.d)))):=by
 show O.from σ (ev P cl σ a) _=_
 rw[h1,aJ]
 show O.from σ (ev P cl σ k) _=_
 rw[h2,aJ]
 show(match mL (freeze σ y.al) i,fY x.d with
  | some kvs,some is=>if kvs.length<=1000 then O.next ((freeze σ y.al).set i (.dct (.m (eE kvs is y.d)))) else .bad
  | _,_=>.bad)=_
 unfold mL
 rw[hi,hk]
 show(if kvs.length<=1000 then O.next _ else .bad)=_
 rw[if_pos hl]
end
theorem aAh:∀(ks:List Nat) (n:Nat),eB (n+1) (ks.map bB) (ks.map bB)=some true
 | [],_=>rfl
 | k::ks,n=>by rw[mC,eB,zR,aAh ks n];simp
theorem aFb(ks:List Nat):bG .NotEq (aY ks) (aY ks)=some false:=by
 show(eqF (119+1) (.lst (ks.map bB)) (.lst (ks.map bB))).map (!·)=_
 have:eqF (119+1) (.lst (ks.map bB)) (.lst (ks.map bB))=some true:=by
  show(if (ks.map bB).length=(ks.map bB).length then eqL (eqF 119) (ks.map bB) (ks.map bB) else some false)=_
  rw[if_pos rfl,wX]
  exact aAh ks 118
 rw[this]
 rfl
theorem qX(n:Nat)(ks:List Nat)(hl:ks.length<=100):call pg (n+2) 17 [aY ks,aY ks]=.ok (.bl true,false,false):=by
 have v0:ev pg (call pg (n+1)) [.sh true (aY ks),.sh true (aY ks)] (.v 0)=.ok ⟨aY ks,false,true,[]⟩:=tK 0 rfl
 have v1:ev pg (call pg (n+1)) [.sh true (aY ks),.sh true (aY ks)] (.v 1)=.ok ⟨aY ks,false,true,[]⟩:=tK 1 rfl
 have hc:ev pg (call pg (n+1)) [.sh true (aY ks),.sh true (aY ks)] (.comp 1 [] (.n 0) (.seq (.v 0)) (.cons (.nt (.call 13 (.cons (.v 0) .nil))) .nil) (.v 0))=.ok ⟨.lst ((ks.filter λ_=>false).map bB),true,false,[]⟩:=
  aDp (ts:=ks) (al:=[]) (λk=>Vl.cl (bB k)) (λk=>bB k) (λ_=>false) (λ_=>rfl) (qW rfl) (by unfold lim;omega) λk _=>⟨[.sh false (bB k)],kP _,rU (k:=true) (by
   rw[kG,aO,bZ 0 rfl,aC,bI,aC,aC]
   show(call pg (n+1) 13 [bB k] >>= λr=>dN (eS _ r))=_
   rw[aDj];rfl),λh=>absurd h bN⟩
 rw[List.filter_eq_nil_iff.mpr (λ_ _=>bN)] at hc
 exact bE (F:=f17) rfl rfl (v:=.cl (.bl true)) (cs (eF (aDl (rU (k:=true) (vV v0 rfl)) (uL v0 v1 (aFb ks)))) (dQ (aLf hc (aDm aFG) rfl)))
variable {bs:List (Str×Int)}
theorem aLs{w:Way}(o:fC bs.length w):∀k∈w.wr,k<bs.length:=λk hk=>by
 obtain⟨p,hp,rfl⟩:=A2.mp hk
 exact(o.ps p hp).box
theorem aIC(hm:bs.length<=4){w:Way}(o:fC bs.length w):∀k∈w.rds,k<bs.length:=λk hk=>by
 rcases A3.mp ((nI hm o k).mp hk) with z|z
 . exact lP _ o.g k z
 . obtain⟨p,hp,h⟩:=hU.mp z
   exact hC _ (o.ps p hp).wf k h
theorem wD{st:List Int}:∀{ps:List (Nat×Sm)} {acc r:List Int},putF bs st acc ps=some r->r.length=acc.length
 | [],acc,r,h=>by cases h;rfl
 | p::ps,acc,r,h=>by
  unfold putF at h
  split at h
  . rw[wD h,Ap]
  . cases h
theorem aDx{w:Way}{st r:List Int}(h:kO bs w st=some r):r.length=st.length:=by
 unfold kO at h
 split at h
 . exact wD h
 . cases h
theorem aBk(n:Nat)(hT:aCQ bs)(hm:bs.length<=4){w:Way}(o:fC bs.length w):call pg (n+33) 18 [.lst (aD bs),w.d,aY w.rds,aY w.wr]=.ok (.bl true,false,false):=by
 let τ:List (List Int×D)->Sl->Sl->Sl->Sg:=λkvs s5 s6 s7=>[.sh true (.lst (aD bs)),.sh true w.d,.sh true (aY w.rds),.sh true (aY w.wr),.dct (.m kvs),s5,s6,s7]
 have lens:∀st∈standsL bs,st.length=bs.length:=by
  have:=(sR hT bs.length (Ag _)).2
  rwa [Cf] at this
 have l24:(standsL bs).length<=24:=by
  have:=aFC hT bs.length (Ag _)
  rwa [Cf] at this
 have pl:=pF o
 have wl:w.wr.length<=4:=by unfold Way.wr;rw[lM];omega
 have rl:w.rds.length<=4:=kR _
 have v0:∀kvs s5 s6 s7,ev pg (call pg (n+32)) (τ kvs s5 s6 s7) (.v 0)=.ok ⟨.lst (aD bs),false,true,[]⟩:=λ_ _ _ _=>tK 0 rfl
 have hw:walk pg (call pg (n+32)) (τ [] .dead .dead .dead) (.seq (.call 12 (.cons (.v 0) .nil)))=.ok ((standsL bs).map (λs=>Vl.cl (aN s)),[]):=by
  rw[eY,dM (v0 _ _ _ _) (aBf (P:=pg) (f:=12) rfl (n+31) hT),aC]
  show R.ok (items _ ((standsL bs).map aN),[])=_
  rw[fA bU]
 obtain⟨σ',ef,kvs,s5,s6,s7,rfl,_⟩:=fS (P:=pg) (cl:=call pg (n+32)) (σ:=τ [] .dead .dead .dead) (t:=.n 5) (b:=match hdS (drp 1 f18.body) with|.for _ _ b=>b|_=>.nil) (λi σ=>∃kvs s5 s6 s7,σ=τ kvs s5 s6 s7/\(∀kv∈kvs,∃st∈standsL bs,kv.1=prj st w.rds/\kv.2=afD (aft bs w st))/\kvs.length<=i) hw ⟨[],_,_,_,rfl,λ_ h=>absurd h Bw,Ag _⟩ λi hi σ ⟨kvs,s5,s6,s7,hσ,inv,hkl⟩=>by
  have hi':i<(standsL bs).length:=by simpa using hi
  subst hσ
  have hst:=Bl hi'
  have hlen:=lens _ hst
  rw[Ch]
  generalize (standsL bs)[i]=st at hst hlen
  have hcmp:bG .NotEq ((kvs.lookup (prj st w.rds)).getD (afD (aft bs w st))) (afD (aft bs w st))=some false:=by
   cases q:kvs.lookup (prj st w.rds) with
   | none=>exact aDw _
   | some d=>
    obtain⟨st',h1,h2,h3⟩:=inv _ (wC q)
    have h3:d=afD (aft bs w st'):=h3
    rw[aIA hm o hlen (lens st' h1) h2,h3]
    exact aDw _
  have tail:∀(S6 S6':Sl) (y:Vl),(∀s7,ev pg (call pg (n+32)) (τ kvs (.sh false (aN st)) S6 s7) (.v 6)=.ok y)->y.d=afD (aft bs w st)->(∀s7,freeze (τ kvs (.sh false (aN st)) S6 s7) y.al=τ kvs (.sh false (aN st)) S6' s7) ->
   exs pg (call pg (n+32)) (τ kvs (.sh false (aN st)) S6 s7) (drp 2 (match hdS (drp 1 f18.body) with|.for _ _ b=>b|_=>.nil))=.next (τ (eE kvs (prj st w.rds) (afD (aft bs w st))) (.sh false (aN st)) S6' (.sh false (aN (prj st w.rds)))):=λS6 S6' y hy hd hf=>by
   have e3:ex pg (call pg (n+32)) (τ kvs (.sh false (aN st)) S6 s7) (.set (.n 7) (.bi .tuple (.cons (.comp 1 [5] (.n 0) (.seq (.v 2)) .nil (.idx (.v 1) (.v 0))) .nil)))=.next (τ kvs (.sh false (aN st)) S6 (.sh false (aN (prj st w.rds)))):=
    eO (aLg (aFJ (i:=2) (j:=5) rfl rfl (λk hk=>by rw[hlen];exact aIC hm o k hk) (by omega)) (aFa (eZ _)))
   have e5:ex pg (call pg (n+32)) (τ kvs (.sh false (aN st)) S6 (.sh false (aN (prj st w.rds)))) (.dput 4 (.v 7) (.v 6))=.next (τ (eE kvs (prj st w.rds) (afD (aft bs w st))) (.sh false (aN st)) S6' (.sh false (aN (prj st w.rds)))):=by
    have:=aIB (i:=4) (k:=.v 7) (a:=.v 6) (kvs:=kvs) (is:=prj st w.rds) (x:=.cl (aN (prj st w.rds))) (hy (.sh false (aN (prj st w.rds)))) (bZ 7 rfl) (by rw[hf];rfl) (pI _) (by omega)
    rw[hf,hd] at this
    exact this
   exact cs e3 (cs (eF (xQ (bZ 7 rfl) (hy _) rfl (pI _) (by rw[hd];exact hcmp))) (gY e5))
  have e1:ex pg (call pg (n+32)) (τ kvs (.sh false (aN st)) s6 s7) (.set (.n 6) (.call 2 (.cons (.v 0) (.cons (.v 1) (.cons (.v 5) .nil)))))=.next (τ kvs (.sh false (aN st)) (.sh false (stD (kO bs w st))) s7):=
   eO (dL (v0 _ _ _ _) (gX 1 rfl (fX w)) (bZ 5 rfl) (yB n hlen (by omega) o))
  have done:∀S6',exs pg (call pg (n+32)) (τ kvs (.sh false (aN st)) s6 s7) (match hdS (drp 1 f18.body) with|.for _ _ b=>b|_=>.nil)=.next (τ (eE kvs (prj st w.rds) (afD (aft bs w st))) (.sh false (aN st)) S6' (.sh false (aN (prj st w.rds))))->∃σ1 σ',bC (τ kvs s5 s6 s7) (Vl.cl (aN st)) (.n 5)=.ok σ1/\exs pg (call pg (n+32)) σ1 (match hdS (drp 1 f18.body) with|.for _ _ b=>b|_=>.nil)=.next σ'/\∃kvs s5 s6 s7,σ'=τ kvs s5 s6 s7/\(∀kv∈kvs,∃st∈standsL bs,kv.1=prj st w.rds/\kv.2=afD (aft bs w st))/\kvs.length<=i+1:=λS6' h=>by
   refine⟨_,_,kP _,h,_,_,_,_,rfl,λkv hkv=>?_,?_⟩
   . rcases mem_set hkv with z|z
     . exact⟨st,hst,by rw[z],by rw[z]⟩
     . exact inv kv z
   . have:=aEZ kvs (prj st w.rds) (afD (aft bs w st))
     omega
  cases q:kO bs w st with
  | none=>
   rw[q] at e1
   have ha:aft bs w st=none:=by unfold aft;rw[q];rfl
   exact done _ (cs e1 (cs (eF (uL (bZ 6 rfl) (cM .non) rfl)) (tail (.sh false .non) (.sh false .non) (.cl .non) (λ_=>bZ 6 rfl) (by rw[ha];rfl) λ_=>rfl)))
  | some r=>
   rw[q] at e1
   have ha:aft bs w st=some (prj r w.wr):=by unfold aft;rw[q];rfl
   exact done _ (cs e1 (cs (aIq (uL (bZ 6 rfl) (cM .non) rfl) (gY (sY (aFJ (i:=3) (j:=6) rfl rfl (λk hk=>by rw[aDx q,hlen];exact aLs o k hk) (by omega))))) (tail (.own false ((prj r w.wr).map D.int)) (.sh false (.lst ((prj r w.wr).map D.int))) ⟨.lst ((prj r w.wr).map D.int),false,false,[6]⟩ (λ_=>sZ 6 rfl) (by rw[ha];rfl) λ_=>rfl)))
 exact bE (F:=f18) rfl rfl (v:=.cl (.bl true)) (cs (σ':=τ [] .dead .dead .dead) rfl (cs ef (dQ (cM _))))
section
variable {P:Pg} {cl:Caller} {σ:Sg}
theorem aAi{f:Nat}{a b:E}{x y:Vl}{k:Bool}(h1:ev P cl σ a=.ok x)(h2:ev P cl σ b=.ok y)(hc:cl f [x.d,y.d]=.ok (.bl k,false,false)):tst P cl σ (.call f (.cons a (.cons b .nil)))=.ok k:=by
 rw[kG,aO,h1,aC,aO,h2,aC,bI,aC,aC,aC]
 show(cl f [x.d,y.d] >>= λr=>dN (eS [x,y] r))=_
 rw[hc]
 rfl
theorem tL{f:Nat}{es:Es}{ds:List D}{k:Bool}(h:evP P cl σ es=.ok ds)(hc:cl f ds=.ok (.bl k,false,false)):tst P cl σ (.callP f es)=.ok k:=by
 show(evP P cl σ es >>= λds=>cl f ds >>= λr=>aAw r >>= λv=>dN v)=_
 rw[h,aC,hc]
 rfl
theorem aFc{i k:Nat}{es:Es}{dss:List (List D)}{ds:List D}{ts:List D}(hi:σ[i]? = some (.own2 dss))(hk:dss[k]? = some ds)(h:evP P cl σ es=.ok ts):evP P cl σ (.cons (.o2 i k) es)=.ok (.lst ds::ts):=by
 show(nS σ i k >>= λd=>evP P cl σ es >>= λds=>R.ok (d::ds))=_
 unfold nS pL
 rw[hi]
 show((match dss[k]? with|some ds=>R.ok (.lst ds)|none=>.bad) >>= λd=>evP P cl σ es >>= λds=>R.ok (d::ds))=_
 rw[hk,h]
 rfl
theorem p_v{i:Nat}{es:Es}{x:Vl}{ts:List D}(h1:ev P cl σ (.v i)=.ok x)(h:evP P cl σ es=.ok ts):evP P cl σ (.cons (.v i) es)=.ok (x.d::ts):=by
 show((ev P cl σ (.v i) >>= λx=>R.ok x.d) >>= λd=>evP P cl σ es >>= λds=>R.ok (d::ds))=_
 rw[h1,h]
 rfl
theorem aLt{a b:E}{es:Es}{x:Vl}{ts:List D}(h1:ev P cl σ (.idx a b)=.ok x)(h:evP P cl σ es=.ok ts):evP P cl σ (.cons (.idx a b) es)=.ok (x.d::ts):=by
 show((ev P cl σ (.idx a b) >>= λx=>R.ok x.d) >>= λd=>evP P cl σ es >>= λds=>R.ok (d::ds))=_
 rw[h1,h]
 rfl
theorem aID{i:Nat}{a b:E}{ds es:List D}(h1:ev P cl σ a=.ok ⟨.lst ds,true,false,[]⟩)(h2:ev P cl σ b=.ok ⟨.lst es,true,false,[]⟩)(n1:noLs ds=true)(n2:noLs es=true)(h:aBJ (σ.set i .dead)=true):ex P cl σ (.set2 i a b)=.next (σ.set i (.own2 [ds,es])):=by
 show O.from σ (ev P cl σ a) _=_
 rw[h1,aJ]
 show O.from σ (ev P cl σ b) _=_
 rw[h2,aJ]
 show(if (noLs ds&&noLs es&&aBJ (σ.set i .dead))=true then O.next (σ.set i (.own2 [ds,es])) else .bad)=_
 rw[n1,n2,h]
 rfl
theorem aDy{i k:Nat}{d:D}{dss:List (List D)}{ds:List D}(hi:σ[i]? = some (.own2 dss))(hk:dss[k]? = some ds)(n1:noL d=true)(hl:ds.length<=100):ex P cl σ (.app2 i k (.c d))=.next (σ.set i (.own2 (dss.set k (ds++[d])))):=by
 show(match pL σ i with
  | some dss=>(match dss[k]? with
   | some ds=>if (noL d&&decide (ds.length<lim))=true then O.next (σ.set i (.own2 (dss.set k (ds++[d])))) else .bad
   | none=>.bad)
  | none=>.bad)=_
 unfold pL
 rw[hi]
 show(match dss[k]? with
  | some ds=>if (noL d&&decide (ds.length<lim))=true then O.next (σ.set i (.own2 (dss.set k (ds++[d])))) else .bad
  | none=>.bad)=_
 rw[hk]
 show(if (noL d&&decide (ds.length<lim))=true then O.next (σ.set i (.own2 (dss.set k (ds++[d])))) else .bad)=_
 rw[n1,Au (by unfold lim;omega)]
 rfl
end
theorem pure(ns:List Int)(_:ns.length<=63):∃fr pa,call pg 60 19 [.lst (ns.map D.int)]=.ok (.bl true,fr,pa):=by
 refine⟨false,false,bE (F:=f19) rfl rfl (v:=.cl (.bl true)) ?_⟩
 show exs pg (call pg 59) [.sh true (.lst (ns.map D.int)),.dead,.dead,.dead,.dead,.dead,.dead] _=_
 obtain⟨bs,k0,T,hm,hm4,hk0,hbx⟩:=aBg 56 ns
 let lw:Nat->Sl->Sl->Sl->Sl->Sl->Sg:=λk s2 s3 s4 s5 s6=>[.sh true (.lst (ns.map D.int)),.own true (aT ns k),s2,s3,s4,s5,s6]
 let BX:Sl:=.sh false (.lst (aD bs))
 have e1:ex pg (call pg 59) [.sh true (.lst (ns.map D.int)),.dead,.dead,.dead,.dead,.dead,.dead] (hdS f19.body)=.next (lw 0 .dead .dead .dead .dead .dead):=rfl
 have e2:ex pg (call pg 59) (lw 0 .dead .dead .dead .dead .dead) (.setL 2 1 [] (.call 5 (.cons (.e (.c (.int 12))) .nil)))=.next (lw k0 (.own false (aD bs)) .dead .dead .dead .dead):=by
  rw[fV,bW,aCX (P:=pg) (cl:=call pg 59) (l:=1) (σ:=lw 0 .dead .dead .dead .dead .dead) (z:=(true,aT ns 0)) rfl rfl (vs:=[.cl (.int 12)]) (σ1:=lw 0 .dead .dead .dead .dead .dead) rfl (pa:=true) (cs:=aT ns 0) rfl hbx]
  rfl
 have hw:walk pg (call pg 59) (lw k0 (.own false (aD bs)) .dead .dead .dead .dead) (.rng (.c (.int 0)) (.c (.int 6)))=.ok ((List.range 6).map λ(k:Nat)=>Vl.cl (.int (k:Int)),[]):=rfl
 obtain⟨σ',e3,_⟩:=fS (P:=pg) (cl:=call pg 59) (t:=.n 3) (b:=match hdS (drp 2 f19.body) with|.for _ _ b=>b|_=>.nil) (λi σ=>∃k s2 s3 s4 s5 s6,σ=lw k s2 s3 s4 s5 s6/\k<=100+200*i/\(s2=.own false (aD bs)\/s2=BX)/\(s6=.dead\/∃dd,s6=.own2 dd)) hw ⟨k0,_,_,_,_,_,rfl,hk0,.inl rfl,.inl rfl⟩ λi hi σ ⟨k,s2,s3,s4,s5,s6,hσ,hk,h2,h6⟩=>by
  have hi':i<6:=by simpa using hi
  subst hσ
  obtain⟨w,k',o,_,hk',hwy⟩:=aET 51 ns (k:=k) (by omega) hm hm4 (m:=9) (by decide) (d:=i % 3) (by omega)
  have pl:=pF o
  have wl:w.wr.length<=4:=by unfold Way.wr;rw[lM];omega
  have rl:w.rds.length<=4:=kR _
  let lv:Sl->Sl->Sg:=λs5 s6=>lw k' BX (.sh false (.int (i:Int))) (.sh false w.d) s5 s6
  have a1:ex pg (call pg 59) (lw k s2 (.sh false (.int (i:Int))) s4 s5 s6) (.setL 4 1 [2,3] (.call 8 (.cons (.e (.v 2)) (.cons (.e (.c (.int 9))) (.cons (.e (.op .Mod (.v 3) (.c (.int 3)))) .nil)))))=.next (lv s5 s6):=by
   rw[fV]
   have ef:freeze (lw k s2 (.sh false (.int (i:Int))) s4 s5 s6) [2,3]=lw k BX (.sh false (.int (i:Int))) s4 s5 s6:=by
    rcases h2 with rfl|rfl <;> rfl
   rw[ef,aCX (P:=pg) (cl:=call pg 59) (l:=1) (σ:=lw k BX (.sh false (.int (i:Int))) s4 s5 s6) (z:=(true,aT ns k)) rfl rfl (vs:=[.cl (.lst (aD bs)),.cl (.int 9),.cl (.int ((i % 3:Nat):Int))]) (σ1:=lw k BX (.sh false (.int (i:Int))) s4 s5 s6) (aLk (cR (bZ 2 rfl)) (cR (cM _)) (cR (aMW (bZ 3 rfl) (cM (.int 3)) (by rw[pO 3 (by decide)];rfl)))) (pa:=true) (cs:=aT ns k) rfl hwy]
   rfl
  have v2:∀s5 s6,ev pg (call pg 59) (lv s5 s6) (.v 2)=.ok (.cl (.lst (aD bs))):=λ_ _=>bZ 2 rfl
  have v4:∀s5 s6,ev pg (call pg 59) (lv s5 s6) (.v 4)=.ok (.cl w.d):=λ_ _=>bZ 4 rfl
  let DU:Sl:=.own false [aY w.rds,aY w.wr]
  have a2:ex pg (call pg 59) (lv s5 s6) (.set (.n 5) (.lst (.cons (.call 16 (.cons (.v 4) .nil)) (.cons (.comp 2 [] (.t [0,1]) (.seq (.idx (.v 4) (.c (.int 1)))) .nil (.v 0)) .nil))))=.next (lv DU s6):=by
   refine sY (ds:=[aY w.rds,aY w.wr]) ?_
   rw[oR,aO,dM (v4 _ _) (aBj 26 hm4 o),aC,aO,aLq (v4 _ _) hm4 o,aC,bI]
   rfl
  have cr:∀s5 s6,ev pg (call pg 59) (lv s5 s6) (.call 11 (.cons (.v 4) .nil))=.ok ⟨aY w.rds,true,false,[]⟩:=λ_ _=>dM (v4 _ _) (aBi 26 hm4 o)
  have cw:∀s5 s6,ev pg (call pg 59) (lv s5 s6) (.call 14 (.cons (.v 4) .nil))=.ok ⟨aY w.wr,true,false,[]⟩:=λ_ _=>dM (v4 _ _) (yD 58 hm4 o)
  let F0:Sl:=.own2 [w.rds.map bB,w.wr.map bB]
  have a3:ex pg (call pg 59) (lv DU s6) (.set2 6 (.call 11 (.cons (.v 4) .nil)) (.call 14 (.cons (.v 4) .nil)))=.next (lv DU F0):=aID (cr _ _) (cw _ _) (eG nG _) (eG nG _) rfl
  have x0:∀s6,ev pg (call pg 59) (lv DU s6) (.idx (.v 5) (.c (.int 0)))=.ok ⟨aY w.rds,false,false,[5]⟩:=λ_=>cZ (sZ 5 rfl) (cM _) rfl
  have x1:∀s6,ev pg (call pg 59) (lv DU s6) (.idx (.v 5) (.c (.int 1)))=.ok ⟨aY w.wr,false,false,[5]⟩:=λ_=>cZ (sZ 5 rfl) (cM _) rfl
  have l1:=qX 57 w.rds (by omega)
  have l2:=qX 57 w.wr (by omega)
  have nil:∀s6,evP pg (call pg 59) (lv DU s6) .nil=.ok []:=λ_=>rfl
  have a4:ex pg (call pg 59) (lv DU F0) (hdS (drp 3 (match hdS (drp 2 f19.body) with|.for _ _ b=>b|_=>.nil)))=.next (lv DU F0):=
   eF (aDl (rU (k:=true) (tL (aFc rfl rfl (aLt (x0 _) (nil _))) l1)) (rU (k:=true) (tL (aFc rfl rfl (aLt (x1 _) (nil _))) l2)))
  have a5:ex pg (call pg 59) (lv DU F0) (hdS (drp 4 (match hdS (drp 2 f19.body) with|.for _ _ b=>b|_=>.nil)))=.next (lv DU F0):=
   eF (rU (k:=true) (tL (p_v (v2 _ _) (p_v (v4 _ _) (aFc rfl rfl (aFc rfl rfl (nil _))))) (aBk 26 T hm4 o)))
  have a6:ex pg (call pg 59) (lv DU F0) (.app2 6 0 (.c (.int 7)))=.next (lv DU (.own2 [w.rds.map bB++[.int 7],w.wr.map bB])):=aDy (σ:=lv DU F0) (i:=6) (k:=0) (d:=.int 7) (dss:=[w.rds.map bB,w.wr.map bB]) (ds:=w.rds.map bB) rfl rfl rfl (by rw[lM];omega)
  have a7:ex pg (call pg 59) (lv DU (.own2 [w.rds.map bB++[.int 7],w.wr.map bB])) (.app2 6 1 (.c (.int 7)))=.next (lv DU (.own2 [w.rds.map bB++[.int 7],w.wr.map bB++[.int 7]])):=aDy (σ:=lv DU (.own2 [w.rds.map bB++[.int 7],w.wr.map bB])) (i:=6) (k:=1) (d:=.int 7) (dss:=[w.rds.map bB++[.int 7],w.wr.map bB]) (ds:=w.wr.map bB) rfl rfl rfl (by rw[lM];omega)
  have a8:ex pg (call pg 59) (lv DU (.own2 [w.rds.map bB++[.int 7],w.wr.map bB++[.int 7]])) (hdS (drp 7 (match hdS (drp 2 f19.body) with|.for _ _ b=>b|_=>.nil)))=.next (lv DU (.own2 [w.rds.map bB++[.int 7],w.wr.map bB++[.int 7]])):=
   eF (aDl (rU (k:=true) (aAi (cr _ _) (x0 _) l1)) (rU (k:=true) (aAi (cw _ _) (x1 _) l2)))
  refine⟨lw k s2 (.sh false (.int (i:Int))) s4 s5 s6,_,?_,cs a1 (cs a2 (cs a3 (cs a4 (cs a5 (cs a6 (cs a7 (gY a8))))))),k',_,_,_,_,_,rfl,by omega,.inr rfl,.inr ⟨_,rfl⟩⟩
  rw[Ch,List.getElem_range,kP]
  rfl
 exact cs e1 (cs e2 (cs e3 (dQ (cM _))))
end K14
end
noncomputable section
set_option maxRecDepth 100000
set_option maxHeartbeats 0
namespace K14
open PySem PySem.W L2 Hp Hh
def ix:List (Nat×List Str):=(1,["one", "ahead", "behind", "word", "left", "right"]) ::
 (2,["cond", "ahead", "behind", "word", "left", "right"]) ::
 (8,["boxes", "way", "stand", "held", "box", "one", "amount"]) ::
 (12,["_law_script", "_law_k", "_law_base"]) ::
 (13,["_law_pen", "_law_many", "_law_cell_here"]) ::
 (14,["_law_pen", "_law_most", "_law_boxes_here", "_law_room", "_law_k", "_law_top", "_law_letter"]) ::
 (15,["_law_pen", "_law_boxes_here", "_law_deep", "_law_way_here"]) ::
 (16,["_law_pen", "_law_boxes_here", "_law_deep", "_law_way_here"]) ::
 (17,["_law_pen", "_law_boxes_here", "_law_places", "_law_deep", "_law_guard", "_law_puts", "_law_k"]) ::
 (3,["one"]) ::
 (4,["one", "found", "inner"]) ::
 (9,["way", "found", "box", "one"]) ::
 (21,["_law_boxes_here", "_law_found", "_law_name", "_law_top", "_law_longer", "_law_stand"]) ::
 (22,["_law_thing"]) ::
 (10,["way"]) ::
 (23,["_law_one", "_law_found", "_law_part"]) ::
 (24,["_law_way_here", "_law_found", "_law_box", "_law_one"]) ::
 (25,["_law_found", "_law_due"]) ::
 (26,["_law_boxes_here", "_law_way_here", "_law_read_here", "_law_written", "_law_seen", "_law_stand", "_law_after", "_law_key"]) ::
 (27,["_law_script", "_law_pen", "_law_boxes_here", "_law_k", "_law_way_here", "_law_due", "_law_found"])::[]
def sn:Sn:=⟨[("GUARD",(.int 0)),("PUTS",(.int 1))],[]⟩
abbrev pw:=PySem.Challenge.pw_handpromise_k14_reads_and_writes
theorem chk:gP ⟨[],[],(ix.map (mS pw)).map (·.x),sn.cns,[],true,sn.tbs.map (·.1)⟩ pg.fns (ix.map (mS pw))=true:=by decide +kernel
theorem tw0:(pw.main.body.length != 0)=true:=by k_qdec
theorem lft:LeftO pw (qQ pw) (sN pw) (λ_=>true) (λs=>iG pw sn s.heap) (λw=>lK pw sn w) 100000:=aIc (by kernel_rfl) rfl (λ_=>by kernel_rfl) λw os=>byRow2 "special-get-raises" (P:=λw=>aKV pw (qQ pw) (sN pw) (λs=>iG pw sn s.heap) 100000 w os=some (true,openGood (qQ pw) (sN pw),lK pw sn w)) (λw=>by
 have _:=tw0;unfold pw;rw[PySem.W.Fast.te12670482717721321248];kernel_rfl) (λw=>by
 have _:=tw0;unfold pw;rw[PySem.W.Fast.te12670482717721321248];kernel_rfl) w
end K14
end
noncomputable section
open PySem PySem.W PyProof.Rows Hh
set_option maxRecDepth 100000 in
set_option maxHeartbeats 0 in
theorem PySem.Challenge.cw_handpromise_k14_reads_and_writes_holds : PySem.Challenge.rw_handpromise_k14_reads_and_writes.Holds := by
 w_on; o_law; rename_i said
 refine aIh (l := PySem.Challenge.rw_handpromise_k14_reads_and_writes) (k := 59) (f := 19) (x := "_law_script") (sl := ["_law_pen", "_law_boxes_here", "_law_k", "_law_way_here", "_law_due", "_law_found"]) said K14.lft (by kernel_rfl) (by kernel_rfl) rfl rfl (by decide +kernel) ⟨rfl, rfl, rfl, rfl, rfl, by decide +kernel⟩ ?hw rfl rfl (by decide +kernel) (by decide +kernel) K14.chk rfl (by decide +kernel) ⟨rfl, rfl, by decide, by decide⟩ (by kernel_rfl) rfl K14.pure
 w_witness2
end
